import PyProof.Rows.All
import Wide.All
import OpenK.AllK
import Wide.FinOn
import HandS.ExcInit
import KE.KExcInit
import KE.KExcIs
import HandS.ForMost
import HandS.Wide
import HandS.Zip
import HandS.Style
import HandS.IsInst
import HandS.Walk
import HandS.TupAny
import HandS.Defaults
import KE.DataMinMax
import KE.GoesNew
import HandS.NoneIn
import HandS.Deep
import HandS.More
import HandS.TupMul
import HandS.Conv
import KE.KTupSum
import HandS.Text
import HandS.Iter
import HandS.RevRange
import KE.GoesMore
import PyProof.StrBlock2
import HandS.Star
import HandS.Dict
import HandS.SortKw
import KE.KDictZip
import KE.GoesEnum
import KE.KDictItemsList
import KE.KItemsList
import HandS.ListItems
import PyProof.P3In
import HandS.CallSlots
import HandS.WordsExc
import HandS.ExcOwn
import HandS.Finally
import HandS.NamedTupGet
import HandS.OwnIter
import HandS.FStr
import PyProof.CallFns
import PyProof.InstSpecial
import HandS.NestedK
import HandS.EndTab
import PyProof.SumAny
import PyProof.ListOps
import PyProof.Walks
import PyProof.FactsAll.subtypes_4
import HandS.ExcValue
import KE.SortData
import KE.KeyNested
import KE.KDictKeyed
import HandS.TupSets
import HandS.SetBool
import PyProof.ReprReads
import HandS.Ends
import PyProof.ReprRoads
import PyProof.ReprLen
import PyProof.Rows.StrJoinRep
import PyProof.Rows.StrCountLaw
import PyProof.P3Eq
import KE.KNestM
import PySem.Challenge.RW_dunebooks_k89_whole_yards_beside_each_ot
set_option Elab.async false
set_option linter.all false
set_option maxRecDepth 100000
namespace L2
open PySem PySem.Spec PyProof.Rows
structure OwnX (K : PySem.W.Frag) (C : Addr) (newId : String) (tl : List Value) : Prop where
  cls : ∃ nm q N bs sn sub ab col dd k0 k1 k2 k3 k5, K.lookup C = some (excClassObj nm q C N bs tl true sn sub ab col dd k0 k1 k2 k3 k5 newId)
  sa : PySem.W.findIn K (.ref C) "__setattr__" = some (some (.builtin "object.__setattr__"))
  exC : PySem.W.subIn K (.ref C) (.type "BaseException") = some true
  tyC : PySem.W.typeIn K (.ref C) = some (.type "type")
  kC : PySem.W.keepIn K (.ref C) = true
end L2
namespace L2
open PySem PySem.Spec PyProof.Rows
def exk (a C dd : Addr) : HO := .ext fun h => ∃ (oe : Obj) (vs : Array Value), h.get? a = some oe ∧ oe.cls = .ref C ∧ oe.dict = some dd ∧ oe.data = .fields vs
def xfield (c : Str) : Str :=
  if c = "Clash" then "places" else if c = "Against" then "place" else if c = "Astray" then "number" else if c = "BadText" then "at" else if c = "BadRow" then "row" else
  if c = "NoPost" then "post" else if c = "NoOrder" then "number" else if c = "NoCore" then "core" else "many"
inductive XB where
  | v | l | o
def xb (c : Str) : XB := if c ∈ (["Clash", "Against", "Unlike", "Astray", "BadText", "BadRow"] : List Str) then .v else if c = "TooMany" then .o else .l
def XB.tl : XB → List String
  | .v => ["ValueError", "Exception", "BaseException", "object"]
  | .l => ["LookupError", "Exception", "BaseException", "object"]
  | .o => ["OverflowError", "ArithmeticError", "Exception", "BaseException", "object"]
def XB.nm : XB → String
  | .v => "ValueError"
  | .l => "LookupError"
  | .o => "OverflowError"
def XB.new : XB → String
  | .v => "ValueError.__new__"
  | .l => "LookupError.__new__"
  | .o => "OverflowError.__new__"
end L2
namespace Pl
open PySem PySem.Spec PyProof.Rows L2
inductive D where
  | non | bl (b : Bool) | int (i : Int) | str (x : Str) | lst (xs : List D) | tup (xs : List D) | scr (ns : List Int) | adr (a : Addr) | exc (c : Str) (y : D)
mutual
inductive Rep (K : PySem.W.Frag) (F : Hp) : V → D → Prop
  | non : Rep K F .non .non
  | bl (b : Bool) : Rep K F (.bl b) (.bl b)
  | int (i : Int) : Rep K F (.int i) (.int i)
  | str (x : Str) : Rep K F (.str x) (.str x)
  | lst {a : Addr} {vs : List V} {ds : List D} : F a = some (.lst vs) → Reps K F vs ds → Rep K F (.ref a) (.lst ds)
  | tup {a : Addr} {vs : List V} {ds : List D} : F a = some (.tup vs) → Reps K F vs ds → Rep K F (.ref a) (.tup ds)
  | scr {a : Addr} {ns : List Int} : SqL K F a (ns.map V.int) → Rep K F (.ref a) (.scr ns)
  | adr (a : Addr) : Rep K F (.ref a) (.adr a)
  | exc {a C dd : Addr} {v : V} {c : Str} {y : D} : PySem.W.nsIn K mainGlobals c = some (some (.ref C)) → F a = some (exk a C dd) → F dd = some (.xd [(xfield c, v)]) → Rep K F v y → Rep K F (.ref a) (.exc c y)
inductive Reps (K : PySem.W.Frag) (F : Hp) : List V → List D → Prop
  | nil : Reps K F [] []
  | cons {v : V} {vs : List V} {d : D} {ds : List D} : Rep K F v d → Reps K F vs ds → Reps K F (v :: vs) (d :: ds)
end
section
variable {K : PySem.W.Frag} {F F' : Hp}
mutual
theorem Rep.mono (e : Same F F') : ∀ {v : V} {d : D}, Rep K F v d → Rep K F' v d
  | _, _, .non => .non
  | _, _, .bl b => .bl b
  | _, _, .int i => .int i
  | _, _, .str x => .str x
  | _, _, .lst h r => .lst (e _ _ h) (Reps.mono e r)
  | _, _, .tup h r => .tup (e _ _ h) (Reps.mono e r)
  | _, _, .scr h => .scr (e.seq h)
  | _, _, .adr a => .adr a
  | _, _, .exc h1 h2 h3 r => .exc h1 (e _ _ h2) (e _ _ h3) (Rep.mono e r)
theorem Reps.mono (e : Same F F') : ∀ {vs : List V} {ds : List D}, Reps K F vs ds → Reps K F' vs ds
  | _, _, .nil => .nil
  | _, _, .cons h r => .cons (Rep.mono e h) (Reps.mono e r)
end
theorem Reps.length : ∀ {vs : List V} {ds : List D}, Reps K F vs ds → vs.length = ds.length
  | _, _, .nil => rfl
  | _, _, .cons _ r => by simp [Reps.length r]
theorem Reps.get : ∀ {vs : List V} {ds : List D} {i : Nat} {d : D}, Reps K F vs ds → ds[i]? = some d → ∃ v, vs[i]? = some v ∧ Rep K F v d
  | _, _, _, _, .nil, e => by simp at e
  | _, _, 0, _, .cons r _, e => by simp at e; subst e; exact ⟨_, rfl, r⟩
  | _, _, i + 1, d, .cons _ t, e => by
    obtain ⟨u, h1, h2⟩ := Reps.get (i := i) (d := d) t (by simpa using e)
    exact ⟨u, by simpa using h1, h2⟩
theorem Reps.append : ∀ {vs ws : List V} {ds es : List D}, Reps K F vs ds → Reps K F ws es → Reps K F (vs ++ ws) (ds ++ es)
  | _, _, _, _, .nil, s => s
  | _, _, _, _, .cons r t, s => .cons r (Reps.append t s)
theorem Reps.one {v : V} {d : D} (h : Rep K F v d) : Reps K F [v] [d] := .cons h .nil
theorem Reps.set {v : V} {d : D} (r : Rep K F v d) : ∀ {vs : List V} {ds : List D} (i : Nat), Reps K F vs ds → Reps K F (vs.set i v) (ds.set i d)
  | _, _, _, .nil => .nil
  | _, _, 0, .cons _ t => .cons r t
  | _, _, i + 1, .cons q t => .cons q (Reps.set r i t)
theorem Reps.drop : ∀ {vs : List V} {ds : List D} (n : Nat), Reps K F vs ds → Reps K F (vs.drop n) (ds.drop n)
  | _, _, 0, h => h
  | _, _, _ + 1, .nil => .nil
  | _, _, n + 1, .cons _ t => Reps.drop n t
theorem Reps.take : ∀ {vs : List V} {ds : List D} (n : Nat), Reps K F vs ds → Reps K F (vs.take n) (ds.take n)
  | _, _, 0, _ => .nil
  | _, _, _ + 1, .nil => .nil
  | _, _, n + 1, .cons r t => .cons r (Reps.take n t)
theorem Reps.reverse : ∀ {vs : List V} {ds : List D}, Reps K F vs ds → Reps K F vs.reverse ds.reverse
  | _, _, .nil => .nil
  | _, _, .cons r t => by
    rw [List.reverse_cons, List.reverse_cons]
    exact (Reps.reverse t).append (.one r)
theorem Reps.ints : ∀ {vs : List V} {ns : List Int}, Reps K F vs (ns.map D.int) → vs = ns.map V.int
  | _, [], .nil => rfl
  | _, n :: ns, .cons h t => by cases h; rw [Reps.ints t]; rfl
theorem Reps.ofInts : ∀ (ns : List Int), Reps K F (ns.map V.int) (ns.map D.int)
  | [] => .nil
  | n :: ns => .cons (.int n) (Reps.ofInts ns)
theorem Reps.bls : ∀ {vs : List V} {bs : List Bool}, Reps K F vs (bs.map D.bl) → vs = bs.map V.bl
  | _, [], .nil => rfl
  | _, n :: ns, .cons h t => by cases h; rw [Reps.bls t]; rfl
end
inductive Fd where
  | val (d : D) | own (a : Addr) (xs : List D)
def IsDic (φ : Heap → Prop) : Prop := ∃ a : Addr, ∀ h : Heap, φ h → ∃ (o : Obj) (es : Array DictEntry) (ep : Nat), h.get? a = some o ∧ o.data = .dict es ep
def Mut : HO → Prop
  | .lst _ => True
  | .dK _ => True
  | .ins _ _ _ => True
  | .own _ => True
  | .frz _ _ => True
  | .dT _ => True
  | .ext φ => IsDic φ
  | _ => False
structure GS where
  root : Addr
  foot : List Addr
  at' : PySem.W.Frag → Hp → Hp → Prop
  mono : ∀ {K : PySem.W.Frag} {F F' H H' : Hp}, at' K F H → Same F F' → (∀ p ∈ foot, H' p = H p) → at' K F' H'
  muts : ∀ {K : PySem.W.Frag} {F H : Hp}, at' K F H → ∀ p ∈ foot, ∃ o, H p = some o ∧ Mut o
  nl : Bool
  drop : nl = true → ∀ {K : PySem.W.Frag} {F F' H : Hp}, (∀ b xs, F b = some (.tup xs) → F' b = some (.tup xs)) → at' K F H → at' K F' H
inductive Sh where
  | dic (a : Addr) (ps : List (L2.Key × D)) | ins (a C dx : Addr) (fs : List (Str × Fd))
  | dicL (a : Addr) (o : Obj) (kvs : List (L2.Key × V)) (ps : List (L2.Key × D))
  | gen (g : GS)
inductive Cell where
  | val (d : D) | own (a : Addr) (xs : List D) | box (s : Sh)
abbrev Ro := List (Option Cell)
def KvR (K : PySem.W.Frag) (F : Hp) : List (L2.Key × V) → List (L2.Key × D) → Prop
  | [], [] => True
  | p :: ps, q :: qs => p.1 = q.1 ∧ Rep K F p.2 q.2 ∧ KvR K F ps qs
  | _, _ => False
def Fd.foot : Fd → List Addr
  | .val _ => []
  | .own a _ => [a]
def Fd.At (K : PySem.W.Frag) (F H : Hp) (v : V) : Fd → Prop
  | .val d => Rep K F v d
  | .own a xs => v = .ref a ∧ ∃ vs, H a = some (.lst vs) ∧ Reps K F vs xs
def FsR (K : PySem.W.Frag) (F H : Hp) : List (Str × V) → List (Str × Fd) → Prop
  | [], [] => True
  | p :: ps, q :: qs => p.1 = q.1 ∧ q.2.At K F H p.2 ∧ FsR K F H ps qs
  | _, _ => False
def fsFoot (fs : List (Str × Fd)) : List Addr := fs.flatMap fun p => p.2.foot
def Sh.root : Sh → Addr
  | .dic a _ => a
  | .ins a _ _ _ => a
  | .dicL a _ _ _ => a
  | .gen g => g.root
def Sh.foot : Sh → List Addr
  | .dic a _ => [a]
  | .ins a _ dx fs => a :: dx :: fsFoot fs
  | .dicL a _ _ _ => [a]
  | .gen g => g.foot
def Sh.At (K : PySem.W.Frag) (F H : Hp) : Sh → Prop
  | .dic a ps => ∃ kvs, H a = some (.dK kvs) ∧ KvR K F kvs ps
  | .ins a C dx fs => (fsFoot fs).Nodup ∧ ∃ vs, H a = some (.ins C dx vs) ∧ H dx = some (.own a) ∧ FsR K F H vs fs
  | .dicL a o kvs ps => H a = some (.frz o (.dK kvs)) ∧ KvR K F kvs ps
  | .gen g => g.at' K F H
theorem KvR.mono {K : PySem.W.Frag} {F F' : Hp} (sm : Same F F') : ∀ {kvs : List (L2.Key × V)} {ps : List (L2.Key × D)}, KvR K F kvs ps → KvR K F' kvs ps
  | [], [], _ => trivial
  | _ :: _, _ :: _, h => ⟨h.1, h.2.1.mono sm, KvR.mono sm h.2.2⟩
  | [], _ :: _, h => h.elim
  | _ :: _, [], h => h.elim
theorem FsR.mono {K : PySem.W.Frag} {F F' H H' : Hp} (sm : Same F F') : ∀ {vs : List (Str × V)} {fs : List (Str × Fd)}, (∀ p ∈ fsFoot fs, H' p = H p) → FsR K F H vs fs → FsR K F' H' vs fs
  | [], [], _, _ => trivial
  | (x, v) :: vs, (y, .val d) :: fs, e, h => ⟨h.1, h.2.1.mono sm, FsR.mono sm e h.2.2⟩
  | (x, v) :: vs, (y, .own a xs) :: fs, e, h => ⟨h.1, by
    obtain ⟨h1, ws, h2, h3⟩ := h.2.1
    exact ⟨h1, ws, by rw [e a (List.mem_cons_self)]; exact h2, h3.mono sm⟩, FsR.mono sm (fun p m => e p (List.mem_cons_of_mem _ m)) h.2.2⟩
  | [], _ :: _, _, h => h.elim
  | _ :: _, [], _, h => h.elim
theorem FsR.live {K : PySem.W.Frag} {F H : Hp} : ∀ {vs : List (Str × V)} {fs : List (Str × Fd)}, FsR K F H vs fs → ∀ p ∈ fsFoot fs, ∃ o, H p = some o
  | [], [], _, p, m => by cases m
  | (x, v) :: vs, (y, .val d) :: fs, h, p, m => FsR.live h.2.2 p m
  | (x, v) :: vs, (y, .own a xs) :: fs, h, p, m => by
    have m : p ∈ a :: fsFoot fs := m
    rcases List.mem_cons.mp m with rfl | m
    · obtain ⟨h1, ws, h2, h3⟩ := h.2.1
      exact ⟨_, h2⟩
    · exact FsR.live h.2.2 p m
  | [], _ :: _, h, _, _ => h.elim
  | _ :: _, [], h, _, _ => h.elim
theorem Sh.At.mono {K : PySem.W.Frag} {F F' H H' : Hp} {s : Sh} (h : s.At K F H) (sm : Same F F') (e : ∀ p ∈ s.foot, H' p = H p) : s.At K F' H' := by
  cases s with
  | dic a ps =>
    obtain ⟨kvs, h1, h2⟩ := h
    exact ⟨kvs, by rw [e a (by simp [Sh.foot])]; exact h1, h2.mono sm⟩
  | ins a C dx fs =>
    obtain ⟨n, vs, h1, h2, h3⟩ := h
    exact ⟨n, vs, by rw [e a (by simp [Sh.foot])]; exact h1, by rw [e dx (by simp [Sh.foot])]; exact h2, h3.mono sm fun p m => e p (by simp [Sh.foot, m])⟩
  | dicL a o kvs ps => exact ⟨by rw [e a (by simp [Sh.foot])]; exact h.1, h.2.mono sm⟩
  | gen g => exact g.mono h sm e
theorem Sh.At.live {K : PySem.W.Frag} {F H : Hp} {s : Sh} (h : s.At K F H) {p : Addr} (m : p ∈ s.foot) : ∃ o, H p = some o := by
  cases s with
  | dic a ps =>
    obtain ⟨kvs, h1, h2⟩ := h
    rw [List.mem_singleton.mp m]; exact ⟨_, h1⟩
  | ins a C dx fs =>
    obtain ⟨n, vs, h1, h2, h3⟩ := h
    have m : p ∈ a :: dx :: fsFoot fs := m
    rcases List.mem_cons.mp m with rfl | m
    · exact ⟨_, h1⟩
    rcases List.mem_cons.mp m with rfl | m
    · exact ⟨_, h2⟩
    · exact h3.live p m
  | dicL a o kvs ps => rw [List.mem_singleton.mp m]; exact ⟨_, h.1⟩
  | gen g => obtain ⟨o, q, _⟩ := g.muts h p m; exact ⟨o, q⟩
def InBox (ρ : Ro) (p : Addr) : Prop := ∃ (i : Nat) (s : Sh), ρ[i]? = some (some (.box s)) ∧ p ∈ s.foot
structure BxOk (K : PySem.W.Frag) (F G H : Hp) (σ : L2.St) (ρ : Ro) : Prop where
  box : ∀ (i : Nat) (s : Sh), ρ[i]? = some (some (.box s)) → σ[i]? = some (some (.ref s.root)) ∧ (∀ p ∈ s.foot, F p = none ∧ G p = none) ∧ s.At K F H
  bb : ∀ (i j : Nat) (s t : Sh) (p : Addr), ρ[i]? = some (some (.box s)) → ρ[j]? = some (some (.box t)) → p ∈ s.foot → p ∈ t.foot → i = j
  bo : ∀ (j : Nat) (a : Addr) (xs : List D), ρ[j]? = some (some (.own a xs)) → ¬ InBox ρ a
section
variable {K : PySem.W.Frag} {F F' G G' H H' : Hp} {σ σ' : L2.St} {ρ ρ' : Ro}
theorem BxOk.to (B : BxOk K F G H σ ρ) (hs : Same F F') (hp : ∀ p, InBox ρ p → F' p = none ∧ G' p = none ∧ H' p = H p) (hb : ∀ (i : Nat) (s : Sh), ρ'[i]? = some (some (.box s)) → ρ[i]? = some (some (.box s)) ∧ σ'[i]? = σ[i]?)
    (ho : ∀ (j : Nat) (a : Addr) (xs : List D), ρ'[j]? = some (some (.own a xs)) → (∃ (k : Nat) (ys : List D), ρ[k]? = some (some (.own a ys))) ∨ ¬ InBox ρ a) : BxOk K F' G' H' σ' ρ' := by
  refine ⟨fun i s q => ?_, fun i j s t p q1 q2 m1 m2 => B.bb i j s t p (hb i s q1).1 (hb j t q2).1 m1 m2, fun j a xs q m => ?_⟩
  · obtain ⟨h1, h2⟩ := hb i s q
    obtain ⟨g1, g2, g3⟩ := B.box i s h1
    exact ⟨h2.trans g1, fun p m => ⟨(hp p ⟨i, s, h1, m⟩).1, (hp p ⟨i, s, h1, m⟩).2.1⟩, g3.mono hs fun p m => (hp p ⟨i, s, h1, m⟩).2.2⟩
  · have n : ¬ InBox ρ a := (ho j a xs q).elim (fun ⟨k, ys, e⟩ => B.bo k a ys e) id
    obtain ⟨i, s, h1, h2⟩ := m
    exact n ⟨i, s, (hb i s h1).1, h2⟩
theorem BxOk.free (B : BxOk K F G H σ ρ) {p : Addr} (m : InBox ρ p) : F p = none ∧ G p = none ∧ ∃ o, H p = some o := by
  obtain ⟨i, s, h1, h2⟩ := m
  obtain ⟨g1, g2, g3⟩ := B.box i s h1
  exact ⟨(g2 p h2).1, (g2 p h2).2, g3.live h2⟩
theorem BxOk.apart (B : BxOk K F G H σ ρ) {p a : Addr} {j : Nat} {xs : List D} (m : InBox ρ p) (e : ρ[j]? = some (some (.own a xs))) : p ≠ a := fun z => by
  subst z
  exact B.bo j _ xs e m
theorem BxOk.heap (B : BxOk K F G H σ ρ) (hs : Same F F') (hp : ∀ p, InBox ρ p → F' p = none ∧ G' p = none ∧ H' p = H p) : BxOk K F' G' H' σ ρ := B.to hs hp (fun i s q => ⟨q, rfl⟩) fun j a xs q => .inl ⟨j, xs, q⟩
theorem BxOk.nil (h : ∀ (i : Nat) (s : Sh), ρ[i]? ≠ some (some (.box s))) : BxOk K F G H σ ρ := ⟨fun i s q => absurd q (h i s), fun i j s t p q1 _ _ _ => absurd q1 (h i s), fun j a xs q m => by
  obtain ⟨i, s, h1, _⟩ := m
  exact h i s h1⟩
theorem BxOk.fresh (B : BxOk K F G H σ ρ) {a : Addr} (h : H a = none) : ¬ InBox ρ a := fun m => by
  obtain ⟨_, _, o, e⟩ := B.free m
  rw [h] at e; cases e
theorem BxOk.notG (B : BxOk K F G H σ ρ) {a : Addr} {o : HO} (h : G a = some o) : ¬ InBox ρ a := fun m => by
  have := (B.free m).2.1
  rw [h] at this; cases this
theorem BxOk.unguard (B : BxOk K F G' H σ ρ) (h : Same G G') : BxOk K F G H σ ρ := B.heap (.refl _) fun p m => ⟨(B.free m).1, h.free (B.free m).2.1, rfl⟩
theorem BxOk.guard (B : BxOk K F G H σ ρ) {p : Addr} {o : HO} (h : ¬ InBox ρ p) : BxOk K F (upd G p o) H σ ρ := B.heap (.refl _) fun q m => ⟨(B.free m).1, by rw [upd_ne (a := p) (b := q) fun z => h (by rw [← z]; exact m)]; exact (B.free m).2.1, rfl⟩
theorem BxOk.upd' (B : BxOk K F G H σ ρ) {p : Addr} {o : HO} (h : ¬ InBox ρ p) : BxOk K F G (upd H p o) σ ρ := B.heap (.refl _) fun q m => ⟨(B.free m).1, (B.free m).2.1, upd_ne fun z => h (by rw [← z]; exact m)⟩
theorem BxOk.new (B : BxOk K F G H σ ρ) {p : Addr} {o : HO} (hF : F p = none) (h : H p = none) : BxOk K (upd F p o) G (upd H p o) σ ρ := B.heap (fun b x e => by rw [upd_ne (ne_of_none e hF)]; exact e) fun q m => by
  obtain ⟨f, g, o, e⟩ := B.free m
  have n : q ≠ p := ne_of_none e h
  exact ⟨by rw [upd_ne n]; exact f, g, by rw [upd_ne n]⟩
theorem BxOk.more (B : BxOk K F G H σ ρ) {p : Addr} {o : HO} (h : H p = none) : BxOk K F G (upd H p o) σ ρ := B.heap (.refl _) fun q m => by
  obtain ⟨f, g, o, e⟩ := B.free m
  have n : q ≠ p := ne_of_none e h
  exact ⟨f, g, by rw [upd_ne n]⟩
theorem set_box {i j : Nat} {c : Option Cell} {s : Sh} (hc : ∀ t, c ≠ some (.box t)) (q : (ρ.set i c)[j]? = some (some (.box s))) : ρ[j]? = some (some (.box s)) ∧ i ≠ j := by
  by_cases hj : i = j
  · subst hj
    by_cases hi : i < ρ.length
    · rw [List.getElem?_set_self hi] at q; exact absurd (Option.some.inj q) (hc s)
    · rw [List.getElem?_eq_none (by simpa using hi)] at q; cases q
  · rw [List.getElem?_set_ne hj] at q; exact ⟨q, hj⟩
theorem set_inbox {i : Nat} {c : Option Cell} {p : Addr} (hc : ∀ t, c ≠ some (.box t)) : InBox (ρ.set i c) p → InBox ρ p := fun ⟨j, s, e, m⟩ => ⟨j, s, (set_box hc e).1, m⟩
theorem set_own {i j : Nat} {c : Option Cell} {a : Addr} {xs : List D} (q : (ρ.set i c)[j]? = some (some (.own a xs))) : c = some (.own a xs) ∨ ρ[j]? = some (some (.own a xs)) := by
  by_cases hj : i = j
  · subst hj
    by_cases hi : i < ρ.length
    · rw [List.getElem?_set_self hi] at q; exact .inl (Option.some.inj q)
    · rw [List.getElem?_eq_none (by simpa using hi)] at q; cases q
  · rw [List.getElem?_set_ne hj] at q; exact .inr q
theorem BxOk.set (B : BxOk K F G H σ ρ) (i : Nat) (v : Option V) {c : Option Cell} (hc : ∀ t, c ≠ some (.box t)) (ho : ∀ a xs, c = some (.own a xs) → (∃ (k : Nat) (ys : List D), ρ[k]? = some (some (.own a ys))) ∨ ¬ InBox ρ a) : BxOk K F G H (σ.set i v) (ρ.set i c) :=
  B.to (.refl _) (fun p m => ⟨(B.free m).1, (B.free m).2.1, rfl⟩) (fun j s q => ⟨(set_box hc q).1, List.getElem?_set_ne (set_box hc q).2⟩) fun j a xs q => (set_own q).elim (ho a xs) fun q => .inl ⟨j, xs, q⟩
theorem BxOk.set' (B : BxOk K F G H σ ρ) (i : Nat) {c : Option Cell} (hc : ∀ t, c ≠ some (.box t)) (ho : ∀ a xs, c = some (.own a xs) → (∃ (k : Nat) (ys : List D), ρ[k]? = some (some (.own a ys))) ∨ ¬ InBox ρ a) : BxOk K F G H σ (ρ.set i c) :=
  B.to (.refl _) (fun p m => ⟨(B.free m).1, (B.free m).2.1, rfl⟩) (fun j s q => ⟨(set_box hc q).1, rfl⟩) fun j a xs q => (set_own q).elim (ho a xs) fun q => .inl ⟨j, xs, q⟩
end
structure Up (G F F' : Hp) : Prop where
  ex : Same F F'
  out : ∀ a o, F' a = some o → F a = some o ∨ G a = none
theorem Up.refl (G F : Hp) : Up G F F := ⟨.refl F, fun _ _ h => .inl h⟩
theorem Up.trans {G F F1 F2 : Hp} (a : Up G F F1) (b : Up G F1 F2) : Up G F F2 := ⟨a.ex.trans b.ex, fun x o h => by
  rcases b.out x o h with h | h
  · exact a.out x o h
  · exact .inr h⟩
theorem Up.isNone {G F F' : Hp} (u : Up G F F') {a : Addr} {o : HO} (hF : F a = none) (hG : G a = some o) : F' a = none := by
  cases q : F' a with
  | none => rfl
  | some x =>
    rcases u.out a x q with h | h
    · rw [hF] at h; cases h
    · rw [hG] at h; cases h
theorem Up.less {G G' F F' : Hp} (u : Up G F F') (h : Same G' G) : Up G' F F' := ⟨u.ex, fun a o e => by
  rcases u.out a o e with q | q
  · exact .inl q
  · exact .inr (h.free q)⟩
theorem FsR.mut {K : PySem.W.Frag} {F H : Hp} : ∀ {vs : List (Str × V)} {fs : List (Str × Fd)}, FsR K F H vs fs → ∀ p ∈ fsFoot fs, ∃ o, H p = some o ∧ Mut o
  | [], [], _, p, m => by cases m
  | (x, v) :: vs, (y, .val d) :: fs, h, p, m => FsR.mut h.2.2 p m
  | (x, v) :: vs, (y, .own a xs) :: fs, h, p, m => by
    have m : p ∈ a :: fsFoot fs := m
    rcases List.mem_cons.mp m with rfl | m
    · obtain ⟨h1, ws, h2, h3⟩ := h.2.1
      exact ⟨_, h2, trivial⟩
    · exact FsR.mut h.2.2 p m
  | [], _ :: _, h, _, _ => h.elim
  | _ :: _, [], h, _, _ => h.elim
theorem Sh.At.mut {K : PySem.W.Frag} {F H : Hp} {s : Sh} (h : s.At K F H) {p : Addr} (m : p ∈ s.foot) : ∃ o, H p = some o ∧ Mut o := by
  cases s with
  | dic a ps =>
    obtain ⟨kvs, h1, h2⟩ := h
    rw [List.mem_singleton.mp m]; exact ⟨_, h1, trivial⟩
  | ins a C dx fs =>
    obtain ⟨n, vs, h1, h2, h3⟩ := h
    have m : p ∈ a :: dx :: fsFoot fs := m
    rcases List.mem_cons.mp m with rfl | m
    · exact ⟨_, h1, trivial⟩
    rcases List.mem_cons.mp m with rfl | m
    · exact ⟨_, h2, trivial⟩
    · exact h3.mut p m
  | dicL a o kvs ps => rw [List.mem_singleton.mp m]; exact ⟨_, h.1, trivial⟩
  | gen g => exact g.muts h p m
theorem BxOk.mut {K : PySem.W.Frag} {F G H : Hp} {σ : L2.St} {ρ : Ro} (B : BxOk K F G H σ ρ) {p : Addr} (m : InBox ρ p) : ∃ o, H p = some o ∧ Mut o := by
  obtain ⟨i, s, h1, h2⟩ := m
  exact (B.box i s h1).2.2.mut h2
class TJ where
  J : Hp → Hp → Hp → Prop
  step : ∀ {G F F' H H' : Hp}, J G F H → (∀ b o, H b = some o → ¬ Mut o → H' b = some o) → (∀ b o, F' b = some o → F b = some o ∨ H b = none ∨ ∃ x, H b = some x ∧ Mut x) → J G F' H'
  frame : ∀ {G G' F H : Hp}, J G F H → (∀ b o, G' b = some o → G b = some o ∨ ∃ x, H b = some x ∧ Mut x) → J G' F H
@[reducible] def tj0 : TJ := ⟨fun _ _ _ => True, fun _ _ _ => trivial, fun _ _ => trivial⟩
@[reducible] instance (priority := low) tjNone : TJ := tj0
structure SameJ [TJ] (G F H : Hp) : Prop where
  same : Same G H
  tj : TJ.J G F H
section
variable [TJ] {G G' F F' H H' : Hp}
instance : CoeFun (SameJ G F H) (fun _ => ∀ a x, G a = some x → H a = some x) := ⟨fun h => h.same⟩
instance : CoeOut (SameJ G F H) (Same G H) := ⟨fun h => h.same⟩
theorem SameJ.step (h : SameJ G F H) (e : Same H H') (f : ∀ b o, F' b = some o → F b = some o ∨ H b = none ∨ ∃ vs, H b = some (.lst vs)) : SameJ G F' H' := ⟨h.same.trans e, TJ.step h.tj (fun b o q _ => e b o q) fun b o q => (f b o q).elim .inl fun z => z.elim (fun z => .inr (.inl z)) fun ⟨vs, z⟩ => .inr (.inr ⟨_, z, trivial⟩)⟩
theorem SameJ.trans (h : SameJ G F H) (e : Same H H') : SameJ G F H' := h.step e fun _ _ q => .inl q
theorem SameJ.up (h : SameJ G F H) (e : Same H H') (u : ∀ b o, F' b = some o → F b = some o ∨ H b = none) : SameJ G F' H' := h.step e fun b o q => (u b o q).elim .inl fun z => .inr (.inl z)
theorem SameJ.new (h : SameJ G F H) {p : Addr} {o : HO} (n : H p = none) : SameJ G (upd F p o) (upd H p o) := h.up (fun b x q => by rw [upd_ne (ne_of_none q n)]; exact q) fun b x q => by
  by_cases m : b = p
  · subst m; exact .inr n
  · rw [upd_ne m] at q; exact .inl q
theorem SameJ.froz (h : SameJ G F H) (f : ∀ b o, F' b = some o → F b = some o ∨ ∃ vs, H b = some (.lst vs)) : SameJ G F' H := h.step (.refl _) fun b o q => (f b o q).elim .inl fun z => .inr (.inr z)
theorem SameJ.free (h : SameJ G F H) {a : Addr} (n : H a = none) : G a = none := h.same.free n
theorem SameJ.less (h : SameJ G F H) (e : Same G' G) : SameJ G' F H := ⟨e.trans h.same, TJ.frame h.tj fun b o q => .inl (e b o q)⟩
theorem SameJ.mut (h : SameJ G F H) {a : Addr} {o u : HO} (n : G a = none) (e : H a = some o) (mo : Mut o := by trivial) : SameJ G F (upd H a u) :=
  ⟨fun b x q => by
    have m : b ≠ a := fun z => by subst z; rw [n] at q; cases q
    rw [upd_ne m]; exact h.same b x q, TJ.step h.tj (fun b o q ne => by
    have m : b ≠ a := fun z => by subst z; rw [e] at q; exact ne ((Option.some.inj q) ▸ mo)
    rw [upd_ne m]; exact q) fun _ _ q => .inl q⟩
theorem SameJ.guard (h : SameJ G F H) {a : Addr} {o : HO} (e : H a = some o) (mo : Mut o := by trivial) : SameJ (upd G a o) F H :=
  ⟨fun b x q => by
    by_cases m : b = a
    · subst m; rw [upd_same] at q; cases q; exact e
    · rw [upd_ne m] at q; exact h.same b x q, TJ.frame h.tj fun b u q => by
    by_cases m : b = a
    · subst m; exact .inr ⟨o, e, mo⟩
    · rw [upd_ne m] at q; exact .inl q⟩
end
structure Sim [TJ] (K : PySem.W.Frag) (G F H : Hp) (σ : L2.St) (ρ : Ro) : Prop where
  hF : Same F H
  hG : SameJ G F H
  len : σ.length = ρ.length
  val : ∀ (i : Nat) (d : D), ρ[i]? = some (some (.val d)) → ∃ v, σ[i]? = some (some v) ∧ Rep K F v d
  own : ∀ (i : Nat) (a : Addr) (xs : List D), ρ[i]? = some (some (.own a xs)) → σ[i]? = some (some (.ref a)) ∧ F a = none ∧ G a = none ∧ ∃ vs, H a = some (.lst vs) ∧ Reps K F vs xs
  ne : ∀ (i j : Nat) (a : Addr) (xs ys : List D), ρ[i]? = some (some (.own a xs)) → ρ[j]? = some (some (.own a ys)) → i = j
  bx : BxOk K F G H σ ρ
structure SimR (K : PySem.W.Frag) (G F H : Hp) (σ : L2.St) (ρ : Ro) : Prop where
  hF : Same F H
  hG : Same G H
  len : σ.length = ρ.length
  val : ∀ (i : Nat) (d : D), ρ[i]? = some (some (.val d)) → ∃ v, σ[i]? = some (some v) ∧ Rep K F v d
  own : ∀ (i : Nat) (a : Addr) (xs : List D), ρ[i]? = some (some (.own a xs)) → σ[i]? = some (some (.ref a)) ∧ F a = none ∧ G a = none ∧ ∃ vs, H a = some (.lst vs) ∧ Reps K F vs xs
  ne : ∀ (i j : Nat) (a : Addr) (xs ys : List D), ρ[i]? = some (some (.own a xs)) → ρ[j]? = some (some (.own a ys)) → i = j
  bx : BxOk K F G H σ ρ
theorem Sim.raw [TJ] {K : PySem.W.Frag} {G F H : Hp} {σ : L2.St} {ρ : Ro} (S : Sim K G F H σ ρ) : SimR K G F H σ ρ := ⟨S.hF, S.hG.same, S.len, S.val, S.own, S.ne, S.bx⟩
theorem SimR.sim {K : PySem.W.Frag} {G F H : Hp} {σ : L2.St} {ρ : Ro} (S : SimR K G F H σ ρ) : Sim K G F H σ ρ := ⟨S.hF, ⟨S.hG, trivial⟩, S.len, S.val, S.own, S.ne, S.bx⟩
theorem SameJ.rfl' (F H : Hp) : SameJ H F H := ⟨.refl H, trivial⟩
theorem SameJ.of {G F H : Hp} (h : Same G H) : SameJ G F H := ⟨h, trivial⟩
section
variable [TJ] {K : PySem.W.Frag} {G F H : Hp} {σ : L2.St} {ρ : Ro}
theorem Sim.freshF (S : Sim K G F H σ ρ) {p : Addr} (h : H p = none) : F p = none := S.hF.free h
theorem Sim.freshG (S : Sim K G F H σ ρ) {p : Addr} (h : H p = none) : G p = none := S.hG.free h
theorem same_new {H : Hp} {p : Addr} {o : HO} (h : H p = none) : Same H (upd H p o) := fun b x e => by
  rw [upd_ne (ne_of_none e h)]
  exact e
theorem Up.new {p : Addr} {o : HO} (hF : F p = none) (hG : G p = none) : Up G F (upd F p o) := ⟨same_new hF, fun a x e => by
  by_cases q : a = p
  · subst q; exact .inr hG
  · rw [upd_ne q] at e; exact .inl e⟩
theorem Sim.new (S : Sim K G F H σ ρ) {p : Addr} {o : HO} (h : H p = none) : Sim K G (upd F p o) (upd H p o) σ ρ where
  hF := fun a x e => by
    by_cases q : a = p
    · subst q; rw [upd_same] at e ⊢; exact e
    · rw [upd_ne q] at e ⊢; exact S.hF a x e
  hG := S.hG.new h
  len := S.len
  val := fun i d e => by
    obtain ⟨v, h1, h2⟩ := S.val i d e
    exact ⟨v, h1, h2.mono (same_new (S.freshF h))⟩
  own := fun i a xs e => by
    obtain ⟨h1, h2, h3, vs, h4, h5⟩ := S.own i a xs e
    have q : a ≠ p := ne_of_none h4 h
    exact ⟨h1, by rw [upd_ne q]; exact h2, h3, vs, by rw [upd_ne q]; exact h4, h5.mono (same_new (S.freshF h))⟩
  ne := S.ne
  bx := S.bx.new (S.freshF h) h
theorem Sim.upNew (S : Sim K G F H σ ρ) {p : Addr} {o : HO} (h : H p = none) : Up G F (upd F p o) := Up.new (S.freshF h) (S.freshG h)
theorem Sim.more (S : Sim K G F H σ ρ) {p : Addr} {o : HO} (h : H p = none) : Sim K G F (upd H p o) σ ρ where
  hF := S.hF.trans (same_new h)
  hG := S.hG.trans (same_new h)
  len := S.len
  val := S.val
  own := fun i a xs e => by
    obtain ⟨h1, h2, h3, vs, h4, h5⟩ := S.own i a xs e
    exact ⟨h1, h2, h3, vs, by rw [upd_ne (ne_of_none h4 h)]; exact h4, h5⟩
  ne := S.ne
  bx := S.bx.more h
theorem Sim.mut (S : Sim K G F H σ ρ) {i : Nat} {a : Addr} {xs ys : List D} {vs : List V} (e : ρ[i]? = some (some (.own a xs))) (r : Reps K F vs ys) :
    Sim K G F (upd H a (.lst vs)) σ (ρ.set i (some (.own a ys))) := by
  obtain ⟨h1, h2, h3, ws, h4, h5⟩ := S.own i a xs e
  have hi : i < ρ.length := by
    rcases Nat.lt_or_ge i ρ.length with h | h
    · exact h
    · rw [List.getElem?_eq_none h] at e; cases e
  refine ⟨fun b x q => ?_, S.hG.mut h3 h4, by simpa using S.len, fun j d q => ?_, fun j b zs q => ?_, fun j k b zs ws q1 q2 => ?_, S.bx.to (.refl _) (fun q m => ⟨(S.bx.free m).1, (S.bx.free m).2.1, upd_ne (S.bx.apart m e)⟩) (fun j s q => ⟨(set_box (by simp) q).1, rfl⟩) fun j b zs q => (set_own q).elim (fun z => by cases z; exact .inl ⟨i, xs, e⟩) fun q => .inl ⟨j, zs, q⟩⟩
  · have n : b ≠ a := fun z => by subst z; rw [h2] at q; cases q
    rw [upd_ne n]; exact S.hF b x q
  · by_cases hj : i = j
    · subst hj; rw [List.getElem?_set_self hi] at q; cases q
    · rw [List.getElem?_set_ne hj] at q; exact S.val j d q
  · by_cases hj : i = j
    · subst hj
      rw [List.getElem?_set_self hi] at q
      cases q
      exact ⟨h1, h2, h3, vs, upd_same, r⟩
    · rw [List.getElem?_set_ne hj] at q
      obtain ⟨g1, g2, g3, us, g4, g5⟩ := S.own j b zs q
      have n : b ≠ a := fun z => by subst z; exact hj (S.ne _ _ _ _ _ e q)
      exact ⟨g1, g2, g3, us, by rw [upd_ne n]; exact g4, g5⟩
  · by_cases hj : i = j
    · subst hj
      by_cases hk : i = k
      · exact hk
      · rw [List.getElem?_set_self hi] at q1
        rw [List.getElem?_set_ne hk] at q2
        cases q1
        exact absurd (S.ne _ _ _ _ _ e q2) hk
    · by_cases hk : i = k
      · subst hk
        rw [List.getElem?_set_self hi] at q2
        rw [List.getElem?_set_ne hj] at q1
        cases q2
        exact absurd (S.ne _ _ _ _ _ e q1) hj
      · rw [List.getElem?_set_ne hj] at q1
        rw [List.getElem?_set_ne hk] at q2
        exact S.ne _ _ _ _ _ q1 q2
theorem Sim.setVal (S : Sim K G F H σ ρ) (i : Nat) {v : V} {d : D} (r : Rep K F v d) : Sim K G F H (σ.set i (some v)) (ρ.set i (some (.val d))) := by
  refine ⟨S.hF, S.hG, by simpa using S.len, fun j d' q => ?_, fun j b zs q => ?_, fun j k b zs ws q1 q2 => ?_, S.bx.set i _ (by simp) (by simp)⟩
  · by_cases hj : i = j
    · subst hj
      by_cases hi : i < ρ.length
      · rw [List.getElem?_set_self hi] at q
        cases q
        exact ⟨v, List.getElem?_set_self (by rw [S.len]; exact hi), r⟩
      · rw [List.getElem?_eq_none (by simpa using hi)] at q; cases q
    · rw [List.getElem?_set_ne hj] at q ⊢; exact S.val j d' q
  · by_cases hj : i = j
    · subst hj
      by_cases hi : i < ρ.length
      · rw [List.getElem?_set_self hi] at q; cases q
      · rw [List.getElem?_eq_none (by simpa using hi)] at q; cases q
    · rw [List.getElem?_set_ne hj] at q ⊢; exact S.own j b zs q
  · have n : ∀ (j : Nat) (zs : List D), (ρ.set i (some (.val d)))[j]? = some (some (.own b zs)) → ρ[j]? = some (some (.own b zs)) := fun j zs q => by
      by_cases hj : i = j
      · subst hj
        by_cases hi : i < ρ.length
        · rw [List.getElem?_set_self hi] at q; cases q
        · rw [List.getElem?_eq_none (by simpa using hi)] at q; cases q
      · rw [List.getElem?_set_ne hj] at q; exact q
    exact S.ne _ _ _ _ _ (n _ _ q1) (n _ _ q2)
def NotOwn (ρ : Ro) (a : Addr) : Prop := (∀ (i : Nat) (xs : List D), ρ[i]? ≠ some (some (.own a xs))) ∧ ¬ InBox ρ a
theorem Sim.notOwn (S : Sim K G F H σ ρ) {a : Addr} (h : H a = none) : NotOwn ρ a := ⟨fun i xs q => (by
  obtain ⟨_, _, _, vs, h4, _⟩ := S.own i a xs q
  rw [h] at h4
  cases h4), S.bx.fresh h⟩
theorem Sim.setOwn (S : Sim K G F H σ ρ) (i : Nat) {a : Addr} {vs : List V} {xs : List D} (hH : H a = some (.lst vs)) (hF : F a = none) (hG : G a = none) (hn : NotOwn ρ a) (r : Reps K F vs xs) :
    Sim K G F H (σ.set i (some (.ref a))) (ρ.set i (some (.own a xs))) := by
  have far : ∀ (j : Nat) (c : Cell), i ≠ j → (ρ.set i (some (.own a xs)))[j]? = some (some c) → ρ[j]? = some (some c) := fun j c hj q => by
    rw [List.getElem?_set_ne hj] at q; exact q
  have near : ∀ (c : Cell), (ρ.set i (some (.own a xs)))[i]? = some (some c) → c = .own a xs ∧ i < ρ.length := fun c q => by
    by_cases hi : i < ρ.length
    · rw [List.getElem?_set_self hi] at q; cases q; exact ⟨rfl, hi⟩
    · rw [List.getElem?_eq_none (by simpa using hi)] at q; cases q
  refine ⟨S.hF, S.hG, by simpa using S.len, fun j d' q => ?_, fun j b zs q => ?_, fun j k b zs ws q1 q2 => ?_, S.bx.set i _ (by simp) fun b zs z => by cases z; exact .inr hn.2⟩
  · by_cases hj : i = j
    · subst hj; exact nomatch (near _ q).1
    · obtain ⟨v, h1, h2⟩ := S.val j d' (far _ _ hj q)
      exact ⟨v, by rw [List.getElem?_set_ne hj]; exact h1, h2⟩
  · by_cases hj : i = j
    · subst hj
      obtain ⟨e, hi⟩ := near _ q
      cases e
      exact ⟨List.getElem?_set_self (by rw [S.len]; exact hi), hF, hG, vs, hH, r⟩
    · obtain ⟨h1, h2⟩ := S.own j b zs (far _ _ hj q)
      exact ⟨by rw [List.getElem?_set_ne hj]; exact h1, h2⟩
  · by_cases hj : i = j
    · subst hj
      by_cases hk : i = k
      · exact hk
      · have e := (near _ q1).1
        cases e
        exact absurd (far _ _ hk q2) (hn.1 _ _)
    · by_cases hk : i = k
      · subst hk
        have e := (near _ q2).1
        cases e
        exact absurd (far _ _ hj q1) (hn.1 _ _)
      · exact S.ne _ _ _ _ _ (far _ _ hj q1) (far _ _ hk q2)
theorem Sim.forget (S : Sim K G F H σ ρ) (i : Nat) (x : Option V) : Sim K G F H (σ.set i x) (ρ.set i none) := by
  have far : ∀ (j : Nat) (c : Cell), (ρ.set i none)[j]? = some (some c) → ρ[j]? = some (some c) ∧ i ≠ j := fun j c q => by
    by_cases hj : i = j
    · subst hj
      by_cases hi : i < ρ.length
      · rw [List.getElem?_set_self hi] at q; cases q
      · rw [List.getElem?_eq_none (by simpa using hi)] at q; cases q
    · rw [List.getElem?_set_ne hj] at q; exact ⟨q, hj⟩
  refine ⟨S.hF, S.hG, by simpa using S.len, fun j d' q => ?_, fun j b zs q => ?_, fun j k b zs ws q1 q2 => S.ne _ _ _ _ _ (far _ _ q1).1 (far _ _ q2).1, S.bx.set i x (by simp) (by simp)⟩
  · obtain ⟨q1, hj⟩ := far _ _ q
    rw [List.getElem?_set_ne hj]
    exact S.val j d' q1
  · obtain ⟨q1, hj⟩ := far _ _ q
    rw [List.getElem?_set_ne hj]
    exact S.own j b zs q1
theorem Sim.forget' (S : Sim K G F H σ ρ) (i : Nat) : Sim K G F H σ (ρ.set i none) := by
  have far : ∀ (j : Nat) (c : Cell), (ρ.set i none)[j]? = some (some c) → ρ[j]? = some (some c) := fun j c q => by
    by_cases hj : i = j
    · subst hj
      by_cases hi : i < ρ.length
      · rw [List.getElem?_set_self hi] at q; cases q
      · rw [List.getElem?_eq_none (by simpa using hi)] at q; cases q
    · rw [List.getElem?_set_ne hj] at q; exact q
  exact ⟨S.hF, S.hG, by simpa using S.len, fun j d' q => S.val j d' (far _ _ q), fun j b zs q => S.own j b zs (far _ _ q), fun j k b zs ws q1 q2 => S.ne _ _ _ _ _ (far _ _ q1) (far _ _ q2), S.bx.set' i (by simp) (by simp)⟩
theorem Sim.freeze (S : Sim K G F H σ ρ) {i : Nat} {a : Addr} {xs : List D} (e : ρ[i]? = some (some (.own a xs))) :
    ∃ F', Up G F F' ∧ Rep K F' (.ref a) (.lst xs) ∧ Sim K G F' H σ (ρ.set i (some (.val (.lst xs)))) := by
  obtain ⟨h1, h2, h3, vs, h4, h5⟩ := S.own i a xs e
  have hi : i < ρ.length := by
    rcases Nat.lt_or_ge i ρ.length with h | h
    · exact h
    · rw [List.getElem?_eq_none h] at e; cases e
  have sm : Same F (upd F a (.lst vs)) := same_new h2
  have rp : Rep K (upd F a (.lst vs)) (.ref a) (.lst xs) := .lst upd_same (h5.mono sm)
  refine ⟨upd F a (.lst vs), Up.new h2 h3, rp, fun b x q => ?_, S.hG.froz fun b x q => ?_, by simpa using S.len, fun j d q => ?_, fun j b zs q => ?_, fun j k b zs ws q1 q2 => ?_, S.bx.to sm (fun q m => ⟨by rw [upd_ne (S.bx.apart m e)]; exact (S.bx.free m).1, (S.bx.free m).2.1, rfl⟩) (fun j s q => ⟨(set_box (by simp) q).1, rfl⟩) fun j b zs q => (set_own q).elim (fun z => by cases z) fun q => .inl ⟨j, zs, q⟩⟩
  · by_cases n : b = a
    · subst n; rw [upd_same] at q; cases q; exact h4
    · rw [upd_ne n] at q; exact S.hF b x q
  · by_cases n : b = a
    · subst n; exact .inr ⟨vs, h4⟩
    · rw [upd_ne n] at q; exact .inl q
  · by_cases hj : i = j
    · subst hj
      rw [List.getElem?_set_self hi] at q
      cases q
      exact ⟨_, h1, rp⟩
    · rw [List.getElem?_set_ne hj] at q
      obtain ⟨v, g1, g2⟩ := S.val j d q
      exact ⟨v, g1, g2.mono sm⟩
  · by_cases hj : i = j
    · subst hj
      rw [List.getElem?_set_self hi] at q; cases q
    · rw [List.getElem?_set_ne hj] at q
      obtain ⟨g1, g2, g3, us, g4, g5⟩ := S.own j b zs q
      have n : b ≠ a := fun z => by subst z; exact hj (S.ne _ _ _ _ _ e q)
      exact ⟨g1, by rw [upd_ne n]; exact g2, g3, us, g4, g5.mono sm⟩
  · have n : ∀ (j : Nat) (zs : List D), (ρ.set i (some (.val (.lst xs))))[j]? = some (some (.own b zs)) → ρ[j]? = some (some (.own b zs)) := fun j zs q => by
      by_cases hj : i = j
      · subst hj; rw [List.getElem?_set_self hi] at q; cases q
      · rw [List.getElem?_set_ne hj] at q; exact q
    exact S.ne _ _ _ _ _ (n _ _ q1) (n _ _ q2)
end
end Pl
namespace Pl
open PySem PySem.Spec PyProof.Rows L2
variable [TJ]
abbrev TEp := Ro → (D → Ro → Prop) → Prop
abbrev TCp := Ro → (Cell → Ro → Prop) → Prop
abbrev TTp := Ro → (Bool → Ro → Prop) → Prop
abbrev TAp := Ro → (List D → Ro → Prop) → Prop
def SndE (K : PySem.W.Frag) (t : TE) (T : TEp) : Prop := ∀ (G F H : Hp) (σ : L2.St) (ρ : Ro) (Q : D → Ro → Prop) (R : VK), Sim K G F H σ ρ → T ρ Q →
  (∀ v d F' H' ρ', Up G F F' → Sim K G F' H' σ ρ' → Rep K F' v d → Q d ρ' → R v H') → t σ H R
def SndT (K : PySem.W.Frag) (t : TT) (T : TTp) : Prop := ∀ (G F H : Hp) (σ : L2.St) (ρ : Ro) (Q : Bool → Ro → Prop) (R : Bool → Hp → Prop), Sim K G F H σ ρ → T ρ Q →
  (∀ b F' H' ρ', Up G F F' → Sim K G F' H' σ ρ' → Q b ρ' → R b H') → t σ H R
def SndA (K : PySem.W.Frag) (t : TA) (T : TAp) : Prop := ∀ (G F H : Hp) (σ : L2.St) (ρ : Ro) (Q : List D → Ro → Prop) (R : List V → Hp → Prop), Sim K G F H σ ρ → T ρ Q →
  (∀ vs ds F' H' ρ', Up G F F' → Sim K G F' H' σ ρ' → Reps K F' vs ds → Q ds ρ' → R vs H') → t σ H R
def SndC (K : PySem.W.Frag) (t : TE) (T : TCp) : Prop := ∀ (G F H : Hp) (σ : L2.St) (ρ : Ro) (Q : Cell → Ro → Prop) (R : VK), Sim K G F H σ ρ → T ρ Q →
  (∀ v c F' H' ρ', Up G F F' → Sim K G F' H' (σ ++ [some v]) (ρ' ++ [some c]) → Q c ρ' → R v H') → t σ H R
structure PPE (X : Cx) (e : Expr) (t : TE) (T : TEp) : Prop where
  pe : PE X e t
  snd : SndE X.K t T
structure PPC (X : Cx) (e : Expr) (t : TE) (T : TCp) : Prop where
  pe : PE X e t
  snd : SndC X.K t T
structure PPT (X : Cx) (e : Expr) (t : TT) (T : TTp) : Prop where
  pt : PT X e t
  snd : SndT X.K t T
structure PPW (X : Cx) (e : Expr) (t : TT) (T : TTp) : Prop where
  pw : PW X e t
  snd : SndT X.K t T
structure PPA (X : Cx) (es : List Expr) (t : TA) (T : TAp) : Prop where
  pa : PA X es t
  snd : SndA X.K t T
inductive Res (K : PySem.W.Frag) (F H : Hp) (v : V) (d : D) : Hp → Hp → Prop
  | old : Rep K F v d → Res K F H v d F H
  | new {p : Addr} {o : HO} : H p = none → Rep K (upd F p o) v d → Res K F H v d (upd F p o) (upd H p o)
section
variable {K : PySem.W.Frag} {G F H F' H' : Hp} {σ : L2.St} {ρ : Ro} {v : V} {d : D}
theorem Sim.res (S : Sim K G F H σ ρ) (r : Res K F H v d F' H') : Up G F F' ∧ Sim K G F' H' σ ρ ∧ Rep K F' v d := by
  cases r with
  | old r => exact ⟨.refl _ _, S, r⟩
  | new h r => exact ⟨S.upNew h, S.new h, r⟩
theorem cut_last {ρ : Ro} {c : Cell} {i : Nat} {x : Cell} (h : (ρ ++ [some c])[i]? = some (some x)) : (ρ[i]? = some (some x) ∧ i < ρ.length) ∨ (i = ρ.length ∧ x = c) := by
  rcases Nat.lt_or_ge i ρ.length with q | q
  · rw [List.getElem?_append_left q] at h; exact .inl ⟨h, q⟩
  · rw [List.getElem?_append_right q] at h
    rcases Nat.eq_zero_or_pos (i - ρ.length) with z | z
    · rw [z] at h; simp at h; exact .inr ⟨by omega, h.symm⟩
    · rw [List.getElem?_eq_none (by simp; omega)] at h; cases h
theorem at_lt {ρ : Ro} {i : Nat} {c : Cell} (h : ρ[i]? = some (some c)) : i < ρ.length := by
  rcases Nat.lt_or_ge i ρ.length with q | q
  · exact q
  · rw [List.getElem?_eq_none q] at h; cases h
theorem at_more {ρ : Ro} {i : Nat} {x c : Cell} (h : ρ[i]? = some (some x)) : (ρ ++ [some c])[i]? = some (some x) := by rw [List.getElem?_append_left (at_lt h)]; exact h
theorem BxOk.push {G F H : Hp} {σ : L2.St} {ρ : Ro} {c : Cell} (B : BxOk K F G H σ ρ) (hl : σ.length = ρ.length) (v : Option V) (hc : ∀ t, c ≠ .box t) (ho : ∀ a xs, c = .own a xs → ¬ InBox ρ a) : BxOk K F G H (σ ++ [v]) (ρ ++ [some c]) :=
  B.to (.refl _) (fun p m => ⟨(B.free m).1, (B.free m).2.1, rfl⟩) (fun i s h => by
    rcases cut_last h with ⟨h, q⟩ | ⟨_, e⟩
    · exact ⟨h, by rw [List.getElem?_append_left (by rw [hl]; exact q)]⟩
    · exact absurd e.symm (hc s)) fun j a xs h => by
    rcases cut_last h with ⟨h, q⟩ | ⟨_, e⟩
    · exact .inl ⟨j, xs, h⟩
    · exact .inr (ho a xs e.symm)
theorem BxOk.drop {G F H : Hp} {σ : L2.St} {ρ : Ro} {c : Cell} {v : Option V} (B : BxOk K F G H (σ ++ [v]) (ρ ++ [some c])) (hl : σ.length = ρ.length) : BxOk K F G H σ ρ :=
  B.to (.refl _) (fun p m => ⟨(B.free m).1, (B.free m).2.1, rfl⟩) (fun i s h => ⟨at_more h, by rw [List.getElem?_append_left (by rw [hl]; exact at_lt h)]⟩) fun j a xs h => .inl ⟨j, xs, at_more h⟩
theorem Sim.drop {c : Cell} (S : Sim K G F H (σ ++ [some v]) (ρ ++ [some c])) : Sim K G F H σ ρ := by
  have hl : σ.length = ρ.length := by have := S.len; simpa using this
  have ix : ∀ {i : Nat} {c : Cell}, ρ[i]? = some (some c) → i < ρ.length := fun {i c} h => by
    rcases Nat.lt_or_ge i ρ.length with q | q
    · exact q
    · rw [List.getElem?_eq_none q] at h; cases h
  have up : ∀ {i : Nat} {x : Cell}, ρ[i]? = some (some x) → (ρ ++ [some c])[i]? = some (some x) := fun {i x} h => by
    rw [List.getElem?_append_left (ix h)]; exact h
  refine ⟨S.hF, S.hG, hl, fun i d h => ?_, fun i a xs h => ?_, fun i j a xs ys h1 h2 => S.ne i j a xs ys (up h1) (up h2), S.bx.drop hl⟩
  · obtain ⟨v, h1, h2⟩ := S.val i d (up h)
    rw [List.getElem?_append_left (by rw [hl]; exact ix h)] at h1
    exact ⟨v, h1, h2⟩
  · obtain ⟨h1, h2⟩ := S.own i a xs (up h)
    rw [List.getElem?_append_left (by rw [hl]; exact ix h)] at h1
    exact ⟨h1, h2⟩
theorem Sim.lastVal (S : Sim K G F H (σ ++ [some v]) (ρ ++ [some (.val d)])) : Rep K F v d := by
  have hl : σ.length = ρ.length := by have := S.len; simpa using this
  obtain ⟨u, h1, h2⟩ := S.val ρ.length d (by simp)
  rw [← hl] at h1
  simp at h1
  subst h1
  exact h2
theorem Sim.lastOwn {a : Addr} {xs : List D} (S : Sim K G F H (σ ++ [some v]) (ρ ++ [some (.own a xs)])) : v = .ref a ∧ F a = none ∧ G a = none ∧ NotOwn ρ a ∧ ∃ vs, H a = some (.lst vs) ∧ Reps K F vs xs := by
  have hl : σ.length = ρ.length := by have := S.len; simpa using this
  obtain ⟨h1, h2, h3, h4⟩ := S.own ρ.length a xs (by simp)
  rw [← hl] at h1
  simp at h1
  refine ⟨h1, h2, h3, ⟨fun i ys h => ?_, fun ⟨i, s, m1, m2⟩ => S.bx.bo ρ.length a xs (by simp) ⟨i, s, at_more m1, m2⟩⟩, h4⟩
  have hi : i < ρ.length := by
    rcases Nat.lt_or_ge i ρ.length with q | q
    · exact q
    · rw [List.getElem?_eq_none q] at h; cases h
  have := S.ne i ρ.length a ys xs (by rw [List.getElem?_append_left hi]; exact h) (by simp)
  omega
theorem Sim.pushVal (S : Sim K G F H σ ρ) (r : Rep K F v d) : Sim K G F H (σ ++ [some v]) (ρ ++ [some (.val d)]) := by
  have cut : ∀ {i : Nat} {x : Cell}, (ρ ++ [some (.val d)])[i]? = some (some x) → (ρ[i]? = some (some x) ∧ i < ρ.length) ∨ (i = ρ.length ∧ x = .val d) := fun {i x} h => by
    rcases Nat.lt_or_ge i ρ.length with q | q
    · rw [List.getElem?_append_left q] at h; exact .inl ⟨h, q⟩
    · rw [List.getElem?_append_right q] at h
      rcases Nat.eq_zero_or_pos (i - ρ.length) with z | z
      · rw [z] at h; simp at h; exact .inr ⟨by omega, h.symm⟩
      · rw [List.getElem?_eq_none (by simp; omega)] at h; cases h
  refine ⟨S.hF, S.hG, by simp [S.len], fun i d' h => ?_, fun i a xs h => ?_, fun i j a xs ys h1 h2 => ?_, S.bx.push S.len _ (by simp) (by simp)⟩
  · rcases cut h with ⟨h, q⟩ | ⟨rfl, e⟩
    · obtain ⟨u, g1, g2⟩ := S.val i d' h
      exact ⟨u, by rw [List.getElem?_append_left (by rw [S.len]; exact q)]; exact g1, g2⟩
    · cases e
      exact ⟨v, by rw [← S.len]; simp, r⟩
  · rcases cut h with ⟨h, q⟩ | ⟨_, e⟩
    · obtain ⟨g1, g2⟩ := S.own i a xs h
      exact ⟨by rw [List.getElem?_append_left (by rw [S.len]; exact q)]; exact g1, g2⟩
    · cases e
  · rcases cut h1 with ⟨h1, _⟩ | ⟨_, e⟩
    · rcases cut h2 with ⟨h2, _⟩ | ⟨_, e⟩
      · exact S.ne i j a xs ys h1 h2
      · cases e
    · cases e
theorem Sim.pushOwn (S : Sim K G F H σ ρ) {a : Addr} {vs : List V} {xs : List D} (hH : H a = some (.lst vs)) (hF : F a = none) (hG : G a = none) (hn : NotOwn ρ a) (r : Reps K F vs xs) :
    Sim K G F H (σ ++ [some (.ref a)]) (ρ ++ [some (.own a xs)]) := by
  have cut : ∀ {i : Nat} {x : Cell}, (ρ ++ [some (.own a xs)])[i]? = some (some x) → (ρ[i]? = some (some x) ∧ i < ρ.length) ∨ (i = ρ.length ∧ x = .own a xs) := fun {i x} h => by
    rcases Nat.lt_or_ge i ρ.length with q | q
    · rw [List.getElem?_append_left q] at h; exact .inl ⟨h, q⟩
    · rw [List.getElem?_append_right q] at h
      rcases Nat.eq_zero_or_pos (i - ρ.length) with z | z
      · rw [z] at h; simp at h; exact .inr ⟨by omega, h.symm⟩
      · rw [List.getElem?_eq_none (by simp; omega)] at h; cases h
  refine ⟨S.hF, S.hG, by simp [S.len], fun i d' h => ?_, fun i b ys h => ?_, fun i j b ys zs h1 h2 => ?_, S.bx.push S.len _ (by simp) fun b ys e => by cases e; exact hn.2⟩
  · rcases cut h with ⟨h, q⟩ | ⟨_, e⟩
    · obtain ⟨u, g1, g2⟩ := S.val i d' h
      exact ⟨u, by rw [List.getElem?_append_left (by rw [S.len]; exact q)]; exact g1, g2⟩
    · cases e
  · rcases cut h with ⟨h, q⟩ | ⟨rfl, e⟩
    · obtain ⟨g1, g2⟩ := S.own i b ys h
      exact ⟨by rw [List.getElem?_append_left (by rw [S.len]; exact q)]; exact g1, g2⟩
    · cases e
      exact ⟨by rw [← S.len]; simp, hF, hG, vs, hH, r⟩
  · rcases cut h1 with ⟨h1, _⟩ | ⟨e1, e⟩
    · rcases cut h2 with ⟨h2, _⟩ | ⟨_, e⟩
      · exact S.ne i j b ys zs h1 h2
      · cases e
        exact absurd h1 (hn.1 _ _)
    · cases e
      rcases cut h2 with ⟨h2, _⟩ | ⟨e2, _⟩
      · exact absurd h2 (hn.1 _ _)
      · omega
theorem Sim.lastBox {s : Sh} (S : Sim K G F H (σ ++ [some v]) (ρ ++ [some (.box s)])) : v = .ref s.root ∧ (∀ p ∈ s.foot, F p = none ∧ G p = none) ∧ s.At K F H ∧ ∀ p ∈ s.foot, NotOwn ρ p := by
  have hl : σ.length = ρ.length := by have := S.len; simpa using this
  obtain ⟨h1, h2, h3⟩ := S.bx.box ρ.length s (by simp)
  rw [← hl] at h1
  simp at h1
  refine ⟨h1, h2, h3, fun p m => ⟨fun i ys h => ?_, fun ⟨i, t, m1, m2⟩ => ?_⟩⟩
  · exact S.bx.bo i p ys (at_more h) ⟨ρ.length, s, by simp, m⟩
  · have := S.bx.bb i ρ.length t s p (at_more m1) (by simp) m2 m
    have := at_lt m1
    omega
theorem Sim.pushBox (S : Sim K G F H σ ρ) {s : Sh} (hf : ∀ p ∈ s.foot, F p = none ∧ G p = none) (ha : s.At K F H) (hn : ∀ p ∈ s.foot, NotOwn ρ p) : Sim K G F H (σ ++ [some (.ref s.root)]) (ρ ++ [some (.box s)]) := by
  refine ⟨S.hF, S.hG, by simp [S.len], fun i d' h => ?_, fun i b ys h => ?_, fun i j b ys zs h1 h2 => ?_, fun i t h => ?_, fun i j t u p h1 h2 m1 m2 => ?_, fun j a xs h ⟨i, t, h1, m⟩ => ?_⟩
  · rcases cut_last h with ⟨h, q⟩ | ⟨_, e⟩
    · obtain ⟨u, g1, g2⟩ := S.val i d' h
      exact ⟨u, by rw [List.getElem?_append_left (by rw [S.len]; exact q)]; exact g1, g2⟩
    · cases e
  · rcases cut_last h with ⟨h, q⟩ | ⟨_, e⟩
    · obtain ⟨g1, g2⟩ := S.own i b ys h
      exact ⟨by rw [List.getElem?_append_left (by rw [S.len]; exact q)]; exact g1, g2⟩
    · cases e
  · rcases cut_last h1 with ⟨h1, _⟩ | ⟨_, e⟩
    · rcases cut_last h2 with ⟨h2, _⟩ | ⟨_, e⟩
      · exact S.ne i j b ys zs h1 h2
      · cases e
    · cases e
  · rcases cut_last h with ⟨h, q⟩ | ⟨rfl, e⟩
    · obtain ⟨g1, g2⟩ := S.bx.box i t h
      exact ⟨by rw [List.getElem?_append_left (by rw [S.len]; exact q)]; exact g1, g2⟩
    · cases e
      exact ⟨by rw [← S.len]; simp, hf, ha⟩
  · rcases cut_last h1 with ⟨h1, _⟩ | ⟨e1, e⟩
    · rcases cut_last h2 with ⟨h2, _⟩ | ⟨_, e⟩
      · exact S.bx.bb i j t u p h1 h2 m1 m2
      · cases e
        exact absurd ⟨i, t, h1, m1⟩ (hn p m2).2
    · cases e
      rcases cut_last h2 with ⟨h2, _⟩ | ⟨e2, _⟩
      · exact absurd ⟨j, u, h2, m2⟩ (hn p m1).2
      · omega
  · rcases cut_last h with ⟨h, _⟩ | ⟨_, e⟩
    · rcases cut_last h1 with ⟨h1, _⟩ | ⟨_, e⟩
      · exact S.bx.bo j a xs h ⟨i, t, h1, m⟩
      · cases e
        exact (hn a m).1 j xs h
    · cases e
theorem Sim.setBox (S : Sim K G F H σ ρ) (i : Nat) {s : Sh} (hf : ∀ p ∈ s.foot, F p = none ∧ G p = none) (ha : s.At K F H) (hn : ∀ p ∈ s.foot, NotOwn ρ p) : Sim K G F H (σ.set i (some (.ref s.root))) (ρ.set i (some (.box s))) := by
  have far : ∀ (j : Nat) (c : Cell), i ≠ j → (ρ.set i (some (.box s)))[j]? = some (some c) → ρ[j]? = some (some c) := fun j c hj q => by
    rw [List.getElem?_set_ne hj] at q; exact q
  have near : ∀ (c : Cell), (ρ.set i (some (.box s)))[i]? = some (some c) → c = .box s ∧ i < ρ.length := fun c q => by
    by_cases hi : i < ρ.length
    · rw [List.getElem?_set_self hi] at q; cases q; exact ⟨rfl, hi⟩
    · rw [List.getElem?_eq_none (by simpa using hi)] at q; cases q
  have cut : ∀ {j : Nat} {x : Cell}, (ρ.set i (some (.box s)))[j]? = some (some x) → (ρ[j]? = some (some x) ∧ i ≠ j) ∨ (j = i ∧ x = .box s ∧ i < ρ.length) := fun {j x} h => by
    by_cases hj : i = j
    · subst hj; exact .inr ⟨rfl, near _ h⟩
    · exact .inl ⟨far _ _ hj h, hj⟩
  refine ⟨S.hF, S.hG, by simpa using S.len, fun j d' h => ?_, fun j b ys h => ?_, fun j k b ys zs h1 h2 => ?_, fun j t h => ?_, fun j k t u p h1 h2 m1 m2 => ?_, fun j a xs h ⟨k, t, h1, m⟩ => ?_⟩
  · rcases cut h with ⟨h, q⟩ | ⟨_, e, _⟩
    · obtain ⟨u, g1, g2⟩ := S.val j d' h
      exact ⟨u, by rw [List.getElem?_set_ne q]; exact g1, g2⟩
    · cases e
  · rcases cut h with ⟨h, q⟩ | ⟨_, e, _⟩
    · obtain ⟨g1, g2⟩ := S.own j b ys h
      exact ⟨by rw [List.getElem?_set_ne q]; exact g1, g2⟩
    · cases e
  · rcases cut h1 with ⟨h1, _⟩ | ⟨_, e, _⟩
    · rcases cut h2 with ⟨h2, _⟩ | ⟨_, e, _⟩
      · exact S.ne j k b ys zs h1 h2
      · cases e
    · cases e
  · rcases cut h with ⟨h, q⟩ | ⟨rfl, e, hi⟩
    · obtain ⟨g1, g2⟩ := S.bx.box j t h
      exact ⟨by rw [List.getElem?_set_ne q]; exact g1, g2⟩
    · cases e
      exact ⟨List.getElem?_set_self (by rw [S.len]; exact hi), hf, ha⟩
  · rcases cut h1 with ⟨h1, _⟩ | ⟨e1, e, _⟩
    · rcases cut h2 with ⟨h2, _⟩ | ⟨_, e, _⟩
      · exact S.bx.bb j k t u p h1 h2 m1 m2
      · cases e
        exact absurd ⟨j, t, h1, m1⟩ (hn p m2).2
    · cases e
      rcases cut h2 with ⟨h2, _⟩ | ⟨e2, _⟩
      · exact absurd ⟨k, u, h2, m2⟩ (hn p m1).2
      · omega
  · rcases cut h with ⟨h, _⟩ | ⟨_, e, _⟩
    · rcases cut h1 with ⟨h1, _⟩ | ⟨_, e, _⟩
      · exact S.bx.bo j a xs h ⟨k, t, h1, m⟩
      · cases e
        exact (hn a m).1 j xs h
    · cases e
theorem Sim.store {c : Cell} (S : Sim K G F H (σ ++ [some v]) (ρ ++ [some c])) (i : Nat) : Sim K G F H (σ.set i (some v)) (ρ.set i (some c)) := by
  cases c with
  | val d => exact S.drop.setVal i S.lastVal
  | own a xs =>
    obtain ⟨rfl, h2, h3, h4, vs, h5, h6⟩ := S.lastOwn
    exact S.drop.setOwn i h5 h2 h3 h4 h6
  | box s =>
    obtain ⟨rfl, h2, h3, h4⟩ := S.lastBox
    exact S.drop.setBox i h2 h3 h4
def Cell.froz : Cell → D
  | .val d => d
  | .own _ xs => .lst xs
  | .box s => .adr s.root
theorem Sim.froz {c : Cell} (S : Sim K G F H (σ ++ [some v]) (ρ ++ [some c])) : ∃ F', Up G F F' ∧ Sim K G F' H σ ρ ∧ Rep K F' v c.froz := by
  cases c with
  | val d => exact ⟨F, .refl _ _, S.drop, S.lastVal⟩
  | own a xs =>
    obtain ⟨rfl, _⟩ := S.lastOwn
    obtain ⟨F', u, r, S'⟩ := S.freeze (i := ρ.length) (a := a) (xs := xs) (by simp)
    refine ⟨F', u, ?_, r⟩
    rw [List.set_append_right _ _ (Nat.le_refl _)] at S'
    simp at S'
    exact S'.drop
  | box s =>
    obtain ⟨rfl, _⟩ := S.lastBox
    exact ⟨F, .refl _ _, S.drop, .adr _⟩
end
section
variable {X : Cx}
def pFrz (T : TCp) : TEp := fun ρ Q => T ρ fun c ρ' => Q c.froz ρ'
def pVal (T : TEp) : TCp := fun ρ Q => T ρ fun d ρ' => Q (.val d) ρ'
theorem ppe_frz {e : Expr} {t : TE} {T : TCp} (h : PPC X e t T) : PPE X e t (pFrz T) := ⟨h.pe, fun G F H σ ρ Q R S hT k => h.snd G F H σ ρ _ R S hT fun v c F' H' ρ' u S' q => by
  obtain ⟨F2, u2, S2, r2⟩ := S'.froz
  exact k v _ F2 H' ρ' (u.trans u2) S2 r2 q⟩
theorem ppc_val {e : Expr} {t : TE} {T : TEp} (h : PPE X e t T) : PPC X e t (pVal T) := ⟨h.pe, fun G F H σ ρ Q R S hT k => h.snd G F H σ ρ _ R S hT fun v d F' H' ρ' u S' r q => k v _ F' H' ρ' u (S'.pushVal r) q⟩
def pVar (i : Nat) : TEp := fun ρ Q => match ρ[i]? with
  | some (some (.val d)) => Q d ρ
  | some (some (.own _ xs)) => Q (.lst xs) (ρ.set i (some (.val (.lst xs))))
  | _ => False
theorem ppe_var (i : Nat) {x : Str} {pos : Pos} (hN : X.N[i]? = some x := by rfl) (hv : Vis X.env.scope x := by first | exact Or.inl rfl | exact Or.inr (Or.inl rfl) | exact Or.inr (Or.inr rfl)) (hd : (x == ("__debug__" : Str)) = false := by decide)
    (hcd : (x == ("__classdict__" : Str)) = false := by decide) : PPE X (.Name x pos) (tVar i) (pVar i) := ⟨pe_var hN hv hd hcd, fun G F H σ ρ Q R S hT k => by
  unfold pVar at hT
  split at hT
  · rename_i d e
    obtain ⟨v, h1, h2⟩ := S.val i d e
    exact ⟨v, h1, k v d F H ρ (.refl _ _) S h2 hT⟩
  · rename_i a xs e
    obtain ⟨F', u, r, S'⟩ := S.freeze e
    exact ⟨.ref a, (S.own i a xs e).1, k _ _ F' H _ u S' r hT⟩
  · exact hT.elim⟩
def pMove (i : Nat) : TCp := fun ρ Q => match ρ[i]? with
  | some (some (.val d)) => Q (.val d) ρ
  | some (some (.own a xs)) => Q (.own a xs) (ρ.set i none)
  | some (some (.box s)) => Q (.box s) (ρ.set i none)
  | _ => False
theorem ppc_move (i : Nat) {x : Str} {pos : Pos} (hN : X.N[i]? = some x := by rfl) (hv : Vis X.env.scope x := by first | exact Or.inl rfl | exact Or.inr (Or.inl rfl) | exact Or.inr (Or.inr rfl)) (hd : (x == ("__debug__" : Str)) = false := by decide)
    (hcd : (x == ("__classdict__" : Str)) = false := by decide) : PPC X (.Name x pos) (tVar i) (pMove i) := ⟨pe_var hN hv hd hcd, fun G F H σ ρ Q R S hT k => by
  unfold pMove at hT
  split at hT
  · rename_i d e
    obtain ⟨v, h1, h2⟩ := S.val i d e
    exact ⟨v, h1, k v _ F H ρ (.refl _ _) (S.pushVal h2) hT⟩
  · rename_i a xs e
    obtain ⟨h1, h2, h3, vs, h4, h5⟩ := S.own i a xs e
    refine ⟨.ref a, h1, k _ _ F H _ (.refl _ _) ((S.forget' i).pushOwn h4 h2 h3 ⟨fun j ys q => ?_, fun ⟨j, s, m1, m2⟩ => S.bx.bo i a xs e ⟨j, s, (set_box (by simp) m1).1, m2⟩⟩ h5) hT⟩
    by_cases hj : i = j
    · subst hj
      by_cases hi : i < ρ.length
      · rw [List.getElem?_set_self hi] at q; cases q
      · rw [List.getElem?_eq_none (by simpa using hi)] at q; cases q
    · rw [List.getElem?_set_ne hj] at q
      exact hj (S.ne _ _ _ _ _ e q)
  · rename_i s e
    obtain ⟨h1, h2, h3⟩ := S.bx.box i s e
    refine ⟨.ref s.root, h1, k _ _ F H _ (.refl _ _) ((S.forget' i).pushBox h2 h3 fun p m => ⟨fun j ys q => ?_, fun ⟨j, t, m1, m2⟩ => ?_⟩) hT⟩
    · exact S.bx.bo j p ys ((set_own q).elim (fun z => by cases z) id) ⟨i, s, e, m⟩
    · obtain ⟨q1, q2⟩ := set_box (by simp) m1
      exact q2 (S.bx.bb i j s t p e q1 m m2)
  · exact hT.elim⟩
def pC (d : D) : TEp := fun ρ Q => Q d ρ
theorem snd_c {K : PySem.W.Frag} {v : V} {d : D} (h : ∀ F, Rep K F v d) : SndE K (tC v) (pC d) := fun G F H σ ρ Q R S hT k => k v d F H ρ (.refl _ _) S (h F) hT
theorem ppe_int {i j pos} : PPE X (.Constant (.int i) j pos) (tC (.int i)) (pC (.int i)) := ⟨pe_int, snd_c fun _ => .int i⟩
theorem ppe_bl {b j pos} : PPE X (.Constant (.bool b) j pos) (tC (.bl b)) (pC (.bl b)) := ⟨pe_bl, snd_c fun _ => .bl b⟩
theorem ppe_non {j pos} : PPE X (.Constant .none j pos) (tC .non) (pC .non) := ⟨pe_non, snd_c fun _ => .non⟩
theorem ppe_str {x j pos} : PPE X (.Constant (.str x) j pos) (tC (.str x)) (pC (.str x)) := ⟨pe_str, snd_c fun _ => .str x⟩
abbrev F2 := D → D → (D → Prop) → Prop
abbrev F1 := D → (D → Prop) → Prop
def OpP (K : PySem.W.Frag) (r : R2) (f : F2) : Prop := ∀ (F H : Hp) (x y : V) (dx dy : D) (Q : D → Prop) (R : VK), Same F H → Rep K F x dx → Rep K F y dy → f dx dy Q →
  (∀ v d F' H', Res K F H v d F' H' → Q d → R v H') → r x y H R
def UnP (K : PySem.W.Frag) (r : V → Hp → VK → Prop) (f : F1) : Prop := ∀ (F H : Hp) (x : V) (dx : D) (Q : D → Prop) (R : VK), Same F H → Rep K F x dx → f dx Q →
  (∀ v d F' H', Res K F H v d F' H' → Q d → R v H') → r x H R
def CallP (K : PySem.W.Frag) (r : List V → Hp → VK → Prop) (f : List D → (D → Prop) → Prop) : Prop := ∀ (F H : Hp) (xs : List V) (ds : List D) (Q : D → Prop) (R : VK), Same F H → Reps K F xs ds → f ds Q →
  (∀ v d F' H', Res K F H v d F' H' → Q d → R v H') → r xs H R
def pOp (f : F2) (Ta Tb : TEp) : TEp := fun ρ Q => Ta ρ fun x ρ1 => Tb ρ1 fun y ρ2 => f x y fun z => Q z ρ2
def pUn (f : F1) (Ta : TEp) : TEp := fun ρ Q => Ta ρ fun x ρ1 => f x fun z => Q z ρ1
theorem snd_op {K : PySem.W.Frag} {r : R2} {f : F2} {ta tb : TE} {Ta Tb : TEp} (hp : OpP K r f) (ha : SndE K ta Ta) (hb : SndE K tb Tb) : SndE K (tOp r ta tb) (pOp f Ta Tb) := fun G F H σ ρ Q R S hT k =>
  ha G F H σ ρ _ _ S hT fun x dx F1 H1 ρ1 u1 S1 r1 h1 => hb G F1 H1 σ ρ1 _ _ S1 h1 fun y dy F2 H2 ρ2 u2 S2 r2 h2 =>
    hp F2 H2 x y dx dy _ _ S2.hF (r1.mono u2.ex) r2 h2 fun v d F3 H3 res q => by
      obtain ⟨u3, S3, r3⟩ := S2.res res
      exact k v d F3 H3 ρ2 ((u1.trans u2).trans u3) S3 r3 q
theorem snd_un {K : PySem.W.Frag} {r : V → Hp → VK → Prop} {f : F1} {ta : TE} {Ta : TEp} (hp : UnP K r f) (ha : SndE K ta Ta) : SndE K (tUn r ta) (pUn f Ta) := fun G F H σ ρ Q R S hT k =>
  ha G F H σ ρ _ _ S hT fun x dx F1 H1 ρ1 u1 S1 r1 h1 => hp F1 H1 x dx _ _ S1.hF r1 h1 fun v d F3 H3 res q => by
      obtain ⟨u3, S3, r3⟩ := S1.res res
      exact k v d F3 H3 ρ1 (u1.trans u3) S3 r3 q
variable {a b c : Expr} {ta tb tc : TE} {Ta Tb Tc : TEp} {pos : Pos}
theorem ppe_op {op : Operator} {r : R2} {f : F2} (ho : OpR X (binaryOp op) r) (hp : OpP X.K r f) (ha : PPE X a ta Ta) (hb : PPE X b tb Tb) : PPE X (.BinOp a op b pos) (tOp r ta tb) (pOp f Ta Tb) := ⟨pe_op ho ha.pe hb.pe, snd_op hp ha.snd hb.snd⟩
theorem ppe_un {op : UnaryOp} {r : V → Hp → VK → Prop} {f : F1} (ho : UnR X (unaryOp op) r) (hp : UnP X.K r f) (ha : PPE X a ta Ta) : PPE X (.UnaryOp op a pos) (tUn r ta) (pUn f Ta) := ⟨pe_un ho ha.pe, snd_un hp ha.snd⟩
theorem OpP.or {K : PySem.W.Frag} {r r' : R2} {f : F2} (h : ∀ (F H : Hp) (x y : V) (dx dy : D) (Q : D → Prop) (R : VK), Same F H → Rep K F x dx → Rep K F y dy → f dx dy Q →
  (∀ v d F' H', Res K F H v d F' H' → Q d → R v H') → r x y H R ∨ r' x y H R) : OpP K (fun x y H Q => r x y H Q ∨ r' x y H Q) f := h
def fAdd : F2 := fun x y Q => match x, y with
  | .int i, .int j => Q (.int (i + j))
  | .str i, .str j => i.length + j.length ≤ sizeLine ∧ Q (.str (i ++ j))
  | .lst xs, .lst ys => xs.length + ys.length ≤ sizeLine ∧ Q (.lst (xs ++ ys))
  | .tup xs, .tup ys => xs.length + ys.length ≤ sizeLine ∧ Q (.tup (xs ++ ys))
  | _, _ => False
def rAddA (K : PySem.W.Frag) : R2 := fun x y H Q => (rI0 (fun i j => .int (i + j)) x y H Q ∨ (∃ i j, x = .str i ∧ y = .str j ∧ i.length + j.length ≤ sizeLine ∧ Q (.str (i ++ j)) H)) ∨ (rCat x y H Q ∨ rCatA K x y H Q)
theorem opr_add : OpR X (binaryOp .Add) (rAddA X.K) := OpR.or (OpR.or op_add op_add_str) (OpR.or op_cat op_catA)
theorem opp_add : OpP X.K (rAddA X.K) fAdd := fun F H x y dx dy Q R hs rx ry hf k => by
  cases rx with
  | int i =>
    cases ry with
    | int j => exact .inl (.inl ⟨i, j, rfl, rfl, k _ _ _ _ (.old (.int _)) hf⟩)
    | _ => exact hf.elim
  | str i =>
    cases ry with
    | str j => exact .inl (.inr ⟨i, j, rfl, rfl, hf.1, k _ _ _ _ (.old (.str _)) hf.2⟩)
    | _ => exact hf.elim
  | lst h1 r1 =>
    cases ry with
    | lst h2 r2 =>
      refine .inr (.inl ⟨_, _, _, _, rfl, rfl, hs _ _ h1, hs _ _ h2, by rw [r1.length, r2.length]; exact hf.1, fun p hp => ?_⟩)
      have hn : F p = none := hs.free hp
      exact k _ _ _ _ (.new hp (.lst upd_same ((r1.mono (same_new hn)).append (r2.mono (same_new hn))))) hf.2
    | _ => exact hf.elim
  | @tup _ vs xs h1 r1 =>
    cases ry with
    | @tup _ ws ys h2 r2 =>
      refine .inr (.inr ⟨_, _, _, _, rfl, rfl, SqT.of (hs _ _ h1), SqT.of (hs _ _ h2), by rw [r1.length, r2.length]; exact hf.1, fun e => ?_, fun e e2 => ?_, fun e e2 p hp => ?_⟩)
      · have := r1.length; subst e; cases r1; exact k _ _ _ _ (.old (.tup h2 r2)) hf.2
      · subst e2; cases r2; refine k _ _ _ _ (.old (.tup h1 r1)) ?_; have := hf.2; simpa using this
      · have hn : F p = none := hs.free hp
        exact k _ _ _ _ (.new hp (.tup upd_same ((r1.mono (same_new hn)).append (r2.mono (same_new hn))))) hf.2
    | _ => exact hf.elim
  | non => exact hf.elim
  | bl _ => exact hf.elim
  | scr _ => exact hf.elim
  | adr _ => exact hf.elim
  | exc _ _ _ _ => exact hf.elim
def f2I (C : Int → Int → Prop) (g : Int → Int → D) : F2 := fun x y Q => match x, y with
  | .int i, .int j => C i j ∧ Q (g i j)
  | _, _ => False
def f2I0 (g : Int → Int → D) : F2 := fun x y Q => match x, y with
  | .int i, .int j => Q (g i j)
  | _, _ => False
theorem opp_I {C C' : Int → Int → Prop} {g : Int → Int → V} {g' : Int → Int → D} (hc : ∀ i j, C' i j → C i j) (h : ∀ F i j, Rep X.K F (g i j) (g' i j)) : OpP X.K (rI C g) (f2I C' g') := fun F H x y dx dy Q R hs rx ry hf k => by
  cases rx with
  | int i =>
    cases ry with
    | int j => exact ⟨i, j, rfl, rfl, hc _ _ hf.1, k _ _ _ _ (.old (h F i j)) hf.2⟩
    | _ => exact hf.elim
  | _ => exact hf.elim
theorem opp_I0 {g : Int → Int → V} {g' : Int → Int → D} (h : ∀ F i j, Rep X.K F (g i j) (g' i j)) : OpP X.K (rI0 g) (f2I0 g') := fun F H x y dx dy Q R hs rx ry hf k => by
  cases rx with
  | int i =>
    cases ry with
    | int j => exact ⟨i, j, rfl, rfl, k _ _ _ _ (.old (h F i j)) hf⟩
    | _ => exact hf.elim
  | _ => exact hf.elim
def fSub : F2 := f2I0 fun i j => .int (i - j)
def fMod : F2 := f2I (fun _ j => 0 < j) fun i j => .int (i % j)
def fDiv : F2 := f2I (fun _ j => 0 < j ∧ j < 2 ^ 64) fun i j => .int (i / j)
def fMulI : F2 := f2I CMul fun i j => .int (i * j)
theorem ppe_add (ha : PPE X a ta Ta) (hb : PPE X b tb Tb) : PPE X (.BinOp a .Add b pos) (tOp (rAddA X.K) ta tb) (pOp fAdd Ta Tb) := ppe_op opr_add opp_add ha hb
theorem ppe_sub (ha : PPE X a ta Ta) (hb : PPE X b tb Tb) : PPE X (.BinOp a .Sub b pos) (tOp (rI0 fun i j => .int (i - j)) ta tb) (pOp fSub Ta Tb) := ppe_op op_sub (opp_I0 fun _ _ _ => .int _) ha hb
theorem ppe_mul (ha : PPE X a ta Ta) (hb : PPE X b tb Tb) : PPE X (.BinOp a .Mult b pos) (tOp (rI CMul fun i j => .int (i * j)) ta tb) (pOp fMulI Ta Tb) := ppe_op op_mul (opp_I (fun _ _ h => h) fun _ _ _ => .int _) ha hb
theorem ppe_mod (ha : PPE X a ta Ta) (hb : PPE X b tb Tb) : PPE X (.BinOp a .Mod b pos) (tOp (rI (fun _ j => 0 < j) fun i j => .int (i % j)) ta tb) (pOp fMod Ta Tb) := ppe_op op_mod (opp_I (fun _ _ h => h) fun _ _ _ => .int _) ha hb
theorem ppe_div (ha : PPE X a ta Ta) (hb : PPE X b tb Tb) : PPE X (.BinOp a .FloorDiv b pos) (tOp (rI CDivW fun i j => .int (i / j)) ta tb) (pOp fDiv Ta Tb) :=
  ppe_op op_fdivW (opp_I (fun _ _ h => wide_div (b := 64) h.1 (by have := h.1; have := h.2; omega) (by decide) (by decide)) fun _ _ _ => .int _) ha hb
theorem ppe_powc {i j : Int} {u v pa pb} (n : Int) (h : 0 ≤ j ∧ j ≤ 1000000 ∧ i.natAbs < 2 ^ 64 := by decide) (hn : i ^ j.toNat = n := by decide) : PPE X (.BinOp (.Constant (.int i) u pa) .Pow (.Constant (.int j) v pb) pos) (tOp (rI CPow fun i j => .int (i ^ j.toNat)) (tC (.int i)) (tC (.int j))) (pC (.int n)) :=
  ⟨pe_op op_pow pe_int pe_int, fun G F H σ ρ Q R S hT k => ⟨i, j, rfl, rfl, h, by show R (V.int (i ^ j.toNat)) H; rw [hn]; exact k _ _ F H ρ (.refl _ _) S (.int n) hT⟩⟩
def fNeg : F1 := fun x Q => match x with
  | .int i => Q (.int (-i))
  | _ => False
theorem ppe_neg (ha : PPE X a ta Ta) : PPE X (.UnaryOp .USub a pos) (tUn (rU fun i => .int (-i)) ta) (pUn fNeg Ta) := ppe_un un_neg (fun F H x dx Q R hs rx hf k => by
  cases rx with
  | int i => exact ⟨i, rfl, k _ _ _ _ (.old (.int _)) hf⟩
  | _ => exact hf.elim) ha
mutual
def toPy : D → PyData
  | .non => .none
  | .bl b => .bool b
  | .int i => .int i
  | .str x => .str x
  | .lst xs => .list (toPys xs)
  | .tup xs => .tuple (toPys xs)
  | .scr ns => .list (ns.map PyData.int)
  | .adr _ => .dict []
  | .exc _ _ => .dict []
def toPys : List D → List PyData
  | [] => []
  | x :: xs => toPy x :: toPys xs
end
theorem dp_ints {K : PySem.W.Frag} {H : Hp} : ∀ ns : List Int, DpAll K H (ns.map V.int) (ns.map PyData.int)
  | [] => .nil
  | n :: ns => .cons (.int n) (dp_ints ns)
mutual
theorem Rep.dp0 {K : PySem.W.Frag} {F H : Hp} (e : Same F H) : ∀ {v : V} {d : D}, Rep K F v d → PyData.canLay0 (toPy d) = true → Dp K H v (toPy d)
  | _, _, .non, _ => by rw [toPy]; exact .non
  | _, _, .bl b, _ => by rw [toPy]; exact .bl b
  | _, _, .int i, _ => by rw [toPy]; exact .int i
  | _, _, .str x, _ => by rw [toPy]; exact .str x
  | _, _, .lst h r, c => by
    rw [toPy] at c ⊢
    rw [PyData.canLay0] at c
    exact .lst (SqL.of (e _ _ h)) (Reps.dp0 e r c)
  | _, _, .tup h r, c => by
    rw [toPy] at c ⊢
    rw [PyData.canLay0] at c
    exact .tup (SqT.of (e _ _ h)) (Reps.dp0 e r c)
  | _, _, .scr h, _ => by rw [toPy]; exact .lst (e.seq h) (dp_ints _)
  | _, _, .adr _, c => by rw [toPy, PyData.canLay0] at c; cases c
  | _, _, .exc _ _ _ _, c => by rw [toPy, PyData.canLay0] at c; cases c
theorem Reps.dp0 {K : PySem.W.Frag} {F H : Hp} (e : Same F H) : ∀ {vs : List V} {ds : List D}, Reps K F vs ds → PyData.canLayAll0 (toPys ds) = true → DpAll K H vs (toPys ds)
  | _, _, .nil, _ => by rw [toPys]; exact .nil
  | _, _, .cons h r, c => by
    rw [toPys] at c ⊢
    rw [PyData.canLayAll0, Bool.and_eq_true] at c
    exact .cons (Rep.dp0 e h c.1) (Reps.dp0 e r c.2)
end
theorem shaped_lay {d : PyData} (h : SeqAt.shaped d = true) : PyData.canLay0 d = true := by
  unfold SeqAt.shaped at h
  rw [Bool.and_eq_true] at h
  exact h.1
theorem Rep.dp {K : PySem.W.Frag} {F H : Hp} (e : Same F H) {v : V} {d : D} (r : Rep K F v d) (h : SeqAt.shaped (toPy d) = true) : Dp K H v (toPy d) := r.dp0 e (shaped_lay h)
def D.eqv (x y : D) : Bool := PyData.eqv (toPy x) (toPy y)
def D.sh (x : D) : Prop := SeqAt.shaped (toPy x) = true
def fEq : F2 := fun x y Q => x.sh ∧ y.sh ∧ Q (.bl (x.eqv y))
def fNe : F2 := fun x y Q => x.sh ∧ y.sh ∧ Q (.bl (!x.eqv y))
theorem opp_eq : OpP X.K (rEqD X.K) fEq := fun F H x y dx dy Q R hs rx ry hf k => ⟨_, _, rx.dp hs hf.1, ry.dp hs hf.2.1, hf.1, hf.2.1, k _ _ _ _ (.old (.bl _)) hf.2.2⟩
theorem opp_ne : OpP X.K (rNeD X.K) fNe := fun F H x y dx dy Q R hs rx ry hf k => ⟨_, _, rx.dp hs hf.1, ry.dp hs hf.2.1, hf.1, hf.2.1, k _ _ _ _ (.old (.bl _)) hf.2.2⟩
def fLt : F2 := f2I0 fun i j => .bl (decide (i < j))
def fLe : F2 := f2I0 fun i j => .bl (decide (i ≤ j))
def fGt : F2 := f2I0 fun i j => .bl (decide (j < i))
def fGe : F2 := f2I0 fun i j => .bl (decide (j ≤ i))
def D.isNon : D → Bool
  | .non => true
  | _ => false
def fIsN : F2 := fun x y Q => match y with | .non => Q (.bl x.isNon) | _ => False
def fNotN : F2 := fun x y Q => match y with | .non => Q (.bl (!x.isNon)) | _ => False
theorem ite_t {A B : Prop} (h : if true = true then A else B) : A := by simpa using h
theorem ite_f {A B : Prop} (h : if false = true then A else B) : B := by simpa using h
theorem ite_ti {A B : Prop} (h : A) : if true = true then A else B := by simpa using h
theorem ite_fi {A B : Prop} (h : B) : if false = true then A else B := by simpa using h
structure Cmp (X : Cx) (op : CmpOp) (r : R2) (f : F2) : Prop where
  op : OpR X (compareOp op) r
  pp : OpP X.K r f
theorem cm_lt : Cmp X .Lt (rI0 fun i j => .bl (decide (i < j))) fLt := ⟨op_lt, opp_I0 fun _ _ _ => .bl _⟩
theorem cm_le : Cmp X .LtE (rI0 fun i j => .bl (decide (i ≤ j))) fLe := ⟨op_le, opp_I0 fun _ _ _ => .bl _⟩
theorem cm_gt : Cmp X .Gt (rI0 fun i j => .bl (decide (j < i))) fGt := ⟨op_gt, opp_I0 fun _ _ _ => .bl _⟩
theorem cm_ge : Cmp X .GtE (rI0 fun i j => .bl (decide (j ≤ i))) fGe := ⟨op_ge, opp_I0 fun _ _ _ => .bl _⟩
theorem cm_eq (hu : X.A.units + 64 < cLine) : Cmp X .Eq (rEqD X.K) fEq := ⟨op_eqD hu, opp_eq⟩
theorem cm_ne (hu : X.A.units + 64 < cLine) : Cmp X .NotEq (rNeD X.K) fNe := ⟨op_neD hu, opp_ne⟩
theorem dec_non {K : PySem.W.Frag} {F : Hp} {v : V} {d : D} (r : Rep K F v d) : decide (v = .non) = d.isNon := by
  cases r <;> rfl
theorem cm_isN : Cmp X .Is (fun x y H Q => y = .non ∧ Q (.bl (decide (x = .non))) H) fIsN := ⟨op_isN, fun F H x y dx dy Q R hs rx ry hf k => by
  cases ry with
  | non => exact ⟨rfl, by rw [dec_non rx]; exact k _ _ _ _ (.old (.bl _)) hf⟩
  | _ => exact hf.elim⟩
theorem cm_notN : Cmp X .IsNot (fun x y H Q => y = .non ∧ Q (.bl (!decide (x = .non))) H) fNotN := ⟨op_notN, fun F H x y dx dy Q R hs rx ry hf k => by
  cases ry with
  | non => exact ⟨rfl, by rw [dec_non rx]; exact k _ _ _ _ (.old (.bl _)) hf⟩
  | _ => exact hf.elim⟩
theorem ppe_cmp {op : CmpOp} {r : R2} {f : F2} (hc : Cmp X op r f) (ha : PPE X a ta Ta) (hb : PPE X b tb Tb) (hm : behindInMarks op b = false) : PPE X (.Compare a [op] [b] pos) (tOp r ta tb) (pOp f Ta Tb) := ⟨pe_cmpR hc.op ha.pe hb.pe hm, snd_op hc.pp ha.snd hb.snd⟩
def pTest (T : TEp) : TTp := fun ρ Q => T ρ fun x ρ' => match x with | .bl k => Q k ρ' | _ => False
theorem snd_test {K : PySem.W.Frag} {t : TE} {T : TEp} (h : SndE K t T) : SndT K (tTest t) (pTest T) := fun G F H σ ρ Q R S hT k => h G F H σ ρ _ _ S hT fun v d F' H' ρ' u S' r q => by
  cases r with
  | bl b => exact ⟨b, rfl, k b F' H' ρ' u S' q⟩
  | _ => exact q.elim
theorem ppt_cmp {op : CmpOp} {r : R2} {f : F2} (hc : Cmp X op r f) (ha : PPE X a ta Ta) (hb : PPE X b tb Tb) (hm : behindInMarks op b = false) : PPT X (.Compare a [op] [b] pos) (tTest (tOp r ta tb)) (pTest (pOp f Ta Tb)) := ⟨pt_cmpR hc.op ha.pe hb.pe hm, snd_test (snd_op hc.pp ha.snd hb.snd)⟩
theorem ppt_val {e : Expr} {t : TE} {T : TEp} (h : PPE X e t T) (he : ∀ whole, isTrue e X.env whole = (do let v ← whole; standAt e.pos; holding [v] (truthy v)) := by intro _; rfl) : PPT X e (tB t) (pTest T) := ⟨pt_val h.pe he, snd_test h.snd⟩
def pChain (f g : F2) (Ta Tb Tc : TEp) : TEp := fun ρ Q => Ta ρ fun x ρ1 => Tb ρ1 fun y ρ2 => f x y fun z => match z with
  | .bl k => if k = true then Tc ρ2 fun w ρ3 => g y w fun z => Q z ρ3 else Q (.bl false) ρ2
  | _ => False
theorem snd_chain {K : PySem.W.Frag} {r r' : R2} {f g : F2} (hp : OpP K r f) (hq : OpP K r' g) (ha : SndE K ta Ta) (hb : SndE K tb Tb) (hc : SndE K tc Tc) : SndE K (tChain r r' ta tb tc) (pChain f g Ta Tb Tc) := fun G F H σ ρ Q R S hT k =>
  ha G F H σ ρ _ _ S hT fun x dx F1 H1 ρ1 u1 S1 r1 h1 => hb G F1 H1 σ ρ1 _ _ S1 h1 fun y dy F2 H2 ρ2 u2 S2 r2 h2 =>
    hp F2 H2 x y dx dy _ _ S2.hF (r1.mono u2.ex) r2 h2 fun v d F3 H3 res q => by
      obtain ⟨u3, S3, r3⟩ := S2.res res
      cases r3 with
      | bl b =>
        refine ⟨b, rfl, ?_⟩
        cases b with
        | true =>
          have q := ite_t q
          refine ite_ti ?_
          refine hc G F3 H3 σ ρ2 _ _ S3 q fun w dw F4 H4 ρ4 u4 S4 r4 h4 => hq F4 H4 y w dy dw _ _ S4.hF ((r2.mono u3.ex).mono u4.ex) r4 h4 fun v d F5 H5 res5 q5 => ?_
          obtain ⟨u5, S5, r5⟩ := S4.res res5
          exact k v d F5 H5 ρ4 ((((u1.trans u2).trans u3).trans u4).trans u5) S5 r5 q5
        | false =>
          have q := ite_f q
          refine ite_fi ?_
          exact k _ _ F3 H3 ρ2 ((u1.trans u2).trans u3) S3 (.bl _) q
      | _ => exact q.elim
theorem ppt_chain {op op' : CmpOp} {r r' : R2} {f g : F2} (h1 : Cmp X op r f) (h2 : Cmp X op' r' g) (ha : PPE X a ta Ta) (hb : PPE X b tb Tb) (hc : PPE X c tc Tc) (hm : lastMarks [op, op'] [b, c] = false := by with_unfolding_all rfl) :
    PPT X (.Compare a [op, op'] [b, c] pos) (tTest (tChain r r' ta tb tc)) (pTest (pChain f g Ta Tb Tc)) := ⟨pt_chain h1.op h2.op ha.pe hb.pe hc.pe hm, snd_test (snd_chain h1.pp h2.pp ha.snd hb.snd hc.snd)⟩
variable {tA tB' : TT} {TA' TB' : TTp} {rest : List Expr}
def pAnd (T U : TTp) : TTp := fun ρ Q => T ρ fun c ρ1 => if c = true then U ρ1 Q else Q false ρ1
def pOr (T U : TTp) : TTp := fun ρ Q => T ρ fun c ρ1 => if c = true then Q true ρ1 else U ρ1 Q
def pNot (T : TTp) : TTp := fun ρ Q => T ρ fun c ρ1 => Q (!c) ρ1
theorem ppw_and1 (ha : PPT X a tA TA') : PPW X (.BoolOp .And [a] pos) tA TA' := ⟨pw_and1 ha.pt, ha.snd⟩
theorem ppw_or1 (ha : PPT X a tA TA') : PPW X (.BoolOp .Or [a] pos) tA TA' := ⟨pw_or1 ha.pt, ha.snd⟩
theorem ppw_and (ha : PPT X a tA TA') (hb : PPW X (.BoolOp .And (b :: rest) pos) tB' TB') : PPW X (.BoolOp .And (a :: b :: rest) pos) (tAnd tA tB') (pAnd TA' TB') := ⟨pw_and ha.pt hb.pw, fun G F H σ ρ Q R S hT k =>
  ha.snd G F H σ ρ _ _ S hT fun c F1 H1 ρ1 u1 S1 h1 => by
    cases c with
    | true => have h1 := ite_t h1; refine ite_ti ?_; exact hb.snd G F1 H1 σ ρ1 _ _ S1 h1 fun b F2 H2 ρ2 u2 S2 h2 => k b F2 H2 ρ2 (u1.trans u2) S2 h2
    | false => have h1 := ite_f h1; refine ite_fi ?_; exact k _ F1 H1 ρ1 u1 S1 h1⟩
theorem ppw_or (ha : PPT X a tA TA') (hb : PPW X (.BoolOp .Or (b :: rest) pos) tB' TB') : PPW X (.BoolOp .Or (a :: b :: rest) pos) (tOr tA tB') (pOr TA' TB') := ⟨pw_or ha.pt hb.pw, fun G F H σ ρ Q R S hT k =>
  ha.snd G F H σ ρ _ _ S hT fun c F1 H1 ρ1 u1 S1 h1 => by
    cases c with
    | false => have h1 := ite_f h1; refine ite_fi ?_; exact hb.snd G F1 H1 σ ρ1 _ _ S1 h1 fun b F2 H2 ρ2 u2 S2 h2 => k b F2 H2 ρ2 (u1.trans u2) S2 h2
    | true => have h1 := ite_t h1; refine ite_ti ?_; exact k _ F1 H1 ρ1 u1 S1 h1⟩
theorem PPW.ppt {e : Expr} {t : TT} {T : TTp} (h : PPW X e t T) : PPT X e t T := ⟨h.pw.pt, h.snd⟩
theorem ppt_not (ha : PPT X a tA TA') : PPT X (.UnaryOp .Not a pos) (tNot tA) (pNot TA') := ⟨pt_not ha.pt, fun G F H σ ρ Q R S hT k => ha.snd G F H σ ρ _ _ S hT fun c F1 H1 ρ1 u1 S1 h1 => k _ F1 H1 ρ1 u1 S1 h1⟩
def pAndV (Ta Tb : TEp) : TEp := fun ρ Q => Ta ρ fun x ρ1 => match x with | .bl c => if c = true then Tb ρ1 Q else Q (.bl false) ρ1 | _ => False
def pNotV (Ta : TEp) : TEp := fun ρ Q => Ta ρ fun x ρ1 => match x with | .bl c => Q (.bl (!c)) ρ1 | _ => False
theorem ppe_one {op} (h : PPE X a ta Ta) : PPE X (.BoolOp op [a] pos) ta Ta := ⟨pe_one h.pe, h.snd⟩
theorem ppe_and (ha : PPE X a ta Ta) (hb : PPE X (.BoolOp .And (b :: rest) pos) tb Tb) : PPE X (.BoolOp .And (a :: b :: rest) pos) (tAndV ta tb) (pAndV Ta Tb) := ⟨pe_and ha.pe hb.pe, fun G F H σ ρ Q R S hT k =>
  ha.snd G F H σ ρ _ _ S hT fun x dx F1 H1 ρ1 u1 S1 r1 h1 => by
    cases r1 with
    | bl c =>
      refine ⟨c, rfl, ?_⟩
      cases c with
      | true => have h1 := ite_t h1; refine ite_ti ?_; exact hb.snd G F1 H1 σ ρ1 _ _ S1 h1 fun v d F2 H2 ρ2 u2 S2 r2 h2 => k v d F2 H2 ρ2 (u1.trans u2) S2 r2 h2
      | false => have h1 := ite_f h1; refine ite_fi ?_; exact k _ _ F1 H1 ρ1 u1 S1 (.bl _) h1
    | _ => exact h1.elim⟩
theorem ppe_not (ha : PPE X a ta Ta) : PPE X (.UnaryOp .Not a pos) (tNotV ta) (pNotV Ta) := ⟨pe_not ha.pe, fun G F H σ ρ Q R S hT k =>
  ha.snd G F H σ ρ _ _ S hT fun x dx F1 H1 ρ1 u1 S1 r1 h1 => by
    cases r1 with
    | bl c => exact ⟨c, rfl, k _ _ F1 H1 ρ1 u1 S1 (.bl _) h1⟩
    | _ => exact h1.elim⟩
def pIf (T : TTp) (Ta Tb : TEp) : TEp := fun ρ Q => T ρ fun c ρ1 => if c = true then Ta ρ1 Q else Tb ρ1 Q
theorem ppe_ifExp {c : Expr} (hc : PPT X c tA TA') (ha : PPE X a ta Ta) (hb : PPE X b tb Tb) : PPE X (.IfExp c a b pos) (tIf tA ta tb) (pIf TA' Ta Tb) := ⟨pe_ifExp hc.pt ha.pe hb.pe, fun G F H σ ρ Q R S hT k =>
  hc.snd G F H σ ρ _ _ S hT fun c F1 H1 ρ1 u1 S1 h1 => by
    cases c with
    | true => have h1 := ite_t h1; refine ite_ti ?_; exact ha.snd G F1 H1 σ ρ1 _ _ S1 h1 fun v d F2 H2 ρ2 u2 S2 r2 h2 => k v d F2 H2 ρ2 (u1.trans u2) S2 r2 h2
    | false => have h1 := ite_f h1; refine ite_fi ?_; exact hb.snd G F1 H1 σ ρ1 _ _ S1 h1 fun v d F2 H2 ρ2 u2 S2 r2 h2 => k v d F2 H2 ρ2 (u1.trans u2) S2 r2 h2⟩
variable {e : Expr} {es : List Expr} {te : TE} {Te : TEp} {t : TA} {T : TAp}
def pNil : TAp := fun ρ Q => Q [] ρ
def pCons (Ta : TEp) (Tr : TAp) : TAp := fun ρ Q => Ta ρ fun x ρ1 => Tr ρ1 fun xs ρ2 => Q (x :: xs) ρ2
theorem ppa_nil : PPA X [] tNil pNil := ⟨pa_nil, fun G F H σ ρ Q R S hT k => k _ _ F H ρ (.refl _ _) S .nil hT⟩
theorem ppa_cons (ha : PPE X e te Te) (hr : PPA X es t T) (hs : starEach (e :: es) X.env = (false, eval e X.env) :: starEach es X.env := by rfl) : PPA X (e :: es) (tCons te t) (pCons Te T) := ⟨pa_cons ha.pe hr.pa hs, fun G F H σ ρ Q R S hT k =>
  ha.snd G F H σ ρ _ _ S hT fun v d F1 H1 ρ1 u1 S1 r1 h1 => hr.snd G F1 H1 σ ρ1 _ _ S1 h1 fun vs ds F2 H2 ρ2 u2 S2 r2 h2 => k _ _ F2 H2 ρ2 (u1.trans u2) S2 (.cons (r1.mono u2.ex) r2) h2⟩
def pTup (T : TAp) : TEp := fun ρ Q => T ρ fun xs ρ1 => xs.length ≤ sizeLine ∧ Q (.tup xs) ρ1
theorem ppe_tup {x1} (h : PPA X es t T) : PPE X (.Tuple es x1 pos) (tTup t) (pTup T) := ⟨pe_tup h.pa, fun G F H σ ρ Q R S hT k =>
  h.snd G F H σ ρ _ _ S hT fun vs ds F1 H1 ρ1 u1 S1 r1 h1 => ⟨by rw [r1.length]; exact h1.1, fun p hp => k _ _ _ _ ρ1 (u1.trans (S1.upNew hp)) (S1.new hp) (.tup upd_same (r1.mono (same_new (S1.freshF hp)))) h1.2⟩⟩
def pLst (T : TAp) : TEp := fun ρ Q => T ρ fun xs ρ1 => xs.length ≤ sizeLine ∧ Q (.lst xs) ρ1
theorem ppe_lst (h : PPA X es t T) : PPE X (.List es pos) (tLst t) (pLst T) := ⟨pe_lst h.pa, fun G F H σ ρ Q R S hT k =>
  h.snd G F H σ ρ _ _ S hT fun vs ds F1 H1 ρ1 u1 S1 r1 h1 => ⟨by rw [r1.length]; exact h1.1, fun p hp => k _ _ _ _ ρ1 (u1.trans (S1.upNew hp)) (S1.new hp) (.lst upd_same (r1.mono (same_new (S1.freshF hp)))) h1.2⟩⟩
def pLstO (T : TAp) : TCp := fun ρ Q => T ρ fun xs ρ1 => xs.length ≤ sizeLine ∧ ∀ a, Q (.own a xs) ρ1
theorem Sim.newOwn {K : PySem.W.Frag} {G F H : Hp} {σ : L2.St} {ρ : Ro} (S : Sim K G F H σ ρ) {p : Addr} {vs : List V} {xs : List D} (h : H p = none) (r : Reps K F vs xs) : Sim K G F (upd H p (.lst vs)) (σ ++ [some (.ref p)]) (ρ ++ [some (.own p xs)]) :=
  (S.more h).pushOwn upd_same (S.freshF h) (S.freshG h) (S.notOwn h) r
theorem ppc_lst (h : PPA X es t T) : PPC X (.List es pos) (tLst t) (pLstO T) := ⟨pe_lst h.pa, fun G F H σ ρ Q R S hT k =>
  h.snd G F H σ ρ _ _ S hT fun vs ds F1 H1 ρ1 u1 S1 r1 h1 => ⟨by rw [r1.length]; exact h1.1, fun p hp => k _ _ _ _ ρ1 u1 (S1.newOwn hp r1) (h1.2 p)⟩⟩
def pCB (f : List D → (D → Prop) → Prop) (T : TAp) : TEp := fun ρ Q => T ρ fun xs ρ1 => f xs fun z => Q z ρ1
theorem snd_cb {K : PySem.W.Frag} {r : List V → Hp → VK → Prop} {f : List D → (D → Prop) → Prop} (hp : CallP K r f) (h : SndA K t T) : SndE K (tCB r t) (pCB f T) := fun G F H σ ρ Q R S hT k =>
  h G F H σ ρ _ _ S hT fun vs ds F1 H1 ρ1 u1 S1 r1 h1 => hp F1 H1 vs ds _ _ S1.hF r1 h1 fun v d F2 H2 res q => by
    obtain ⟨u2, S2, r2⟩ := S1.res res
    exact k v d F2 H2 ρ1 (u1.trans u2) S2 r2 q
theorem ppe_callB {x : Str} {p : Pos} {id : String} {r : List V → Hp → VK → Prop} {f : List D → (D → Prop) → Prop} (hc : CallR X (.builtin id) r) (hp : CallP X.K r f) (hg : Gl X x) (hm : X.mg x = none) (hv : bootBuiltins x = some (.builtin id)) (ha : PPA X (e :: es) t T)
    (hn : x ≠ "__name__" := by decide) (hdb : (x == ("__debug__" : Str)) = false := by decide)
    (he : starEach (e :: es) X.env = (false, eval e X.env) :: starEach es X.env := by rfl) (hpl : (backTo pos (starEach es X.env)).any (·.1) = false := by rfl) : PPE X (.Call (.Name x p) (e :: es) [] pos) (tCB r t) (pCB f T) := ⟨pe_callB hc hg hm hv ha.pa hn hdb he hpl, snd_cb hp ha.snd⟩
theorem ppe_callTy {x : Str} {p : Pos} {id : String} {r : List V → Hp → VK → Prop} {f : List D → (D → Prop) → Prop} (hc : CallR X (.type id) r) (hp : CallP X.K r f) (hg : Gl X x) (hm : X.mg x = none) (hv : bootBuiltins x = some (.type id)) (ha : PPA X (e :: es) t T)
    (hn : x ≠ "__name__" := by decide) (hdb : (x == ("__debug__" : Str)) = false := by decide)
    (he : starEach (e :: es) X.env = (false, eval e X.env) :: starEach es X.env := by rfl) (hpl : (backTo pos (starEach es X.env)).any (·.1) = false := by rfl) : PPE X (.Call (.Name x p) (e :: es) [] pos) (tCB r t) (pCB f T) := ⟨pe_callTy hc hg hm hv ha.pa hn hdb he hpl, snd_cb hp ha.snd⟩
end
end Pl
namespace Pl
open PySem PySem.Spec PyProof.Rows L2
open PySem.W (AlikeAll minD maxD minD_ints maxD_ints min_list_data min_tuple_data max_list_data max_tuple_data min_list_default max_list_default)
theorem places_rev (n : Nat) : Builtin.Slice.slicePlaces ((n : Int) - 1) (-1) (-1) = n := by
  unfold Builtin.Slice.slicePlaces
  by_cases h : n = 0
  · subst h; rfl
  · first
    | (simp; omega)
    | (simp only [show ¬ ((-1 : Int) > 0) by decide, if_false]; split <;> omega)
theorem adjust_rev (n : Nat) : Builtin.Slice.sliceAdjust none none (-1) (n : Int) = ((n : Int) - 1, -1) := by
  first
  | rfl
  | simp [Builtin.Slice.sliceAdjust]
theorem pick_rev (xs : Array Value) : ((List.range xs.size).filterMap fun (m : Nat) => xs[(((xs.size : Int) - 1) + (m : Int) * (-1)).toNat]?).toArray = xs.toList.reverse.toArray := by
  have e : ((List.range xs.size).filterMap fun (m : Nat) => xs[(((xs.size : Int) - 1) + (m : Int) * (-1)).toNat]?) = ((List.range xs.size).map fun k => xs.size - 1 - k).filterMap (xs[·]?) := by
    rw [List.filterMap_map]
    have g : ∀ l : List Nat, (l.filterMap fun (m : Nat) => xs[(((xs.size : Int) - 1) + (m : Int) * (-1)).toNat]?) = l.filterMap ((fun x => xs[x]?) ∘ fun k => xs.size - 1 - k) := fun l => by
      congr 1
      funext m
      show xs[(((xs.size : Int) - 1) + (m : Int) * (-1)).toNat]? = xs[xs.size - 1 - m]?
      rw [show (((xs.size : Int) - 1) + (m : Int) * (-1)).toNat = xs.size - 1 - m by omega]
    exact g _
  rw [e, PySem.W.krv_range, List.filterMap_reverse, PySem.W.krv_all]
section
variable {prog : Program} {w : World} {A : Around} {E : Value → Shared → Prop} {s : Shared}
theorem getItem_tuple_rev {t sl : Addr} {items : Array Value} {vl vu vs : Value} {Q : Value → Shared → Prop} (ht : IsTup s.heap t items) (hs : s.heap.IsSliceOf sl vl vu vs) (pl : IsPart vl none) (pu : IsPart vu none) (ps : IsPart vs (some (-1)))
    (h : Q (.ref s.heap.objs.size) { s with heap := s.heap.push { cls := .type "tuple", data := .seq items.toList.reverse.toArray } })
    (hsz : items.size ≤ sizeLine) : wpAny (model prog w) A (getItem (.ref t) (.ref sl)) Q E s := by
  have htake : sizeOk (.seq items.toList.reverse.toArray) := by
    show items.toList.reverse.toArray.size ≤ sizeLine
    rw [List.size_toArray, List.length_reverse, Array.length_toList]
    omega
  obtain ⟨os, hos, hcs, hds⟩ := id hs
  have hTs : s.TypeIs (.ref sl) "slice" := ⟨os, hos, hcs⟩
  unfold getItem
  try with_reducible refine wpAny_holding ?_
  first | refine wpAny_bind (wpAny_pure ?_) | skip
  refine wpAny_bind (wpAny_sequenceKey ht.typeIs (by decide) ?_)
  refine wpAny_bind (wpAny_callSpecial?_slot (name := Str.ofString "__getitem__") ht.typeIs PyProof.Rows.slot_tuple_getitem
    (wpAny_call_entry PyProof.Rows.slot_tuple_getitem ht.typeIs entry_tuple_getitem ?_ (args_tuple_getitem _ _)))
  show wpAny _ _ (Builtin.Tuple.tupleItemsOf (.ref t) >>= _) _ _ s
  refine wpAny_bind (tupleItemsOf_ ht ?_)
  refine wpAny_bind (wpAny_typeOf hTs ?_)
  rw [if_pos (by decide)]
  have applied : ∀ {Q : Int × Int × Nat → Shared → Prop} {A' : Around} {E' : Value → Shared → Prop}, Q ((items.size : Int) - 1, -1, items.size) s → wpAny (model prog w) A' (Builtin.Slice.sliceApplied (.ref sl) (pure (items.size : Int))) Q E' s := by
    intro Q A' E' h
    unfold Builtin.Slice.sliceApplied Builtin.Slice.sliceFields
    refine wpAny_bind (wpAny_bind (wpAny_field hos hds (x := vl) rfl (wpAny_bind (wpAny_field hos hds (x := vu) rfl (wpAny_bind (wpAny_field hos hds (x := vs) rfl (wpAny_pure ?_)))))))
    refine wpAny_bind (HT.slicePart_ ps ?_)
    show wpAny _ _ (if ((-1 : Int) == 0) = true then _ else _) _ _ s
    rw [if_neg (by decide)]
    refine wpAny_bind (HT.slicePart_ pl (wpAny_bind (HT.slicePart_ pu (wpAny_bind (wpAny_pure ?_)))))
    show wpAny _ _ (match Builtin.Slice.sliceAdjust none none (-1) (items.size : Int) with | (lo, hi) => pure (lo, (-1 : Int), Builtin.Slice.slicePlaces lo hi (-1))) _ _ s
    rw [adjust_rev]
    show wpAny _ _ (pure ((items.size : Int) - 1, (-1 : Int), Builtin.Slice.slicePlaces ((items.size : Int) - 1) (-1) (-1))) _ _ s
    rw [places_rev]
    exact wpAny_pure h
  refine wpAny_bind (applied ?_)
  have hno : ¬ ((((items.size : Int) - 1) == 0 && (-1 : Int) == 1 && items.size == items.size) = true) := by
    intro q
    rw [Bool.and_eq_true, Bool.and_eq_true] at q
    exact absurd q.1.2 (by decide)
  show wpAny _ _ (if (((items.size : Int) - 1) == 0 && (-1 : Int) == 1 && items.size == items.size) = true then _ else _) _ _ s
  rw [if_neg hno, pick_rev]
  first
    | exact wpAny_bind (m := Builtin.Tuple.tupleExact _) (wpAny_newObj_type (wpAny_pure ⟨_, rfl, wpAny_pure h⟩) htake)
    | exact wpAny_bind (m := Builtin.Tuple.tupleExact _) (wpAny_newObj_type (wpAny_bind (wpAny_pure (wpAny_pure ⟨_, rfl, wpAny_pure h⟩))) htake)
    | exact wpAny_bind (wpAny_bind (m := Builtin.Tuple.tupleExact _) (wpAny_newObj_type (wpAny_pure (wpAny_pure ⟨_, rfl, wpAny_pure h⟩)) htake))
    | exact wpAny_bind (wpAny_bind (m := Builtin.Tuple.tupleExact _) (wpAny_newObj_type (wpAny_pure ⟨_, rfl, wpAny_pure h⟩) htake))
end
section
variable {X : Cx}
def tRevA (K : PySem.W.Frag) (te : TE) : TE := fun σ H Q => te σ H fun x H1 => ∃ a xs, x = .ref a ∧ ((SqL K H1 a xs ∧ ∀ p, H1 p = none → Q (.ref p) (upd H1 p (.lst xs.reverse))) ∨ (SqT K H1 a xs ∧ ∀ p, H1 p = none → Q (.ref p) (upd H1 p (.tup xs.reverse))))
theorem pe_revA {e : Expr} {te : TE} {k : Nat} {p1 p2 p3 pos : Pos} (he : PE X e te) : PE X (.Subscript e (.Slice none none (some (.UnaryOp .USub (.Constant (.int 1) k p1) p2)) p3) pos) (tRevA X.K te) := by
  refine ⟨fun pins s σ H Q I h => ?_⟩
  refine Subscript_ (thn (he.run pins s σ H _ I h) fun v s1 ⟨x, H1, I1, r1, q1⟩ => ?_)
  obtain ⟨a, xs, ex, hx⟩ := q1
  subst ex
  cases r1
  have hst : PO X (some (.UnaryOp .USub (.Constant (.int 1) k p1) p2)) (tPart (tUn (rU fun i => .int (-i)) (tC (.int 1)))) := po_some (pe_un un_neg pe_int)
  refine wpAny_Slice (thn (po_none.run pins s1 σ H1 (fun o H2 => o = none ∧ H2 = H1) I1 ⟨rfl, rfl⟩) fun vl s2 ⟨l, H2, I2, pl, el, e2⟩ => ?_)
  subst el e2
  refine thn (po_none.run pins s2 σ H2 (fun o H3 => o = none ∧ H3 = H2) I2 ⟨rfl, rfl⟩) fun vu s3 ⟨u, H3, I3, pu, eu, e3⟩ => ?_
  subst eu e3
  refine thn (hst.run pins s3 σ H3 (fun o H4 => o = some (-1) ∧ H4 = H3) I3 ⟨1, rfl, -1, rfl, rfl, rfl⟩) fun vs s4 ⟨o, H4, I4, ps, eo, e4⟩ => ?_
  subst eo e4
  have I5 : Inv X pins σ H4 { s4 with heap := s4.heap.push { cls := .type "slice", data := .fields #[vl, vu, vs] } } := I4.kept (t' := s4.toks) fun b ob q => Heap.get?_push_of_some _ q
  show wpAny (model X.prog X.w) X.A (subscriptTail e (.Slice none none (some (.UnaryOp .USub (.Constant (.int 1) k p1) p2)) p3) (.ref a) (.ref s4.heap.objs.size)) (EP X pins σ Q) X.xe { s4 with heap := s4.heap.push { cls := .type "slice", data := .fields #[vl, vu, vs] } }
  rcases hx with ⟨hx, q⟩ | ⟨hx, q⟩
  · obtain ⟨its, r, ht, hz⟩ := I5.list hx
    have hlen := r.length
    refine tail_any (ops := [.ref a, .ref s4.heap.objs.size]) ht.isList.typeIs (PySem.slot_list_getitem.lookup) ?_ (by with_unfolding_all rfl)
    refine wpAny_getItem_list_slice ht.isList (Heap.IsSliceOf.new _ vl vu vs) pl pu ps (by decide) ?_ (by rw [List.size_toArray]; omega)
    rw [PySem.W.krv_pick]
    refine ⟨.ref _, _, I5.laid (t' := s4.toks) (o := .lst xs.reverse) (fun b ob q => Heap.get?_push_of_some _ q) (Nat.le_refl _) ?_, rfl, q _ (I5.hok.fresh (Nat.le_refl _))⟩
    exact ⟨by rw [List.length_reverse]; exact hz, _, 0, r.reverse, Heap.get?_push_size _ rfl⟩
  · obtain ⟨its, r, ht, hz⟩ := I5.tuple hx
    have hlen := r.length
    refine tail_any (ops := [.ref a, .ref s4.heap.objs.size]) ht.typeIs (PyProof.Rows.slot_tuple_getitem.lookup) ?_ (by with_unfolding_all rfl)
    refine getItem_tuple_rev ht (Heap.IsSliceOf.new _ vl vu vs) pl pu ps ?_ (by rw [List.size_toArray]; omega)
    refine ⟨.ref _, _, I5.laid (t' := s4.toks) (o := .tup xs.reverse) (fun b ob q => Heap.get?_push_of_some _ q) (Nat.le_refl _) ?_, rfl, q _ (I5.hok.fresh (Nat.le_refl _))⟩
    exact ⟨by rw [List.length_reverse]; exact hz, _, r.reverse, ⟨_, Heap.get?_push_size _ rfl, rfl, _, rfl⟩⟩
theorem alike_ints (ns : List Int) : AlikeAll (ns.map PyData.int) := ⟨fun x hx y hy => by
  obtain ⟨i, _, rfl⟩ := List.mem_map.mp hx
  obtain ⟨j, _, rfl⟩ := List.mem_map.mp hy
  rfl, fun x hx => by
  obtain ⟨i, _, rfl⟩ := List.mem_map.mp hx
  simp⟩
theorem depth_ints : ∀ ns : List Int, PyData.depthAll (ns.map PyData.int) = 0
  | [] => rfl
  | n :: ns => by
    show max (PyData.depth (.int n)) (PyData.depthAll (ns.map PyData.int)) = 0
    rw [depth_ints ns]; rfl
theorem reads_vals {h : Heap} : ∀ {ns : List Int} {us : List Value}, Vals (ns.map V.int) us → ∃ as, ReadsAll h us (ns.map PyData.int) as
  | [], _, .nil => ⟨_, .nil⟩
  | n :: ns, _, .cons r t => by
    obtain ⟨tk, rfl⟩ := r
    obtain ⟨as, q⟩ := reads_vals (h := h) t
    exact ⟨_, .cons (.int _ _) q⟩
theorem reads_int {h : Heap} {v : Value} {n : Int} {bs : List Addr} (r : Reads h v (.int n) bs) : ∃ t, v = .int n t := by
  cases r; exact ⟨_, rfl⟩
def SqI (K : PySem.W.Frag) (H : Hp) (a : Addr) (ns : List Int) : Prop := SqL K H a (ns.map V.int) ∨ SqT K H a (ns.map V.int)
def rBest (K : PySem.W.Frag) (g : Int → Int → Int) : List V → Hp → VK → Prop := fun vs H Q => ∃ (a : Addr) (n : Int) (ns : List Int), vs = [V.ref a] ∧ SqI K H a (n :: ns) ∧ Q (.int (ns.foldl g n)) H
theorem cr_minA (hc : X.calm = true) (hu : X.A.units + 64 < cLine) : CallR X (.builtin "min") (rBest X.K min) := by
  intro pins s σ H vs us Q I r h
  obtain ⟨a, n, ns, rfl, hs, q⟩ := h
  rw [Vals.ref1 r]
  have hd : X.A.units + 1 + PyData.depthAll (.int n :: ns.map PyData.int) < cLine := by
    rw [show (PyData.int n :: ns.map PyData.int) = (n :: ns).map PyData.int from rfl, depth_ints]; omega
  have fin : ∀ (v : Value) (h' : Heap) (tk : Nat) (bs : List Addr), Reads h' v (minD (.int n) (ns.map PyData.int)) bs → (∀ b o, s.heap.get? b = some o → h'.get? b = some o) → EP X pins σ Q v { s with heap := h', toks := tk } := fun v h' tk bs r k => by
    rw [minD_ints] at r
    obtain ⟨t, rfl⟩ := reads_int r
    exact ⟨.int _, H, I.kept k, ⟨_, rfl⟩, q⟩
  rcases hs with hs | hs
  · obtain ⟨its, rv, hl, _⟩ := I.list hs
    obtain ⟨as, ra⟩ := reads_vals (h := s.heap) rv
    exact min_list_data (I.ok.hd hc) hl.isList ra (alike_ints (n :: ns)) hd fun i v h' tk bs _ r k => fin v h' tk bs r k
  · obtain ⟨its, rv, hl, _⟩ := I.tuple hs
    obtain ⟨as, ra⟩ := reads_vals (h := s.heap) rv
    exact min_tuple_data (I.ok.hd hc) (show s.heap.IsTuple a its.toArray from hl) ra (alike_ints (n :: ns)) hd fun i v h' tk bs _ r k => fin v h' tk bs r k
theorem cr_maxA (hc : X.calm = true) (hu : X.A.units + 64 < cLine) : CallR X (.builtin "max") (rBest X.K max) := by
  intro pins s σ H vs us Q I r h
  obtain ⟨a, n, ns, rfl, hs, q⟩ := h
  rw [Vals.ref1 r]
  have hd : X.A.units + 1 + PyData.depthAll (.int n :: ns.map PyData.int) < cLine := by
    rw [show (PyData.int n :: ns.map PyData.int) = (n :: ns).map PyData.int from rfl, depth_ints]; omega
  have fin : ∀ (v : Value) (h' : Heap) (tk : Nat) (bs : List Addr), Reads h' v (maxD (.int n) (ns.map PyData.int)) bs → (∀ b o, s.heap.get? b = some o → h'.get? b = some o) → EP X pins σ Q v { s with heap := h', toks := tk } := fun v h' tk bs r k => by
    rw [maxD_ints] at r
    obtain ⟨t, rfl⟩ := reads_int r
    exact ⟨.int _, H, I.kept k, ⟨_, rfl⟩, q⟩
  rcases hs with hs | hs
  · obtain ⟨its, rv, hl, _⟩ := I.list hs
    obtain ⟨as, ra⟩ := reads_vals (h := s.heap) rv
    exact max_list_data (I.ok.hd hc) hl.isList ra (alike_ints (n :: ns)) hd fun i v h' tk bs _ r k => fin v h' tk bs r k
  · obtain ⟨its, rv, hl, _⟩ := I.tuple hs
    obtain ⟨as, ra⟩ := reads_vals (h := s.heap) rv
    exact max_tuple_data (I.ok.hd hc) (show s.heap.IsTuple a its.toArray from hl) ra (alike_ints (n :: ns)) hd fun i v h' tk bs _ r k => fin v h' tk bs r k
end
end Pl
namespace Pl
open PySem PySem.Spec PyProof.Rows L2
def SqK (K : PySem.W.Frag) (k : Bool) (H : Hp) (a : Addr) (xs : List V) : Prop := match k with
  | true => SqL K H a xs
  | false => SqT K H a xs
def ItK (k : Bool) (h : Heap) (it a : Addr) (i : Nat) : Prop := match k with
  | true => h.IsListIter it a i
  | false => h.IsTupleIter it a i
def IsK (k : Bool) (h : Heap) (a : Addr) (items : Array Value) : Prop := match k with
  | true => h.IsList a items
  | false => h.IsTuple a items
def objK (k : Bool) (l : Addr) : Obj := match k with
  | true => { cls := .type "list_iterator", data := .fields #[.ref l, .int 0 0] }
  | false => { cls := .type "tuple_iterator", data := .fields #[.ref l, .int 0 0] }
theorem drawsK {prog : Program} {w : World} {A : Around} (hh : A.handled = none) (k : Bool) (it l : Addr) (hne : l ≠ it) (items : Array Value) :
    Draws prog w A it [it, l] items.size (fun i v => items[i]? = some v) (fun i h => ItK k h it l i ∧ IsK k h l items) := by
  cases k with
  | true => exact Draws.list hh it l hne items
  | false => exact Draws.tuple hh it l hne items
theorem beginsK (k : Bool) (l : Addr) (items : Array Value) : Begins (.ref l) (objK k l) fun h => IsK k h l items := by
  cases k with
  | true => exact begins_list l items
  | false => exact begins_tuple l items
theorem itK_new {k : Bool} {h : Heap} {it l : Addr} (e : h.get? it = some (objK k l)) : ItK k h it l 0 := by
  cases k with
  | true => exact ⟨_, e, rfl, rfl⟩
  | false => exact ⟨_, e, rfl, rfl⟩
theorem ItK.obj {k : Bool} {h : Heap} {it l : Addr} {i : Nat} (x : ItK k h it l i) : ∃ o, h.get? it = some o ∧ ∀ v, o.data ≠ .cell v := by
  cases k with
  | true => obtain ⟨o, e, _, d⟩ := x; exact ⟨o, e, fun v q => by rw [d] at q; cases q⟩
  | false => obtain ⟨o, e, _, d⟩ := x; exact ⟨o, e, fun v q => by rw [d] at q; cases q⟩
theorem ItK.at {k : Bool} {h h' : Heap} {it l : Addr} {i : Nat} (x : ItK k h it l i) (e : ∀ o, h.get? it = some o → h'.get? it = some o) : ItK k h' it l i := by
  cases k with
  | true => obtain ⟨o, q, r⟩ := x; exact ⟨o, e o q, r⟩
  | false => obtain ⟨o, q, r⟩ := x; exact ⟨o, e o q, r⟩
section
variable {X : Cx} {pins : List (Addr × Obj)} {σ : L2.St} {H : Hp} {s : Shared} {a : Addr} {xs ys : List V} {k : Bool}
theorem invK (I : Inv X pins σ H s) (h : SqK X.K k H a xs) : ∃ its : List Value, Vals xs its ∧ IsK k s.heap a its.toArray ∧ xs.length ≤ sizeLine ∧ a < s.heap.objs.size := by
  cases k with
  | true =>
    obtain ⟨its, r, p, z⟩ := I.list h
    exact ⟨its, r, p.isList, z, p.lt⟩
  | false =>
    obtain ⟨its, r, p, z⟩ := I.tuple h
    exact ⟨its, r, p, z, p.lt⟩
theorem invK_inj (I : Inv X pins σ H s) (h : SqK X.K k H a xs) (h' : SqK X.K k H a ys) : xs = ys := by
  cases k with
  | true => exact I.list_inj h h'
  | false => exact I.tuple_inj h h'
end
theorem SqK.mono {K : PySem.W.Frag} {k : Bool} {H H' : Hp} {a : Addr} {xs : List V} (e : Same H H') (h : SqK K k H a xs) : SqK K k H' a xs := by
  cases k with
  | true => exact e.seq h
  | false =>
    rcases h with (h | ⟨o, h⟩) | h
    · exact .inl (.inl (e _ _ h))
    · exact .inl (.inr ⟨o, e _ _ h⟩)
    · exact .inr h
theorem turn_goes {P : Program} {w : World} {K : PySem.W.Frag} {tg : Expr} {J : It} {fp : List Addr} {it : Addr} {tn : Nat → Heap → Prop}
    (mem : it ∈ fp) (obj : ∀ i h, tn i h → ∀ b ∈ fp, ∃ o, h.get? b = some o ∧ ∀ v, o.data ≠ .cell v) (keep : ∀ i h h', tn i h → (∀ b ∈ fp, ∀ o, h.get? b = some o → h'.get? b = some o) → tn i h')
    (go : ∀ (X : Cx), X.prog = P → X.w = w → X.K = K → X.calm = true → ∀ (i : Nat) (pins : List (Addr × Obj)) (s : Shared) (σ : L2.St) (H : Hp), Inv X pins σ H s → (∀ b ∈ fp, FpOk X pins H b) → tn i s.heap → (J.go i H ∨ J.stop i H) →
      ∃ (gfp wr : List Addr) (n : Nat) (Y : Nat → Heap → Value → Heap → Prop) (St : Nat → Heap → Prop), GoesN P w X.A tg it gfp wr n Y St ∧ St i s.heap ∧ (∀ b ∈ wr, b ∈ fp) ∧
        (J.go i H → i < n ∧ ∀ v h', Y i s.heap v h' → St (i + 1) h' → (∀ b o, b ∉ wr → s.heap.get? b = some o → h'.get? b = some o) →
          tn (i + 1) h' ∧ ∃ T ob, v = .ref T ∧ s.heap.objs.size ≤ T ∧ ObjOk P w (upd H T ob) h' T ob ∧ J.yld i H (.ref T) (upd H T ob)) ∧ (J.stop i H → i = n))
    (self : ∀ (A : Around) (i : Nat) (s : Shared) (Q : Value → Shared → Prop) (E : Value → Shared → Prop), tn i s.heap → Q (.ref it) s → wpAny (model P w) A (pyIter (.ref it)) Q E s) : Turn P w K tg J fp it tn where
  mem := mem
  obj := obj
  keep := keep
  item := by
    intro X hP hw hK hc i pins s σ H E I hf st hg
    obtain ⟨gfp, wr, n, Y, St, W, hst, hsub, h1, _⟩ := go X hP hw hK hc i pins s σ H I hf st (.inl hg)
    obtain ⟨hlt, h2⟩ := h1 hg
    subst hP hw hK
    refine W.goes i s (fun u s2 => ∃ x H', Inv X pins σ H' s2 ∧ RelV x u ∧ J.yld i H x H' ∧ tn (i + 1) s2.heap ∧ ∀ b ∈ fp, H' b = none) E hlt hst fun v h' tk hY st' hk _ => ?_
    obtain ⟨ht, T, ob, rfl, hT, new, yl⟩ := h2 v h' hY st' hk
    have I1 : Inv X pins σ (upd H T ob) { s with heap := h', toks := tk } := I.turnedNew (ch := wr) hk (fun b hb => hf b (hsub b hb)) hT new
    refine ⟨.ref T, _, I1, rfl, yl, ht, fun b hb => ?_⟩
    obtain ⟨o, e, _⟩ := obj i s.heap st b hb
    rw [upd_ne (Nat.ne_of_lt (Nat.lt_of_lt_of_le (Heap.lt_size e) hT))]
    exact (hf b hb).1
  done := by
    intro X hP hw hK hc i pins s σ H E I hf st hg
    obtain ⟨gfp, wr, n, Y, St, W, hst, hsub, _, h2⟩ := go X hP hw hK hc i pins s σ H I hf st (.inr hg)
    subst hP hw hK
    have e := h2 hg
    subst e
    refine W.stops s (fun s1 => Inv X pins σ H s1) E hst fun h' tk hk _ => ?_
    exact I.turnedL hk fun b hb => hf b (hsub b hb)
  self := self
theorem tup_ok {P : Program} {w : World} {H : Hp} {h : Heap} {T : Addr} {xs : List V} {us : List Value} (r : Vals xs us) (ht : h.IsTuple T us.toArray) (hz : xs.length ≤ sizeLine) : ObjOk P w (upd H T (.tup xs)) h T (.tup xs) := ⟨hz, us, r, ht⟩
def ItZ2 (K : PySem.W.Frag) (k1 : Bool) (a : Addr) (k2 : Bool) (b : Addr) : It :=
  ⟨fun i H => ∃ (xs ys : List V) (x y : V), SqK K k1 H a xs ∧ SqK K k2 H b ys ∧ xs[i]? = some x ∧ ys[i]? = some y,
    fun i H v H' => ∃ T x y, v = .ref T ∧ H T = none ∧ H' = upd H T (.tup [x, y]) ∧ (∀ xs, SqK K k1 H a xs → xs[i]? = some x) ∧ ∀ ys, SqK K k2 H b ys → ys[i]? = some y,
    fun i H => ∃ xs ys : List V, SqK K k1 H a xs ∧ SqK K k2 H b ys ∧ i = min xs.length ys.length⟩
theorem turn_z2 {P : Program} {w : World} {K : PySem.W.Frag} {elts : List Expr} {kk : Nat} {tpos : Pos} {k1 k2 : Bool} {a b z TI TO i1 i2 : Addr} (S : ZipSep2 z TI TO i1 i2 [i1, a] [i2, b]) (hia : a ≠ i1) (hib : b ≠ i2) :
    Turn P w K (.Tuple elts kk tpos) (ItZ2 K k1 a k2 b) [z, TI, TO, i1, i2] z (fun i h => IsZip h z TI TO .none ∧ IsTupOf2 h TI (.ref i1) (.ref i2) ∧ (∃ a1 a2, IsTupOf2 h TO a1 a2) ∧ ItK k1 h i1 a i ∧ ItK k2 h i2 b i) := by
  refine turn_goes (by simp) (fun i h st c hc => ?_) (fun i h h' st k => ?_) (fun X hP hw hK hc i pins s σ H I hf st hg => ?_) fun A i s Q E st h => wpAny_pyIter_zip st.1 h
  · obtain ⟨hz, hTI, ⟨x, y, hTO⟩, h1, h2⟩ := st
    have e' : c = z ∨ c = TI ∨ c = TO ∨ c = i1 ∨ c = i2 := by simpa using hc
    rcases e' with q | q | q | q | q
    · rw [q]; exact ⟨_, hz, fun v q => nomatch q⟩
    · rw [q]; exact ⟨_, hTI, fun v q => nomatch q⟩
    · rw [q]; exact ⟨_, hTO, fun v q => nomatch q⟩
    · rw [q]; exact h1.obj
    · rw [q]; exact h2.obj
  · obtain ⟨hz, hTI, ⟨x, y, hTO⟩, h1, h2⟩ := st
    exact ⟨k z (by simp) _ hz, k TI (by simp) _ hTI, ⟨x, y, k TO (by simp) _ hTO⟩, h1.at fun o q => k i1 (by simp) o q, h2.at fun o q => k i2 (by simp) o q⟩
  · subst hP hw hK
    obtain ⟨hz, hTI, hTO, h1, h2⟩ := st
    have src : ∃ xs ys, SqK X.K k1 H a xs ∧ SqK X.K k2 H b ys := by
      rcases hg with ⟨xs, ys, _, _, p, q, _⟩ | ⟨xs, ys, p, q, _⟩
      · exact ⟨xs, ys, p, q⟩
      · exact ⟨xs, ys, p, q⟩
    obtain ⟨xs, ys, sx, sy⟩ := src
    obtain ⟨its, rv, p1, z1, _⟩ := invK I sx
    obtain ⟨its2, rv2, p2, z2, _⟩ := invK I sy
    have hh : X.A.in1.handled = none := I.ok.hd hc
    have l1 := rv.length
    have l2 := rv2.length
    refine ⟨_, _, _, _, _, GoesN.zip2 S (drawsK hh k1 i1 a hia its.toArray) (drawsK hh k2 i2 b hib its2.toArray), ⟨hz, hTI, hTO, ⟨h1, p1⟩, ⟨h2, p2⟩⟩, fun c hc => ?_, fun hgo => ⟨?_, fun v h' hY st' hk => ?_⟩, fun hs => ?_⟩
    · have e' : c = z ∨ c = TO ∨ c = i1 ∨ c = i2 := by simpa using hc
      rcases e' with q | q | q | q <;> simp [q]
    · obtain ⟨xs', ys', x, y, p, q, e1, e2⟩ := hgo
      have E1 := invK_inj I p sx
      have E2 := invK_inj I q sy
      subst E1 E2
      have g1 : i < xs'.length := by
        rcases Nat.lt_or_ge i xs'.length with g | g
        · exact g
        · rw [List.getElem?_eq_none g] at e1; cases e1
      have g2 : i < ys'.length := by
        rcases Nat.lt_or_ge i ys'.length with g | g
        · exact g
        · rw [List.getElem?_eq_none g] at e2; cases e2
      simp only [List.size_toArray]
      omega
    · obtain ⟨T, u, v', rfl, hT, hu, hv, htup⟩ := hY
      obtain ⟨hz', hTI', hTO', ⟨h1', _⟩, ⟨h2', _⟩⟩ := st'
      refine ⟨⟨hz', hTI', hTO', h1', h2'⟩, ?_⟩
      obtain ⟨xs', ys', x, y, p, q, e1, e2⟩ := hgo
      have E1 := invK_inj I p sx
      have E2 := invK_inj I q sy
      subst E1 E2
      obtain ⟨u', hu', ru⟩ := rv.get e1
      obtain ⟨w', hw', rw'⟩ := rv2.get e2
      have eu : u = u' := by
        have : its[i]? = some u := by simpa using hu
        rw [hu'] at this; exact (Option.some.inj this).symm
      have ev : v' = w' := by
        have : its2[i]? = some v' := by simpa using hv
        rw [hw'] at this; exact (Option.some.inj this).symm
      subst eu ev
      refine ⟨T, .tup [x, y], rfl, hT, tup_ok (us := [u, v']) (.cons ru (.cons rw' .nil)) htup (by show 2 ≤ sizeLine; decide), T, x, y, rfl, I.hok.fresh hT, rfl, fun l hl => by rw [invK_inj I hl p]; exact e1, fun l hl => by rw [invK_inj I hl q]; exact e2⟩
    · obtain ⟨xs', ys', p, q, e⟩ := hs
      have E1 := invK_inj I p sx
      have E2 := invK_inj I q sy
      subst E1 E2
      simp only [List.size_toArray]
      omega
def iZ2 (K : PySem.W.Frag) (ta : TA) : TI := fun σ H R => ta σ H fun vs H1 => ∃ k1 k2 a b xs ys, vs = [.ref a, .ref b] ∧ SqK K k1 H1 a xs ∧ SqK K k2 H1 b ys ∧ R (ItZ2 K k1 a k2 b) H1
theorem pi_z2 {X : Cx} {e e2 : Expr} {ta : TA} {p pos tpos : Pos} {elts : List Expr} {kk : Nat} (hg : Gl X "zip") (hm : X.mg "zip" = none) (ha : PA X [e, e2] ta)
    (hs : starEach [e, e2] X.env = (false, eval e X.env) :: starEach [e2] X.env := by rfl) (hpl : (backTo pos (starEach [e2] X.env)).any (·.1) = false := by rfl) :
    PI X (.Tuple elts kk tpos) (.Call (.Name "zip" p) [e, e2] [] pos) (iZ2 X.K ta) := by
  refine ⟨fun pins s σ H R I h => ?_⟩
  refine Call_ (ld_blt I hg hm PyProof.Rows.boot_zip (PyProof.Rows.callWith_type1 (thn (ha.run pos pins s σ H _ I h) fun us s1 ⟨vs, H1, I1, r1, q1⟩ => ?_) hs hpl))
  obtain ⟨k1, k2, a, b, xs, ys, ex, hqx, hqy, q⟩ := q1
  subst ex
  obtain ⟨u1, u2, rfl, ra, rb⟩ := vals2 r1
  cases ra
  cases rb
  obtain ⟨its, rv, p1, _, la⟩ := invK I1 hqx
  obtain ⟨its2, rv2, p2, _, lb⟩ := invK I1 hqy
  refine zip_begins2 (beginsK k1 a its.toArray) (beginsK k2 b its2.toArray) p1 p2 fun h' hz hTI hTO h1 h2 hsz hk => wpAny_pyIter_zip hz ?_
  have I2 : Inv X pins σ H1 { s1 with heap := h' } := I1.kept (t' := s1.toks) hk
  refine ⟨s1.heap.objs.size + 4, [s1.heap.objs.size + 4, s1.heap.objs.size + 2, s1.heap.objs.size + 3, s1.heap.objs.size, s1.heap.objs.size + 1], _, _, H1, rfl, I2,
    turn_z2 (zip_sep2 (fp1 := [a]) (fp2 := [b]) (fun c hc => by rw [List.mem_singleton.mp hc]; exact la) (fun c hc => by rw [List.mem_singleton.mp hc]; exact lb)) (Nat.ne_of_lt la) (Nat.ne_of_lt (Nat.lt_succ_of_lt lb)), ⟨hz, hTI, ⟨_, _, hTO⟩, itK_new h1, itK_new h2⟩, fun c hcm => ?_, q⟩
  have hle : s1.heap.objs.size ≤ c := by
    have e' : c = s1.heap.objs.size + 4 ∨ c = s1.heap.objs.size + 2 ∨ c = s1.heap.objs.size + 3 ∨ c = s1.heap.objs.size ∨ c = s1.heap.objs.size + 1 := by simpa using hcm
    rcases e' with z | z | z | z | z
    · rw [z]; exact Nat.le_add_right _ _
    · rw [z]; exact Nat.le_add_right _ _
    · rw [z]; exact Nat.le_add_right _ _
    · rw [z]; exact Nat.le_refl _
    · rw [z]; exact Nat.le_add_right _ _
  exact I1.fpOk hle (I1.hok.fresh hle)
def ItZ3 (K : PySem.W.Frag) (k1 : Bool) (a : Addr) (k2 : Bool) (b : Addr) (k3 : Bool) (c : Addr) : It :=
  ⟨fun i H => ∃ (xs ys zs : List V) (x y z : V), SqK K k1 H a xs ∧ SqK K k2 H b ys ∧ SqK K k3 H c zs ∧ xs[i]? = some x ∧ ys[i]? = some y ∧ zs[i]? = some z,
    fun i H v H' => ∃ T x y z, v = .ref T ∧ H T = none ∧ H' = upd H T (.tup [x, y, z]) ∧ (∀ xs, SqK K k1 H a xs → xs[i]? = some x) ∧ (∀ ys, SqK K k2 H b ys → ys[i]? = some y) ∧ ∀ zs, SqK K k3 H c zs → zs[i]? = some z,
    fun i H => ∃ xs ys zs : List V, SqK K k1 H a xs ∧ SqK K k2 H b ys ∧ SqK K k3 H c zs ∧ i = min (min xs.length ys.length) zs.length⟩
theorem lt_of_get {α : Type} {l : List α} {i : Nat} {x : α} (e : l[i]? = some x) : i < l.length := by
  rcases Nat.lt_or_ge i l.length with g | g
  · exact g
  · rw [List.getElem?_eq_none g] at e; cases e
theorem same_get {its : List Value} {i : Nat} {u u' : Value} (h : its.toArray[i]? = some u) (h' : its[i]? = some u') : u = u' := by
  have : its[i]? = some u := by simpa using h
  rw [h'] at this; exact (Option.some.inj this).symm
theorem turn_z3 {P : Program} {w : World} {K : PySem.W.Frag} {elts : List Expr} {kk : Nat} {tpos : Pos} {k1 k2 k3 : Bool} {a b c z TI TO i1 i2 i3 : Addr} (S : ZipSep3 z TI TO i1 i2 i3 [i1, a] [i2, b] [i3, c]) (hia : a ≠ i1) (hib : b ≠ i2) (hic : c ≠ i3) :
    Turn P w K (.Tuple elts kk tpos) (ItZ3 K k1 a k2 b k3 c) [z, TI, TO, i1, i2, i3] z (fun i h => IsZip h z TI TO .none ∧ IsTupOf3 h TI (.ref i1) (.ref i2) (.ref i3) ∧ (∃ a1 a2 a3, IsTupOf3 h TO a1 a2 a3) ∧ ItK k1 h i1 a i ∧ ItK k2 h i2 b i ∧ ItK k3 h i3 c i) := by
  refine turn_goes (by simp) (fun i h st d hd => ?_) (fun i h h' st k => ?_) (fun X hP hw hK hc i pins s σ H I hf st hg => ?_) fun A i s Q E st h => wpAny_pyIter_zip st.1 h
  · obtain ⟨hz, hTI, ⟨x, y, u, hTO⟩, h1, h2, h3⟩ := st
    have e' : d = z ∨ d = TI ∨ d = TO ∨ d = i1 ∨ d = i2 ∨ d = i3 := by simpa using hd
    rcases e' with q | q | q | q | q | q
    · rw [q]; exact ⟨_, hz, fun v q => nomatch q⟩
    · rw [q]; exact ⟨_, hTI, fun v q => nomatch q⟩
    · rw [q]; exact ⟨_, hTO, fun v q => nomatch q⟩
    · rw [q]; exact h1.obj
    · rw [q]; exact h2.obj
    · rw [q]; exact h3.obj
  · obtain ⟨hz, hTI, ⟨x, y, u, hTO⟩, h1, h2, h3⟩ := st
    exact ⟨k z (by simp) _ hz, k TI (by simp) _ hTI, ⟨x, y, u, k TO (by simp) _ hTO⟩, h1.at fun o q => k i1 (by simp) o q, h2.at fun o q => k i2 (by simp) o q, h3.at fun o q => k i3 (by simp) o q⟩
  · subst hP hw hK
    obtain ⟨hz, hTI, hTO, h1, h2, h3⟩ := st
    have src : ∃ xs ys zs, SqK X.K k1 H a xs ∧ SqK X.K k2 H b ys ∧ SqK X.K k3 H c zs := by
      rcases hg with ⟨xs, ys, zs, _, _, _, p, q, r, _⟩ | ⟨xs, ys, zs, p, q, r, _⟩
      · exact ⟨xs, ys, zs, p, q, r⟩
      · exact ⟨xs, ys, zs, p, q, r⟩
    obtain ⟨xs, ys, zs, sx, sy, sz⟩ := src
    obtain ⟨its, rv, p1, z1, _⟩ := invK I sx
    obtain ⟨its2, rv2, p2, z2, _⟩ := invK I sy
    obtain ⟨its3, rv3, p3, z3, _⟩ := invK I sz
    have hh : X.A.in1.handled = none := I.ok.hd hc
    have l1 := rv.length
    have l2 := rv2.length
    have l3 := rv3.length
    refine ⟨_, _, _, _, _, GoesN.zip3 S (drawsK hh k1 i1 a hia its.toArray) (drawsK hh k2 i2 b hib its2.toArray) (drawsK hh k3 i3 c hic its3.toArray), ⟨hz, hTI, hTO, ⟨h1, p1⟩, ⟨h2, p2⟩, ⟨h3, p3⟩⟩, fun d hd => ?_, fun hgo => ⟨?_, fun v h' hY st' hk => ?_⟩, fun hs => ?_⟩
    · have e' : d = z ∨ d = TO ∨ d = i1 ∨ d = i2 ∨ d = i3 := by simpa using hd
      rcases e' with q | q | q | q | q <;> simp [q]
    · obtain ⟨xs', ys', zs', x, y, u, p, q, r, e1, e2, e3⟩ := hgo
      have E1 := invK_inj I p sx
      have E2 := invK_inj I q sy
      have E3 := invK_inj I r sz
      subst E1 E2 E3
      have g1 := lt_of_get e1
      have g2 := lt_of_get e2
      have g3 := lt_of_get e3
      simp only [List.size_toArray]
      omega
    · obtain ⟨T, u, v', y', rfl, hT, hu, hv, hy, htup⟩ := hY
      obtain ⟨hz', hTI', hTO', ⟨h1', _⟩, ⟨h2', _⟩, ⟨h3', _⟩⟩ := st'
      refine ⟨⟨hz', hTI', hTO', h1', h2', h3'⟩, ?_⟩
      obtain ⟨xs', ys', zs', x, y, z', p, q, r, e1, e2, e3⟩ := hgo
      have E1 := invK_inj I p sx
      have E2 := invK_inj I q sy
      have E3 := invK_inj I r sz
      subst E1 E2 E3
      obtain ⟨u', hu', ru⟩ := rv.get e1
      obtain ⟨w', hw', rw'⟩ := rv2.get e2
      obtain ⟨q', hq', rq⟩ := rv3.get e3
      have eu := same_get hu hu'
      have ev := same_get hv hw'
      have ey := same_get hy hq'
      subst eu ev ey
      refine ⟨T, .tup [x, y, z'], rfl, hT, tup_ok (us := [u, v', y']) (.cons ru (.cons rw' (.cons rq .nil))) htup (by show 3 ≤ sizeLine; decide), T, x, y, z', rfl, I.hok.fresh hT, rfl, fun l hl => by rw [invK_inj I hl p]; exact e1, fun l hl => by rw [invK_inj I hl q]; exact e2, fun l hl => by rw [invK_inj I hl r]; exact e3⟩
    · obtain ⟨xs', ys', zs', p, q, r, e⟩ := hs
      have E1 := invK_inj I p sx
      have E2 := invK_inj I q sy
      have E3 := invK_inj I r sz
      subst E1 E2 E3
      simp only [List.size_toArray]
      omega
def iZ3 (K : PySem.W.Frag) (ta : TA) : TI := fun σ H R => ta σ H fun vs H1 => ∃ k1 k2 k3 a b c xs ys zs, vs = [.ref a, .ref b, .ref c] ∧ SqK K k1 H1 a xs ∧ SqK K k2 H1 b ys ∧ SqK K k3 H1 c zs ∧ R (ItZ3 K k1 a k2 b k3 c) H1
theorem pi_z3 {X : Cx} {e e2 e3 : Expr} {ta : TA} {p pos tpos : Pos} {elts : List Expr} {kk : Nat} (hg : Gl X "zip") (hm : X.mg "zip" = none) (ha : PA X [e, e2, e3] ta)
    (hs : starEach [e, e2, e3] X.env = (false, eval e X.env) :: starEach [e2, e3] X.env := by rfl) (hpl : (backTo pos (starEach [e2, e3] X.env)).any (·.1) = false := by rfl) :
    PI X (.Tuple elts kk tpos) (.Call (.Name "zip" p) [e, e2, e3] [] pos) (iZ3 X.K ta) := by
  refine ⟨fun pins s σ H R I h => ?_⟩
  refine Call_ (ld_blt I hg hm PyProof.Rows.boot_zip (PyProof.Rows.callWith_type1 (thn (ha.run pos pins s σ H _ I h) fun us s1 ⟨vs, H1, I1, r1, q1⟩ => ?_) hs hpl))
  obtain ⟨k1, k2, k3, a, b, c, xs, ys, zs, ex, hqx, hqy, hqz, q⟩ := q1
  subst ex
  cases r1 with
  | cons ra r1 =>
  cases r1 with
  | cons rb r1 =>
  cases r1 with
  | cons rc r1 =>
  cases r1
  cases ra
  cases rb
  cases rc
  obtain ⟨its, rv, p1, _, la⟩ := invK I1 hqx
  obtain ⟨its2, rv2, p2, _, lb⟩ := invK I1 hqy
  obtain ⟨its3, rv3, p3, _, lc⟩ := invK I1 hqz
  refine zip_begins3 (beginsK k1 a its.toArray) (beginsK k2 b its2.toArray) (beginsK k3 c its3.toArray) p1 p2 p3 fun h' hz hTI hTO h1 h2 h3 hsz hk => wpAny_pyIter_zip hz ?_
  have I2 : Inv X pins σ H1 { s1 with heap := h' } := I1.kept (t' := s1.toks) hk
  have sp : ZipSep3 (s1.heap.objs.size + 5) (s1.heap.objs.size + 3) (s1.heap.objs.size + 4) s1.heap.objs.size (s1.heap.objs.size + 1) (s1.heap.objs.size + 2) [s1.heap.objs.size, a] [s1.heap.objs.size + 1, b] [s1.heap.objs.size + 2, c] :=
    zip_sep3 (fp1 := [a]) (fp2 := [b]) (fp3 := [c]) (fun d hd => by rw [List.mem_singleton.mp hd]; exact la) (fun d hd => by rw [List.mem_singleton.mp hd]; exact lb) (fun d hd => by rw [List.mem_singleton.mp hd]; exact lc)
  refine ⟨s1.heap.objs.size + 5, [s1.heap.objs.size + 5, s1.heap.objs.size + 3, s1.heap.objs.size + 4, s1.heap.objs.size, s1.heap.objs.size + 1, s1.heap.objs.size + 2], _, _, H1, rfl, I2,
    turn_z3 sp (Nat.ne_of_lt la) (Nat.ne_of_lt (Nat.lt_succ_of_lt lb)) (Nat.ne_of_lt (Nat.lt_succ_of_lt (Nat.lt_succ_of_lt lc))), ⟨hz, hTI, ⟨_, _, _, hTO⟩, itK_new h1, itK_new h2, itK_new h3⟩, fun d hdm => ?_, q⟩
  have hle : s1.heap.objs.size ≤ d := by
    have e' : d = s1.heap.objs.size + 5 ∨ d = s1.heap.objs.size + 3 ∨ d = s1.heap.objs.size + 4 ∨ d = s1.heap.objs.size ∨ d = s1.heap.objs.size + 1 ∨ d = s1.heap.objs.size + 2 := by simpa using hdm
    rcases e' with z | z | z | z | z | z
    · rw [z]; exact Nat.le_add_right _ _
    · rw [z]; exact Nat.le_add_right _ _
    · rw [z]; exact Nat.le_add_right _ _
    · rw [z]; exact Nat.le_refl _
    · rw [z]; exact Nat.le_add_right _ _
    · rw [z]; exact Nat.le_add_right _ _
  exact I1.fpOk hle (I1.hok.fresh hle)
set_option maxHeartbeats 1000000 in
theorem meets_enumerate_new1 {v : Value} {o : Obj} {H : Heap → Prop} (B : Begins v o H) :
    Meets (Builtin.«enumerate.__new__» ⟨[.type "enumerate", v], []⟩) (fun _ R s => H s.heap ∧
      R (.ok (.ret (.ref (s.heap.push o).objs.size))) { s with heap := (s.heap.push o).push { cls := .type "enumerate", data := .fields #[.none, .bool false, .ref s.heap.objs.size, rawInt 0, .none, .none] } }) :=
  .of_wp fun prog w A R s h => by
    obtain ⟨hp, g, d, tk, os⟩ := s; obtain ⟨h1, h⟩ := h
    have hsub := sub_enumerate
    have q1 : ∀ {A' : Around} {E : Value → Shared → Prop} {Q : Value → Shared → Prop}, Q (.ref hp.objs.size) ⟨hp.push o, g, d, tk, os⟩ → wpAny (model prog w) A' (pyIter v) Q E ⟨hp, g, d, tk, os⟩ :=
      fun q => B.iter prog w _ _ ⟨hp, g, d, tk, os⟩ _ h1 q
    wp_walk using q1
    refine wpAny_stack_any fun st => wpAny_pure ?_
    split
    · rename_i c _ _ _ _ _
      cases (c == Value.type "enumerate")
      · wp_walk using q1
        exact ⟨_, rfl, h⟩
      · wp_walk using q1
        exact ⟨_, rfl, h⟩
    · wp_walk using q1
      exact ⟨_, rfl, h⟩
theorem enum_begins1 {prog : Program} {w : World} {A : Around} {E : Value → Shared → Prop} {s : Shared} {v : Value} {o : Obj} {H : Heap → Prop} {Q : Value → Shared → Prop} (B : Begins v o H) (h1 : H s.heap)
    (h : ∀ h', IsEnum h' (s.heap.objs.size + 1) s.heap.objs.size 0 .none → h'.get? s.heap.objs.size = some o → h'.objs.size = s.heap.objs.size + 2 →
      (∀ b o, s.heap.get? b = some o → h'.get? b = some o) → Q (.ref (s.heap.objs.size + 1)) { s with heap := h' }) :
    wpAny (model prog w) A (call (.type "enumerate") [v]) Q E s := by
  refine callType_new F.called_enumerate (by decide) (F.typeCall_enumerate_1 _) (F.newCall_enumerate_1 _) (fun obj => F.args_object_init_2 obj _) F.entry_enumerate_new
    (meets_enumerate_new1 B) ⟨h1, ?_⟩
  have hz : (s.heap.push o).objs.size = s.heap.objs.size + 1 := Heap.size_push ..
  show _ ∧ _
  rw [hz]
  have he : IsEnum ((s.heap.push o).push { cls := .type "enumerate", data := .fields #[.none, .bool false, .ref s.heap.objs.size, rawInt 0, .none, .none] }) (s.heap.objs.size + 1) s.heap.objs.size 0 .none := by
    have := Heap.get?_push_size (s.heap.push o) (o := { cls := .type "enumerate", data := .fields #[.none, .bool false, .ref s.heap.objs.size, rawInt 0, .none, .none] }) rfl
    rw [hz] at this; exact this
  refine ⟨⟨_, he, rfl⟩, h _ he (Heap.get?_push_of_some _ (Heap.get?_push_size _ B.free)) (by rw [Heap.size_push, hz]) fun b o x => Heap.get?_push_of_some _ (Heap.get?_push_of_some _ x)⟩
def ItE (K : PySem.W.Frag) (k : Bool) (a : Addr) : It :=
  ⟨fun i H => ∃ (xs : List V) (x : V), SqK K k H a xs ∧ xs[i]? = some x,
    fun i H v H' => ∃ T x, v = .ref T ∧ H T = none ∧ H' = upd H T (.tup [.int (i : Nat), x]) ∧ ∀ xs, SqK K k H a xs → xs[i]? = some x,
    fun i H => ∃ xs : List V, SqK K k H a xs ∧ i = xs.length⟩
theorem turn_e {P : Program} {w : World} {K : PySem.W.Frag} {elts : List Expr} {kk : Nat} {tpos : Pos} {k : Bool} {a e it : Addr} (hei : e ≠ it) (hea : e ≠ a) (hia : a ≠ it) :
    Turn P w K (.Tuple elts kk tpos) (ItE K k a) [e, it] e (fun i h => (∃ old, IsEnum h e it ((0 : Int) + (i : Int)) old) ∧ ItK k h it a i) := by
  refine turn_goes (by simp) (fun i h st d hd => ?_) (fun i h h' st k => ?_) (fun X hP hw hK hc i pins s σ H I hf st hg => ?_) fun A i s Q E st h => let ⟨⟨_, he⟩, _⟩ := st; wpAny_pyIter_enum he h
  · obtain ⟨⟨old, he⟩, h1⟩ := st
    have e' : d = e ∨ d = it := by simpa using hd
    rcases e' with q | q
    · rw [q]; exact ⟨_, he, fun v q => nomatch q⟩
    · rw [q]; exact h1.obj
  · obtain ⟨⟨old, he⟩, h1⟩ := st
    exact ⟨⟨old, k e (by simp) _ he⟩, h1.at fun o q => k it (by simp) o q⟩
  · subst hP hw hK
    obtain ⟨he, h1⟩ := st
    have src : ∃ xs, SqK X.K k H a xs := by
      rcases hg with ⟨xs, _, p, _⟩ | ⟨xs, p, _⟩
      · exact ⟨xs, p⟩
      · exact ⟨xs, p⟩
    obtain ⟨xs, sx⟩ := src
    obtain ⟨its, rv, p1, z1, _⟩ := invK I sx
    have hh : X.A.in1.handled = none := I.ok.hd hc
    have l1 := rv.length
    refine ⟨_, _, _, _, _, GoesN.enumFrom 0 (drawsK hh k it a hia its.toArray) e hei (by simp [hei, hea]) (by simp), ⟨he, ⟨h1, p1⟩⟩, fun d hd => hd, fun hgo => ⟨?_, fun v h' hY st' hk => ?_⟩, fun hs => ?_⟩
    · obtain ⟨xs', x, p, e1⟩ := hgo
      have E1 := invK_inj I p sx
      subst E1
      have g1 := lt_of_get e1
      simp only [List.size_toArray]
      omega
    · obtain ⟨T, t, u, rfl, hT, hu, htup⟩ := hY
      obtain ⟨he', ⟨h1', _⟩⟩ := st'
      refine ⟨⟨he', h1'⟩, ?_⟩
      obtain ⟨xs', x, p, e1⟩ := hgo
      have E1 := invK_inj I p sx
      subst E1
      obtain ⟨u', hu', ru⟩ := rv.get e1
      have eu := same_get hu hu'
      subst eu
      refine ⟨T, .tup [.int (i : Nat), x], rfl, hT, tup_ok (us := [.int ((0 : Int) + (i : Int)) t, u]) (.cons ⟨t, by rw [Int.zero_add]⟩ (.cons ru .nil)) htup (by show 2 ≤ sizeLine; decide), T, x, rfl, I.hok.fresh hT, rfl, fun l hl => by rw [invK_inj I hl p]; exact e1⟩
    · obtain ⟨xs', p, e⟩ := hs
      have E1 := invK_inj I p sx
      subst E1
      simp only [List.size_toArray]
      omega
def iE (K : PySem.W.Frag) (ta : TA) : TI := fun σ H R => ta σ H fun vs H1 => ∃ k a xs, vs = [.ref a] ∧ SqK K k H1 a xs ∧ R (ItE K k a) H1
theorem pi_e {X : Cx} {e : Expr} {ta : TA} {p pos tpos : Pos} {elts : List Expr} {kk : Nat} (hg : Gl X "enumerate") (hm : X.mg "enumerate" = none) (ha : PA X [e] ta) (hs : starEach [e] X.env = [(false, eval e X.env)] := by rfl) :
    PI X (.Tuple elts kk tpos) (.Call (.Name "enumerate" p) [e] [] pos) (iE X.K ta) := by
  refine ⟨fun pins s σ H R I h => ?_⟩
  refine Call_ (ld_blt (u := .type "enumerate") I hg hm (by decide +kernel) (PyProof.Rows.callWith_type1 (thn (ha.run pos pins s σ H _ I h) fun us s1 ⟨vs, H1, I1, r1, q1⟩ => ?_) (by rw [hs]; rfl) rfl))
  obtain ⟨k, a, xs, ex, hqx, q⟩ := q1
  subst ex
  rw [Vals.ref1 r1]
  obtain ⟨its, rv, p1, _, la⟩ := invK I1 hqx
  refine enum_begins1 (beginsK k a its.toArray) p1 fun h' he h1 hsz hk => wpAny_pyIter_enum he ?_
  have I2 : Inv X pins σ H1 { s1 with heap := h' } := I1.kept (t' := s1.toks) hk
  refine ⟨s1.heap.objs.size + 1, [s1.heap.objs.size + 1, s1.heap.objs.size], _, _, H1, rfl, I2,
    turn_e (Nat.ne_of_gt (Nat.lt_succ_self _)) (Nat.ne_of_gt (Nat.lt_succ_of_lt la)) (Nat.ne_of_lt la), ⟨⟨_, he⟩, itK_new h1⟩, fun d hdm => ?_, q⟩
  have hle : s1.heap.objs.size ≤ d := by
    have e' : d = s1.heap.objs.size + 1 ∨ d = s1.heap.objs.size := by simpa using hdm
    rcases e' with z | z
    · rw [z]; exact Nat.le_add_right _ _
    · rw [z]; exact Nat.le_refl _
  exact I1.fpOk hle (I1.hok.fresh hle)
end Pl
namespace Pl
open PySem PySem.Spec PyProof.Rows L2
variable [TJ]
structure PEnds where
  nx : Ro → Prop
  rt : Cell → Ro → Prop
  bk : Ro → Prop := fun _ => False
  ct : Ro → Prop := fun _ => False
abbrev TSp := PEnds → Ro → Prop
structure ERel (K : PySem.W.Frag) (G F : Hp) (P : PEnds) (D : Ends) : Prop where
  nx : ∀ F' H' σ' ρ', Up G F F' → Sim K G F' H' σ' ρ' → P.nx ρ' → D.nx σ' H'
  rt : ∀ F' H' σ' ρ' v c, Up G F F' → Sim K G F' H' (σ' ++ [some v]) (ρ' ++ [some c]) → P.rt c ρ' → D.rt v H'
  bk : ∀ F' H' σ' ρ', Up G F F' → Sim K G F' H' σ' ρ' → P.bk ρ' → D.bk σ' H'
  ct : ∀ F' H' σ' ρ', Up G F F' → Sim K G F' H' σ' ρ' → P.ct ρ' → D.ct σ' H'
theorem ERel.mono {K : PySem.W.Frag} {G F F1 : Hp} {P : PEnds} {D : Ends} (e : ERel K G F P D) (u : Up G F F1) : ERel K G F1 P D :=
  ⟨fun F' H' σ' ρ' v => e.nx F' H' σ' ρ' (u.trans v), fun F' H' σ' ρ' x c v => e.rt F' H' σ' ρ' x c (u.trans v), fun F' H' σ' ρ' v => e.bk F' H' σ' ρ' (u.trans v), fun F' H' σ' ρ' v => e.ct F' H' σ' ρ' (u.trans v)⟩
def SndS (K : PySem.W.Frag) (t : TS) (T : TSp) : Prop := ∀ (G F H : Hp) (σ : L2.St) (ρ : Ro) (P : PEnds) (D : Ends), Sim K G F H σ ρ → T P ρ → ERel K G F P D → t D σ H
structure PPS (X : Cx) (st : Stmt) (t : TS) (T : TSp) : Prop where
  ps : PS X st t
  snd : SndS X.K t T
structure PPSs (X : Cx) (st : List Stmt) (t : TS) (T : TSp) : Prop where
  ps : PSs X st t
  snd : SndS X.K t T
section
variable {X : Cx} {st : Stmt} {rest : List Stmt} {t u : TS} {T U : TSp} {e : Expr} {te : TE} {Te : TEp} {Tc : TCp} {pos : Pos}
def pNext : TSp := fun P ρ => P.nx ρ
def pSeq (T U : TSp) : TSp := fun P ρ => T { P with nx := U P } ρ
theorem ppss_nil : PPSs X [] tNext pNext := ⟨pss_nil, fun G F H σ ρ P D S h r => r.nx F H σ ρ (.refl _ _) S h⟩
theorem ppss_one (h1 : PPS X st t T) : PPSs X [st] t T := ⟨pss_one h1.ps, h1.snd⟩
theorem ppss_cons (h1 : PPS X st t T) (h2 : PPSs X rest u U) : PPSs X (st :: rest) (tSeq t u) (pSeq T U) := ⟨pss_cons h1.ps h2.ps, fun G F H σ ρ P D S h r =>
  h1.snd G F H σ ρ _ _ S h ⟨fun F' H' σ' ρ' u S' q => h2.snd G F' H' σ' ρ' P D S' q (r.mono u), r.rt, r.bk, r.ct⟩⟩
def pDrop (Te : TEp) : TSp := fun P ρ => Te ρ fun _ ρ1 => P.nx ρ1
theorem pps_expr (he : PPE X e te Te) (hs : swapsWith e none pos.line X.env = pure false := by rfl) : PPS X (.Expr e pos) (tDrop te) (pDrop Te) := ⟨ps_expr he.pe hs, fun G F H σ ρ P D S h r =>
  he.snd G F H σ ρ _ _ S h fun v d F' H' ρ' u S' _ q => r.nx F' H' σ ρ' u S' q⟩
def pRet (Tc : TCp) : TSp := fun P ρ => Tc ρ P.rt
theorem pps_ret (he : PPC X e te Tc) : PPS X (.Return (some e) pos) (tRet te) (pRet Tc) := ⟨ps_ret he.pe, fun G F H σ ρ P D S h r =>
  he.snd G F H σ ρ _ _ S h fun v c F' H' ρ' u S' q => r.rt F' H' σ ρ' v c u S' q⟩
def pIfS (C : TTp) (T U : TSp) : TSp := fun P ρ => C ρ fun b ρ1 => if b = true then T P ρ1 else U P ρ1
theorem pps_if {c : Expr} {a b : List Stmt} {tc : TT} {C : TTp} (hc : PPT X c tc C) (ha : PPSs X a t T) (hb : PPSs X b u U) : PPS X (.If c a b pos) (tIfS tc t u) (pIfS C T U) := ⟨ps_if hc.pt ha.ps hb.ps, fun G F H σ ρ P D S h r =>
  hc.snd G F H σ ρ _ _ S h fun b F' H' ρ' u S' q => by
    cases b with
    | true => exact ite_ti (ha.snd G F' H' σ ρ' P D S' (ite_t q) (r.mono u))
    | false => exact ite_fi (hb.snd G F' H' σ ρ' P D S' (ite_f q) (r.mono u))⟩
def pNever : TSp := fun _ _ => False
theorem pps_never : PPS X st tNever pNever := ⟨ps_never, fun _ _ _ _ _ _ _ _ h _ => h.elim⟩
abbrev TGp := D → Ro → (Ro → Prop) → Prop
abbrev TGsp := List D → Ro → (Ro → Prop) → Prop
def SndG (K : PySem.W.Frag) (g : TG) (Gp : TGp) (is : List Nat) : Prop := ∀ (G F H : Hp) (σ : L2.St) (ρ : Ro) (Q : Ro → Prop) (R : L2.St → Hp → Prop) (v : V) (d : D), Sim K G F H σ ρ → Rep K F v d → Gp d ρ Q →
  (∀ F' H' σ' ρ', Up G F F' → Sim K G F' H' σ' ρ' → (∀ j, j ∉ is → σ'[j]? = σ[j]?) → σ'.length = σ.length → Q ρ' → R σ' H') → g v σ H R
def SndGs (K : PySem.W.Frag) (g : TGs) (Gp : TGsp) (is : List Nat) : Prop := ∀ (G F H : Hp) (σ : L2.St) (ρ : Ro) (Q : Ro → Prop) (R : L2.St → Hp → Prop) (vs : List V) (ds : List D), Sim K G F H σ ρ → Reps K F vs ds → Gp ds ρ Q →
  (∀ F' H' σ' ρ', Up G F F' → Sim K G F' H' σ' ρ' → (∀ j, j ∉ is → σ'[j]? = σ[j]?) → σ'.length = σ.length → Q ρ' → R σ' H') → g vs σ H R
structure PTg (X : Cx) (tg : Expr) (g : TG) (Gp : TGp) (is : List Nat) : Prop where
  pg : PG X tg g
  snd : SndG X.K g Gp is
structure PTgs (X : Cx) (tgs : List Expr) (g : TGs) (Gp : TGsp) (is : List Nat) : Prop where
  pg : PGs X tgs g
  snd : SndGs X.K g Gp is
def hName (i : Nat) : TGp := fun d ρ Q => Q (ρ.set i (some (.val d)))
theorem ptg_name {i : Nat} {x : Str} (hN : X.N.Nodup) (hi : X.N[i]? = some x := by rfl) (hx : Loc X.env.scope x := by first | exact Or.inl rfl | exact Or.inr rfl) (hf : X.fn x = true ∨ X.env.scope.names.lookup x = some .local := by first | exact .inl rfl | exact .inr rfl | assumption) : PTg X (.Name x pos) (gName i) (hName i) [i] :=
  ⟨pg_name hN hi hx hf, fun G F H σ ρ Q R v d S r h k => k F H _ _ (.refl _ _) (S.setVal i r) (fun j hj => List.getElem?_set_ne (fun z => hj (by simp [z]))) (by simp) h⟩
def hNil : TGsp := fun ds ρ Q => ds = [] ∧ Q ρ
def hCons (g : TGp) (gs : TGsp) : TGsp := fun ds ρ Q => match ds with | d :: r => g d ρ fun ρ' => gs r ρ' Q | [] => False
theorem ptgs_nil : PTgs X [] gNil hNil [] := ⟨pgs_nil, fun G F H σ ρ Q R vs ds S r h k => by
  obtain ⟨rfl, h⟩ := h
  cases r
  exact ⟨rfl, k F H σ ρ (.refl _ _) S (fun _ _ => rfl) rfl h⟩⟩
theorem ptgs_cons {e : Expr} {es : List Expr} {g : TG} {gs : TGs} {Gp : TGp} {Gs : TGsp} {is js : List Nat} (h1 : PTg X e g Gp is) (h2 : PTgs X es gs Gs js)
    (hs : (assignEach (e :: es) X.env).map (·.2) = assign e X.env :: (assignEach es X.env).map (·.2) := by rfl) : PTgs X (e :: es) (gCons g gs) (hCons Gp Gs) (is ++ js) := ⟨pgs_cons h1.pg h2.pg hs, fun G F H σ ρ Q R vs ds S r h k => by
  cases r with
  | nil => exact h.elim
  | cons r1 r2 => exact ⟨_, _, rfl, h1.snd G F H σ ρ _ _ _ _ S r1 h fun F1 H1 σ1 ρ1 u1 S1 o1 l1 q1 => h2.snd G F1 H1 σ1 ρ1 _ _ _ _ S1 (r2.mono u1.ex) q1 fun F2 H2 σ2 ρ2 u2 S2 o2 l2 q2 =>
      k F2 H2 σ2 ρ2 (u1.trans u2) S2 (fun j hj => (o2 j fun z => hj (List.mem_append_right _ z)).trans (o1 j fun z => hj (List.mem_append_left _ z))) (l2.trans l1) q2⟩⟩
def gAny (K : PySem.W.Frag) (n : Nat) (t : TGs) : TG := fun v σ H Q => gTup K n t v σ H Q ∨ gUnl K n t v σ H Q
def hTup (n : Nat) (g : TGsp) : TGp := fun d ρ Q => match d with
  | .tup ds => ds.length = n ∧ g ds ρ Q
  | .lst ds => ds.length = n ∧ g ds ρ Q
  | _ => False
theorem ptg_tup {es : List Expr} {k : Nat} {t : TGs} {Gp : TGsp} {n : Nat} {is : List Nat} (hc : X.calm = true) (h : PTgs X es t Gp is)
    (hn : (assignEach es X.env).length = n := by rfl) (hst : (assignEach es X.env).findIdx? (·.1) = none := by rfl) : PTg X (.Tuple es k pos) (gAny X.K n t) (hTup n Gp) is :=
  ⟨⟨fun pins s σ H v u Q I r hw => hw.elim (fun hw => (pg_tup hc h.pg hn hst).run pins s σ H v u Q I r hw) fun hw => (pg_unl hc h.pg hn hst).run pins s σ H v u Q I r hw⟩, fun G F H σ ρ Q R v d S r hh k => by
    cases r with
    | tup e r => exact .inl ⟨_, _, rfl, SqT.of (S.hF _ _ e), by rw [r.length]; exact hh.1, h.snd G F H σ ρ Q R _ _ S r hh.2 k⟩
    | lst e r => exact .inr ⟨_, _, rfl, SqL.of (S.hF _ _ e), by rw [r.length]; exact hh.1, h.snd G F H σ ρ Q R _ _ S r hh.2 k⟩
    | _ => exact hh.elim⟩
def pSet (i : Nat) (Tc : TCp) : TSp := fun P ρ => Tc ρ fun c ρ1 => P.nx (ρ1.set i (some c))
theorem snd_set {K : PySem.W.Frag} {i : Nat} {te : TE} {Tc : TCp} (h : SndC K te Tc) : SndS K (tAsg te (gName i)) (pSet i Tc) := fun G F H σ ρ P D S hT r =>
  h G F H σ ρ _ _ S hT fun v c F' H' ρ' u S' q => r.nx F' H' _ _ u (S'.store i) q
theorem pps_set {i : Nat} {x : Str} {pos' : Pos} (hN : X.N.Nodup) (he : PPC X e te Tc) (hi : X.N[i]? = some x := by rfl) (hx : Loc X.env.scope x := by first | exact Or.inl rfl | exact Or.inr rfl) (hs : swapsWith e (some (.Name x pos')) pos.line X.env = pure false := by rfl) (hf : X.fn x = true ∨ X.env.scope.names.lookup x = some .local := by first | exact .inl rfl | exact .inr rfl | assumption) :
    PPS X (.Assign [.Name x pos'] e pos) (tAsg te (gName i)) (pSet i Tc) := ⟨ps_set hN hi hx he.pe hs hf, snd_set he.snd⟩
def pAsg (Te : TEp) (g : TGp) : TSp := fun P ρ => Te ρ fun d ρ1 => g d ρ1 P.nx
theorem pps_asg {tg : Expr} {g : TG} {Gp : TGp} {is : List Nat} (he : PPE X e te Te) (hg : PTg X tg g Gp is) (hs : swapsWithSole [tg] e pos.line X.env = pure false := by rfl) (hw : swappedStores [tg] e X.env = pure none := by rfl)
    (h1 : (assignEach [tg] X.env).map (·.2) = [assign tg X.env] := by rfl) : PPS X (.Assign [tg] e pos) (tAsg te g) (pAsg Te Gp) := ⟨ps_asg he.pe hg.pg hs hw h1, fun G F H σ ρ P D S hT r =>
  he.snd G F H σ ρ _ _ S hT fun v d F' H' ρ' u S' rv q => hg.snd G F' H' σ ρ' _ _ v d S' rv q fun F2 H2 σ2 ρ2 u2 S2 _ _ q2 => r.nx F2 H2 σ2 ρ2 (u.trans u2) S2 q2⟩
def pPar (i j : Nat) (T : TAp) : TSp := fun P ρ => T ρ fun ds ρ1 => match ds with | [x, y] => P.nx ((ρ1.set i (some (.val x))).set j (some (.val y))) | _ => False
theorem pps_par {i j : Nat} {x y : Str} {a b : Expr} {ta : TA} {TA' : TAp} {px py pt : Pos} {kt k2 pt2} (hc : X.calm = true) (hN : X.N.Nodup) (ha : PPA X [a, b] ta TA') (hi : X.N[i]? = some x := by rfl) (hj : X.N[j]? = some y := by rfl) (hij : i ≠ j := by decide)
    (hx : X.env.scope.names.lookup x = some .local := by rfl) (hy : X.env.scope.names.lookup y = some .local := by rfl)
    (hw : swappedStores [.Tuple [.Name x px, .Name y py] kt pt] (.Tuple [a, b] k2 pt2) X.env = pure (some [x, y]) := by rfl)
    (hs : swapsWithSole [.Tuple [.Name x px, .Name y py] kt pt] (.Tuple [a, b] k2 pt2) pos.line X.env = pure false := by rfl) :
    PPS X (.Assign [.Tuple [.Name x px, .Name y py] kt pt] (.Tuple [a, b] k2 pt2) pos) (tPar i j ta) (pPar i j TA') := ⟨ps_par hc hN hi hj hij hx hy ha.pa hw hs, fun G F H σ ρ P D S hT r =>
  ha.snd G F H σ ρ _ _ S hT fun vs ds F' H' ρ' u S' rv q => by
    match rv, q with
    | .cons (d := d1) r1 (.cons (d := d2) r2 .nil), q => exact ⟨_, _, rfl, r.nx F' H' _ _ u ((S'.setVal i r1).setVal j r2) q⟩
    | .nil, q => exact q.elim
    | .cons _ .nil, q => exact q.elim
    | .cons _ (.cons _ (.cons _ _)), q => exact q.elim⟩
end
def ItRep (K : PySem.W.Frag) (J : It) (F : Hp) (ds : List D) : Prop := ∀ F' H, Same F F' → Same F' H →
  (∀ (i : Nat) (d : D), ds[i]? = some d → J.go i H ∧ ∀ x H', J.yld i H x H' → ∃ F'', Res K F' H x d F'' H') ∧ J.stop ds.length H
theorem ItRep.mono {K : PySem.W.Frag} {J : It} {F F1 : Hp} {ds : List D} (h : ItRep K J F ds) (e : Same F F1) : ItRep K J F1 ds := fun F' H e1 e2 => h F' H (e.trans e1) e2
def SndI (K : PySem.W.Frag) (wi : TI) (T : TAp) : Prop := ∀ (G F H : Hp) (σ : L2.St) (ρ : Ro) (Q : List D → Ro → Prop) (R : It → Hp → Prop), Sim K G F H σ ρ → T ρ Q →
  (∀ J ds F' H' ρ', Up G F F' → Sim K G F' H' σ ρ' → ItRep K J F' ds → Q ds ρ' → R J H') → wi σ H R
structure PPI (X : Cx) (tg iter : Expr) (wi : TI) (T : TAp) : Prop where
  pi : PI X tg iter wi
  snd : SndI X.K wi T
theorem itrep_list {K : PySem.W.Frag} {F : Hp} {a : Addr} {vs : List V} {ds : List D} (h : F a = some (.lst vs)) (r : Reps K F vs ds) : ItRep K (Itl K a) F ds := fun F' H e1 e2 => by
  have hH : H a = some (.lst vs) := e2 _ _ (e1 _ _ h)
  refine ⟨fun i d hd => ?_, ⟨vs, SqL.of hH, by rw [r.length]; exact Nat.le_refl _⟩⟩
  obtain ⟨v, hv, rv⟩ := r.get hd
  refine ⟨⟨vs, v, SqL.of hH, hv⟩, fun x H' y => ?_⟩
  obtain ⟨rfl, y⟩ := y
  have e : x = v := Option.some.inj ((y vs (SqL.of hH)).symm.trans hv)
  subst e
  exact ⟨F', .old (rv.mono e1)⟩
theorem itrep_tup {K : PySem.W.Frag} {F : Hp} {a : Addr} {vs : List V} {ds : List D} (h : F a = some (.tup vs)) (r : Reps K F vs ds) : ItRep K (Itt K a) F ds := fun F' H e1 e2 => by
  have hH : H a = some (.tup vs) := e2 _ _ (e1 _ _ h)
  refine ⟨fun i d hd => ?_, ⟨vs, SqT.of hH, by rw [r.length]; exact Nat.le_refl _⟩⟩
  obtain ⟨v, hv, rv⟩ := r.get hd
  refine ⟨⟨vs, v, SqT.of hH, hv⟩, fun x H' y => ?_⟩
  obtain ⟨rfl, y⟩ := y
  have e : x = v := Option.some.inj ((y vs (SqT.of hH)).symm.trans hv)
  subst e
  exact ⟨F', .old (rv.mono e1)⟩
def asSeq (d : D) (k : List D → Prop) : Prop := match d with
  | .lst xs => k xs
  | .tup xs => k xs
  | _ => False
theorem Rep.seq {K : PySem.W.Frag} {F : Hp} {v : V} {d : D} {k : List D → Prop} (r : Rep K F v d) (h : asSeq d k) : ∃ (a : Addr) (q : Bool) (vs : List V) (ds : List D), v = .ref a ∧ F a = some (if q = true then .lst vs else .tup vs) ∧ Reps K F vs ds ∧ k ds := by
  cases r with
  | lst e r => exact ⟨_, true, _, _, rfl, e, r, h⟩
  | tup e r => exact ⟨_, false, _, _, rfl, e, r, h⟩
  | _ => exact h.elim
theorem sqk_of {K : PySem.W.Frag} {H : Hp} {a : Addr} {q : Bool} {vs : List V} (h : H a = some (if q = true then HO.lst vs else .tup vs)) : SqK K q H a vs := by
  cases q with
  | true => exact SqL.of h
  | false => exact SqT.of h
section
variable {X : Cx} {tg : Expr} {l : Expr} {tl : TE} {Tl : TEp} {pos : Pos}
def iAny (K : PySem.W.Frag) (tl : TE) : TI := fun σ H R => tl σ H fun x H1 => ∃ a, x = .ref a ∧ (((∃ xs, SqL K H1 a xs) ∧ R (Itl K a) H1) ∨ ((∃ xs, SqT K H1 a xs) ∧ R (Itt K a) H1))
theorem pi_any (hl : PE X l tl) : PI X tg l (iAny X.K tl) := by
  refine ⟨fun pins s σ H R I h => ?_⟩
  refine thn (hl.run pins s σ H _ I h) fun v s1 ⟨x, H1, I1, r1, q1⟩ => ?_
  obtain ⟨a, e, q1⟩ := q1
  subst e
  cases r1
  rcases q1 with ⟨⟨xs, hq⟩, q⟩ | ⟨⟨xs, hq⟩, q⟩
  · obtain ⟨its, rv, p, hz⟩ := I1.list hq
    refine wpAny_pyIter_list p.isList ?_
    refine ⟨s1.heap.objs.size, [s1.heap.objs.size], _, _, H1, rfl, I1.kept (t' := s1.toks) fun b o e => Heap.get?_push_of_some _ e, turn_list a _, ⟨_, Heap.get?_push_size _ rfl, rfl, rfl⟩, fun b hb => ?_, q⟩
    have e : b = s1.heap.objs.size := by simpa using hb
    subst e
    exact I1.fpOk (Nat.le_refl _) (I1.hok.fresh (Nat.le_refl _))
  · obtain ⟨its, rv, p, hz⟩ := I1.tuple hq
    refine wpAny_pyIter_tuple (show s1.heap.IsTuple a its.toArray from p) ?_
    refine ⟨s1.heap.objs.size, [s1.heap.objs.size], _, _, H1, rfl, I1.kept (t' := s1.toks) fun b o e => Heap.get?_push_of_some _ e, turn_tuple a _, ⟨_, Heap.get?_push_size _ rfl, rfl, rfl⟩, fun b hb => ?_, q⟩
    have e : b = s1.heap.objs.size := by simpa using hb
    subst e
    exact I1.fpOk (Nat.le_refl _) (I1.hok.fresh (Nat.le_refl _))
def jSeq (Tl : TEp) : TAp := fun ρ Q => Tl ρ fun x ρ1 => asSeq x fun xs => Q xs ρ1
theorem ppi_seq (hl : PPE X l tl Tl) : PPI X tg l (iAny X.K tl) (jSeq Tl) := ⟨pi_any hl.pe, fun G F H σ ρ Q R S h k =>
  hl.snd G F H σ ρ _ _ S h fun v d F' H' ρ' u S' rv q => by
    cases rv with
    | lst e r => exact ⟨_, rfl, .inl ⟨⟨_, SqL.of (S'.hF _ _ e)⟩, k _ _ F' H' ρ' u S' (itrep_list e r) q⟩⟩
    | tup e r => exact ⟨_, rfl, .inr ⟨⟨_, SqT.of (S'.hF _ _ e)⟩, k _ _ F' H' ρ' u S' (itrep_tup e r) q⟩⟩
    | _ => exact q.elim⟩
def rangeD (lo : Int) (n : Nat) : List D := (List.range n).map fun (i : Nat) => .int (lo + (i : Int))
theorem itrep_range {K : PySem.W.Frag} {F : Hp} (lo : Int) (n : Nat) : ItRep K (Itr lo n) F (rangeD lo n) := fun F' H e1 e2 => by
  refine ⟨fun i d hd => ?_, ?_⟩
  · have hi : i < n := by have := lt_of_get hd; simpa [rangeD] using this
    refine ⟨hi, fun x H' y => ?_⟩
    obtain ⟨rfl, rfl⟩ := y
    have e : d = .int (lo + i) := by
      unfold rangeD at hd
      rw [List.getElem?_map, List.getElem?_range hi] at hd
      exact (Option.some.inj hd).symm
    subst e
    exact ⟨F', .old (.int _)⟩
  · show n ≤ (rangeD lo n).length
    simp [rangeD]
def jRng1 (T : TAp) : TAp := fun ρ Q => T ρ fun ds ρ1 => match ds with | [.int j] => -(2 ^ 62) ≤ j ∧ j < 2 ^ 62 ∧ Q (rangeD 0 j.toNat) ρ1 | _ => False
theorem Reps.int1 {K : PySem.W.Frag} {F : Hp} {vs : List V} {j : Int} (r : Reps K F vs [.int j]) : vs = [.int j] := by
  cases r with
  | cons h t => cases h; cases t; rfl
theorem Reps.int2 {K : PySem.W.Frag} {F : Hp} {vs : List V} {i j : Int} (r : Reps K F vs [.int i, .int j]) : vs = [.int i, .int j] := by
  cases r with
  | cons h t => cases h; rw [t.int1]
theorem ppi_range1 {a : Expr} {ta : TA} {TA' : TAp} {p : Pos} (hg : Gl X "range") (hm : X.mg "range" = none) (ha : PPA X [a] ta TA') (hs : starEach [a] X.env = [(false, eval a X.env)] := by rfl) : PPI X tg (.Call (.Name "range" p) [a] [] pos) (iRng1 ta) (jRng1 TA') := ⟨pi_range1 hg hm ha.pa hs, fun G F H σ ρ Q R S h k =>
  ha.snd G F H σ ρ _ _ S h fun vs ds F' H' ρ' u S' rv q => by
    match ds, rv, q with
    | [.int j], rv, q => exact ⟨j, rv.int1, q.1, q.2.1, k _ _ F' H' ρ' u S' (itrep_range 0 _) q.2.2⟩⟩
theorem get_zipWith {α β γ : Type} {f : α → β → γ} {xs : List α} {ys : List β} {i : Nat} {z : γ} (h : (List.zipWith f xs ys)[i]? = some z) : ∃ x y, xs[i]? = some x ∧ ys[i]? = some y ∧ z = f x y := by
  rw [List.getElem?_zipWith] at h
  cases e1 : xs[i]? with
  | none => rw [e1] at h; simp at h
  | some x =>
    cases e2 : ys[i]? with
    | none => rw [e1, e2] at h; simp at h
    | some y => rw [e1, e2] at h; exact ⟨x, y, rfl, rfl, by simpa using h.symm⟩
def zipD (xs ys : List D) : List D := List.zipWith (fun x y => .tup [x, y]) xs ys
theorem itrep_z2 {K : PySem.W.Frag} {F : Hp} {k1 k2 : Bool} {a b : Addr} {vs ws : List V} {xs ys : List D} (h1 : F a = some (if k1 = true then .lst vs else .tup vs)) (h2 : F b = some (if k2 = true then .lst ws else .tup ws)) (r1 : Reps K F vs xs) (r2 : Reps K F ws ys) : ItRep K (ItZ2 K k1 a k2 b) F (zipD xs ys) := fun F' H e1 e2 => by
  have s1 : SqK K k1 H a vs := sqk_of (e2 _ _ (e1 _ _ h1))
  have s2 : SqK K k2 H b ws := sqk_of (e2 _ _ (e1 _ _ h2))
  refine ⟨fun i d hd => ?_, ⟨vs, ws, s1, s2, by simp [zipD, r1.length, r2.length]⟩⟩
  obtain ⟨x, y, hx, hy, rfl⟩ := get_zipWith hd
  obtain ⟨v, hv, rv⟩ := r1.get hx
  obtain ⟨w, hw, rw'⟩ := r2.get hy
  refine ⟨⟨vs, ws, v, w, s1, s2, hv, hw⟩, fun z H' q => ?_⟩
  obtain ⟨T, v', w', rfl, hT, rfl, f1, f2⟩ := q
  have ev : v' = v := Option.some.inj ((f1 _ s1).symm.trans hv)
  have ew : w' = w := Option.some.inj ((f2 _ s2).symm.trans hw)
  subst ev ew
  have hn : F' T = none := e2.free hT
  exact ⟨_, .new hT (.tup upd_same (.cons ((rv.mono e1).mono (same_new hn)) (.cons ((rw'.mono e1).mono (same_new hn)) .nil)))⟩
def jZ2 (T : TAp) : TAp := fun ρ Q => T ρ fun ds ρ1 => match ds with | [x, y] => asSeq x fun xs => asSeq y fun ys => Q (zipD xs ys) ρ1 | _ => False
theorem ppi_z2 {e e2 : Expr} {ta : TA} {TA' : TAp} {p tpos : Pos} {elts : List Expr} {kk : Nat} (hg : Gl X "zip") (hm : X.mg "zip" = none) (ha : PPA X [e, e2] ta TA')
    (hs : starEach [e, e2] X.env = (false, eval e X.env) :: starEach [e2] X.env := by rfl) (hpl : (backTo pos (starEach [e2] X.env)).any (·.1) = false := by rfl) :
    PPI X (.Tuple elts kk tpos) (.Call (.Name "zip" p) [e, e2] [] pos) (iZ2 X.K ta) (jZ2 TA') := ⟨pi_z2 hg hm ha.pa hs hpl, fun G F H σ ρ Q R S h k =>
  ha.snd G F H σ ρ _ _ S h fun vs ds F' H' ρ' u S' rv q => by
    match ds, rv, q with
    | [x, y], .cons rx (.cons ry .nil), q =>
      obtain ⟨a, k1, ws, xs, rfl, h1, r1, q⟩ := rx.seq q
      obtain ⟨b, k2, zs, ys, rfl, h2, r2, q⟩ := ry.seq q
      exact ⟨k1, k2, a, b, ws, zs, rfl, sqk_of (S'.hF _ _ h1), sqk_of (S'.hF _ _ h2), k _ _ F' H' ρ' u S' (itrep_z2 h1 h2 r1 r2) q⟩⟩
def zip3D : List D → List D → List D → List D
  | x :: xs, y :: ys, z :: zs => .tup [x, y, z] :: zip3D xs ys zs
  | _, _, _ => []
theorem zip3D_get : ∀ {xs ys zs : List D} {i : Nat} {d : D}, (zip3D xs ys zs)[i]? = some d → ∃ x y z, xs[i]? = some x ∧ ys[i]? = some y ∧ zs[i]? = some z ∧ d = .tup [x, y, z]
  | x :: xs, y :: ys, z :: zs, 0, d, h => ⟨x, y, z, rfl, rfl, rfl, (Option.some.inj h).symm⟩
  | x :: xs, y :: ys, z :: zs, i + 1, d, h => by
    obtain ⟨a, b, c, h1, h2, h3, h4⟩ := zip3D_get (xs := xs) (ys := ys) (zs := zs) (i := i) (d := d) h
    exact ⟨a, b, c, h1, h2, h3, h4⟩
  | [], _, _, _, _, h => by simp [zip3D] at h
  | _ :: _, [], _, _, _, h => by simp [zip3D] at h
  | _ :: _, _ :: _, [], _, _, h => by simp [zip3D] at h
theorem zip3D_len : ∀ (xs ys zs : List D), (zip3D xs ys zs).length = min (min xs.length ys.length) zs.length
  | x :: xs, y :: ys, z :: zs => by simp [zip3D, zip3D_len xs ys zs]
  | [], _, _ => by simp [zip3D]
  | _ :: _, [], _ => by simp [zip3D]
  | _ :: _, _ :: _, [] => by simp [zip3D]
theorem itrep_z3 {K : PySem.W.Frag} {F : Hp} {k1 k2 k3 : Bool} {a b c : Addr} {vs ws us : List V} {xs ys zs : List D} (h1 : F a = some (if k1 = true then .lst vs else .tup vs)) (h2 : F b = some (if k2 = true then .lst ws else .tup ws)) (h3 : F c = some (if k3 = true then .lst us else .tup us)) (r1 : Reps K F vs xs) (r2 : Reps K F ws ys) (r3 : Reps K F us zs) : ItRep K (ItZ3 K k1 a k2 b k3 c) F (zip3D xs ys zs) := fun F' H e1 e2 => by
  have s1 : SqK K k1 H a vs := sqk_of (e2 _ _ (e1 _ _ h1))
  have s2 : SqK K k2 H b ws := sqk_of (e2 _ _ (e1 _ _ h2))
  have s3 : SqK K k3 H c us := sqk_of (e2 _ _ (e1 _ _ h3))
  refine ⟨fun i d hd => ?_, ⟨vs, ws, us, s1, s2, s3, by rw [zip3D_len, r1.length, r2.length, r3.length]⟩⟩
  obtain ⟨x, y, z, hx, hy, hz, rfl⟩ := zip3D_get hd
  obtain ⟨v, hv, rv⟩ := r1.get hx
  obtain ⟨w, hw, rw'⟩ := r2.get hy
  obtain ⟨t, ht, rt⟩ := r3.get hz
  refine ⟨⟨vs, ws, us, v, w, t, s1, s2, s3, hv, hw, ht⟩, fun z H' q => ?_⟩
  obtain ⟨T, v', w', t', rfl, hT, rfl, f1, f2, f3⟩ := q
  have ev : v' = v := Option.some.inj ((f1 _ s1).symm.trans hv)
  have ew : w' = w := Option.some.inj ((f2 _ s2).symm.trans hw)
  have et : t' = t := Option.some.inj ((f3 _ s3).symm.trans ht)
  subst ev ew et
  have hn : F' T = none := e2.free hT
  exact ⟨_, .new hT (.tup upd_same (.cons ((rv.mono e1).mono (same_new hn)) (.cons ((rw'.mono e1).mono (same_new hn)) (.cons ((rt.mono e1).mono (same_new hn)) .nil))))⟩
def jZ3 (T : TAp) : TAp := fun ρ Q => T ρ fun ds ρ1 => match ds with | [x, y, z] => asSeq x fun xs => asSeq y fun ys => asSeq z fun zs => Q (zip3D xs ys zs) ρ1 | _ => False
theorem ppi_z3 {e e2 e3 : Expr} {ta : TA} {TA' : TAp} {p tpos : Pos} {elts : List Expr} {kk : Nat} (hg : Gl X "zip") (hm : X.mg "zip" = none) (ha : PPA X [e, e2, e3] ta TA')
    (hs : starEach [e, e2, e3] X.env = (false, eval e X.env) :: starEach [e2, e3] X.env := by rfl) (hpl : (backTo pos (starEach [e2, e3] X.env)).any (·.1) = false := by rfl) :
    PPI X (.Tuple elts kk tpos) (.Call (.Name "zip" p) [e, e2, e3] [] pos) (iZ3 X.K ta) (jZ3 TA') := ⟨pi_z3 hg hm ha.pa hs hpl, fun G F H σ ρ Q R S h k =>
  ha.snd G F H σ ρ _ _ S h fun vs ds F' H' ρ' u S' rv q => by
    match ds, rv, q with
    | [x, y, z], .cons rx (.cons ry (.cons rz .nil)), q =>
      obtain ⟨a, k1, ws, xs, rfl, h1, r1, q⟩ := rx.seq q
      obtain ⟨b, k2, zs, ys, rfl, h2, r2, q⟩ := ry.seq q
      obtain ⟨c, k3, us, ts, rfl, h3, r3, q⟩ := rz.seq q
      exact ⟨k1, k2, k3, a, b, c, ws, zs, us, rfl, sqk_of (S'.hF _ _ h1), sqk_of (S'.hF _ _ h2), sqk_of (S'.hF _ _ h3), k _ _ F' H' ρ' u S' (itrep_z3 h1 h2 h3 r1 r2 r3) q⟩⟩
def enumD (n : Nat) : List D → List D
  | [] => []
  | x :: xs => .tup [.int n, x] :: enumD (n + 1) xs
theorem enumD_get : ∀ {xs : List D} {n i : Nat} {d : D}, (enumD n xs)[i]? = some d → ∃ x, xs[i]? = some x ∧ d = .tup [.int (n + i : Nat), x]
  | x :: xs, n, 0, d, h => ⟨x, rfl, (Option.some.inj h).symm⟩
  | x :: xs, n, i + 1, d, h => by
    obtain ⟨a, h1, h2⟩ := enumD_get (xs := xs) (n := n + 1) (i := i) (d := d) h
    exact ⟨a, h1, by rw [h2, show n + 1 + i = n + (i + 1) by omega]⟩
  | [], _, _, _, h => by simp [enumD] at h
theorem enumD_len : ∀ (xs : List D) (n : Nat), (enumD n xs).length = xs.length
  | [], _ => rfl
  | x :: xs, n => by simp [enumD, enumD_len xs (n + 1)]
theorem itrep_e {K : PySem.W.Frag} {F : Hp} {k : Bool} {a : Addr} {vs : List V} {xs : List D} (h1 : F a = some (if k = true then .lst vs else .tup vs)) (r1 : Reps K F vs xs) : ItRep K (ItE K k a) F (enumD 0 xs) := fun F' H e1 e2 => by
  have s1 : SqK K k H a vs := sqk_of (e2 _ _ (e1 _ _ h1))
  refine ⟨fun i d hd => ?_, ⟨vs, s1, by rw [enumD_len, r1.length]⟩⟩
  obtain ⟨x, hx, rfl⟩ := enumD_get hd
  obtain ⟨v, hv, rv⟩ := r1.get hx
  refine ⟨⟨vs, v, s1, hv⟩, fun z H' q => ?_⟩
  obtain ⟨T, v', rfl, hT, rfl, f1⟩ := q
  have ev : v' = v := Option.some.inj ((f1 _ s1).symm.trans hv)
  subst ev
  have hn : F' T = none := e2.free hT
  rw [Nat.zero_add]
  exact ⟨_, .new hT (.tup upd_same (.cons (.int _) (.cons ((rv.mono e1).mono (same_new hn)) .nil)))⟩
def jE (T : TAp) : TAp := fun ρ Q => T ρ fun ds ρ1 => match ds with | [x] => asSeq x fun xs => Q (enumD 0 xs) ρ1 | _ => False
theorem ppi_e {e : Expr} {ta : TA} {TA' : TAp} {p tpos : Pos} {elts : List Expr} {kk : Nat} (hg : Gl X "enumerate") (hm : X.mg "enumerate" = none) (ha : PPA X [e] ta TA') (hs : starEach [e] X.env = [(false, eval e X.env)] := by rfl) :
    PPI X (.Tuple elts kk tpos) (.Call (.Name "enumerate" p) [e] [] pos) (iE X.K ta) (jE TA') := ⟨pi_e hg hm ha.pa hs, fun G F H σ ρ Q R S h k =>
  ha.snd G F H σ ρ _ _ S h fun vs ds F' H' ρ' u S' rv q => by
    match ds, rv, q with
    | [x], .cons rx .nil, q =>
      obtain ⟨a, k1, ws, xs, rfl, h1, r1, q⟩ := rx.seq q
      exact ⟨k1, a, ws, rfl, sqk_of (S'.hF _ _ h1), k _ _ F' H' ρ' u S' (itrep_e h1 r1) q⟩⟩
end
def forW (g : TGp) (tb : TSp) (P : PEnds) : List D → Ro → Prop
  | [], ρ => P.nx ρ
  | d :: ds, ρ => g d ρ fun ρ1 => tb { P with nx := forW g tb P ds, ct := forW g tb P ds, bk := P.nx } ρ1
def pFor (Ti : TAp) (g : TGp) (tb : TSp) : TSp := fun P ρ => Ti ρ fun ds ρ1 => forW g tb P ds ρ1
theorem snd_for {K : PySem.W.Frag} {wi : TI} {Ti : TAp} {g : TG} {Gp : TGp} {is : List Nat} {tb : TS} {Tb : TSp} (hi : SndI K wi Ti) (hg : SndG K g Gp is) (hb : SndS K tb Tb) : SndS K (tFor wi g tb) (pFor Ti Gp Tb) := fun G F H σ ρ P D S h r =>
  hi G F H σ ρ _ _ S h fun J ds F1 H1 ρ1 u1 S1 J1 w1 => by
    refine ⟨fun i m σ' H' => m + i = ds.length ∧ ∃ F' ρ', Up G F1 F' ∧ Sim K G F' H' σ' ρ' ∧ forW Gp Tb P (ds.drop i) ρ', ⟨ds.length, by omega, F1, ρ1, .refl _ _, S1, w1⟩, fun i m σ' H' hW => ?_⟩
    obtain ⟨hm, F', ρ', u', S', w'⟩ := hW
    have J' := J1 F' H' u'.ex S'.hF
    by_cases hlt : i < ds.length
    · refine .inr ⟨(J'.1 i ds[i] (List.getElem?_eq_getElem hlt)).1, fun σ'' H'' => ∃ F'' ρ'', Up G F1 F'' ∧ Sim K G F'' H'' σ'' ρ'' ∧ forW Gp Tb P (ds.drop (i + 1)) ρ'', fun σ'' H'' q => ⟨m - 1, by omega, by omega, q⟩, fun x H'' hy => ?_⟩
      obtain ⟨F2, res⟩ := (J'.1 i ds[i] (List.getElem?_eq_getElem hlt)).2 x H'' hy
      obtain ⟨u2, S2, r2⟩ := S'.res res
      rw [List.drop_eq_getElem_cons hlt] at w'
      refine hg G F2 H'' σ' ρ' _ _ x _ S2 r2 w' fun F3 H3 σ3 ρ3 u3 S3 _ _ q3 => hb G F3 H3 σ3 ρ3 _ _ S3 q3 ?_
      have up := (u'.trans u2).trans u3
      exact ⟨fun F4 H4 σ4 ρ4 u4 S4 q4 => ⟨F4, ρ4, up.trans u4, S4, q4⟩, fun F4 H4 σ4 ρ4 v c u4 S4 q4 => r.rt F4 H4 σ4 ρ4 v c (u1.trans (up.trans u4)) S4 q4,
        fun F4 H4 σ4 ρ4 u4 S4 q4 => r.nx F4 H4 σ4 ρ4 (u1.trans (up.trans u4)) S4 q4, fun F4 H4 σ4 ρ4 u4 S4 q4 => ⟨F4, ρ4, up.trans u4, S4, q4⟩⟩
    · have e : i = ds.length := by omega
      subst e
      rw [List.drop_length] at w'
      exact .inl ⟨J'.2, r.nx F' H' σ' ρ' (u1.trans u') S' w'⟩
theorem pps_for {X : Cx} {tg iter : Expr} {body : List Stmt} {wi : TI} {Ti : TAp} {g : TG} {Gp : TGp} {is : List Nat} {tb : TS} {Tb : TSp} {pos : Pos} (hp : PassesOwn (model X.prog X.w) X.A X.env X.xe) (hc : X.calm = true) (hi : PPI X tg iter wi Ti) (hg : PTg X tg g Gp is) (hb : PPSs X body tb Tb)
    (hs : ∀ x, foldedSetIterable iter X.env x = pure x := by intro _; rfl) : PPS X (.For tg iter body [] pos) (tFor wi g tb) (pFor Ti Gp Tb) := ⟨ps_for hp hc hi.pi hg.pg hb.ps hs, snd_for hi.snd hg.snd hb.snd⟩
end Pl
namespace Pl
open PySem PySem.Spec PyProof.Rows L2
variable [TJ]
def valOnly : Option (Option Cell) → Option Cell
  | some (some (.val d)) => some (.val d)
  | _ => none
def wipeP (ρ : Ro) : List Nat → Ro
  | [] => ρ
  | v :: vs => (wipeP ρ vs).set v none
def restore (ρ0 ρ : Ro) : List Nat → Ro
  | [] => ρ
  | v :: vs => (restore ρ0 ρ vs).set v (valOnly ρ0[v]?)
theorem wipe_get {σ : L2.St} : ∀ {vs : List Nat} {j : Nat}, (wipe σ vs)[j]? = if j ∈ vs ∧ j < σ.length then some none else σ[j]?
  | [], j => by simp [wipe]
  | v :: vs, j => by
    show ((wipe σ vs).set v none)[j]? = _
    by_cases h : v = j
    · subst h
      by_cases hl : v < σ.length
      · rw [List.getElem?_set_self (by rw [wipe_length]; exact hl), if_pos ⟨by simp, hl⟩]
      · rw [List.getElem?_eq_none (by simp [wipe_length]; omega), if_neg (fun q => hl q.2), List.getElem?_eq_none (by omega)]
    · rw [List.getElem?_set_ne h, wipe_get]
      have e : (j ∈ v :: vs) ↔ j ∈ vs := by
        constructor
        · intro q
          rcases List.mem_cons.mp q with q | q
          · exact absurd q.symm h
          · exact q
        · exact List.mem_cons_of_mem _
      simp only [e]
theorem wipe_eq {σ σ2 : L2.St} {vs : List Nat} (hl : σ2.length = σ.length) (h : ∀ j, j ∉ vs → σ2[j]? = (wipe σ vs)[j]?) : wipe σ2 vs = wipe σ vs := by
  apply List.ext_getElem?
  intro j
  rw [wipe_get, wipe_get]
  by_cases hj : j ∈ vs
  · by_cases hlt : j < σ.length
    · rw [if_pos ⟨hj, by omega⟩, if_pos ⟨hj, hlt⟩]
    · rw [if_neg (fun q => hlt (by omega)), if_neg (fun q => hlt q.2), List.getElem?_eq_none (by omega), List.getElem?_eq_none (by omega)]
  · have e := h j hj
    rw [wipe_get, if_neg (fun q => hj q.1)] at e
    rw [if_neg (fun q => hj q.1), if_neg (fun q => hj q.1)]
    exact e
section
variable {K : PySem.W.Frag} {G F H : Hp} {σ : L2.St} {ρ : Ro}
theorem Sim.wipe (S : Sim K G F H σ ρ) : ∀ vs : List Nat, Sim K G F H (L2.wipe σ vs) (wipeP ρ vs)
  | [] => S
  | v :: vs => (Sim.wipe S vs).forget v none
theorem Sim.updFree (S : Sim K G F H σ ρ) {p : Addr} {vs ws : List V} (hH : H p = some (.lst vs)) (hF : F p = none) (hG : G p = none) (hn : NotOwn ρ p) : Sim K G F (upd H p (.lst ws)) σ ρ where
  hF := fun a x e => by rw [upd_ne (ne_of_none e hF)]; exact S.hF a x e
  hG := S.hG.mut hG hH
  len := S.len
  val := S.val
  own := fun i a xs e => by
    obtain ⟨h1, h2, h3, vs, h4, h5⟩ := S.own i a xs e
    have q : a ≠ p := fun z => by subst z; exact hn.1 i xs e
    exact ⟨h1, h2, h3, vs, by rw [upd_ne q]; exact h4, h5⟩
  ne := S.ne
  bx := S.bx.upd' hn.2
theorem Sim.guard (S : Sim K G F H σ ρ) {p : Addr} {vs : List V} (hH : H p = some (.lst vs)) (hn : NotOwn ρ p) : Sim K (upd G p (.lst vs)) F H σ ρ where
  hF := S.hF
  hG := S.hG.guard hH
  len := S.len
  val := S.val
  own := fun i a xs e => by
    obtain ⟨h1, h2, h3, h4⟩ := S.own i a xs e
    have q : a ≠ p := fun z => by subst z; exact hn.1 i xs e
    exact ⟨h1, h2, by rw [upd_ne q]; exact h3, h4⟩
  ne := S.ne
  bx := S.bx.guard hn.2
theorem Sim.unguard {G' : Hp} (S : Sim K G' F H σ ρ) (h : Same G G') : Sim K G F H σ ρ where
  hF := S.hF
  hG := S.hG.less h
  len := S.len
  val := S.val
  own := fun i a xs e => by
    obtain ⟨h1, h2, h3, h4⟩ := S.own i a xs e
    exact ⟨h1, h2, h.free h3, h4⟩
  ne := S.ne
  bx := S.bx.unguard h
theorem restore_len (ρ0 ρ : Ro) : ∀ vs : List Nat, (restore ρ0 ρ vs).length = ρ.length
  | [] => rfl
  | v :: vs => by simp [restore, restore_len ρ0 ρ vs]
theorem restore_get {ρ0 ρ : Ro} {c : Cell} : ∀ {vs : List Nat} {j : Nat}, (restore ρ0 ρ vs)[j]? = some (some c) → (j ∈ vs ∧ ∃ d, c = .val d ∧ ρ0[j]? = some (some (.val d))) ∨ (j ∉ vs ∧ ρ[j]? = some (some c))
  | [], j, h => .inr ⟨by simp, h⟩
  | v :: vs, j, h => by
    by_cases hv : v = j
    · subst hv
      refine .inl ⟨by simp, ?_⟩
      have hl : v < (restore ρ0 ρ vs).length := by
        have := lt_of_get h
        simpa [restore] using this
      have h' : ((restore ρ0 ρ vs).set v (valOnly ρ0[v]?))[v]? = some (some c) := h
      rw [List.getElem?_set_self hl] at h'
      have h'' : valOnly ρ0[v]? = some c := Option.some.inj h'
      cases e : ρ0[v]? with
      | none => rw [e] at h''; cases h''
      | some x =>
        rw [e] at h''
        cases x with
        | none => cases h''
        | some y =>
          cases y with
          | val d => cases h''; exact ⟨d, rfl, rfl⟩
          | own a xs => cases h''
          | box t => cases h''
    · have h' : ((restore ρ0 ρ vs).set v (valOnly ρ0[v]?))[j]? = some (some c) := h
      rw [List.getElem?_set_ne hv] at h'
      rcases restore_get h' with ⟨q, r⟩ | ⟨q, r⟩
      · exact .inl ⟨List.mem_cons_of_mem _ q, r⟩
      · refine .inr ⟨fun z => ?_, r⟩
        rcases List.mem_cons.mp z with z | z
        · exact hv z.symm
        · exact q z
theorem Sim.restore {G' F1 H1 : Hp} {σ2 : L2.St} {ρ2 : Ro} {vs : List Nat} (S : Sim K G F H σ ρ) (S2 : Sim K G' F1 H1 σ2 ρ2) (hG : Same G G') (hF : Same F F1) (hl : σ2.length = σ.length) (hj : ∀ j, j ∉ vs → σ2[j]? = σ[j]?) : Sim K G F1 H1 σ (restore ρ ρ2 vs) where
  hF := S2.hF
  hG := S2.hG.less hG
  len := by rw [restore_len, ← S2.len, hl]
  val := fun i d e => by
    rcases restore_get e with ⟨q, d', e', r⟩ | ⟨q, r⟩
    · cases e'
      obtain ⟨v, h1, h2⟩ := S.val i d r
      exact ⟨v, h1, h2.mono hF⟩
    · obtain ⟨v, h1, h2⟩ := S2.val i d r
      exact ⟨v, (hj i q).symm.trans h1, h2⟩
  own := fun i a xs e => by
    rcases restore_get e with ⟨q, d', e', r⟩ | ⟨q, r⟩
    · cases e'
    · obtain ⟨h1, h2, h3, h4⟩ := S2.own i a xs r
      exact ⟨(hj i q).symm.trans h1, h2, hG.free h3, h4⟩
  ne := fun i j a xs ys e1 e2 => by
    rcases restore_get e1 with ⟨_, _, e', _⟩ | ⟨_, r1⟩
    · cases e'
    · rcases restore_get e2 with ⟨_, _, e', _⟩ | ⟨_, r2⟩
      · cases e'
      · exact S2.ne i j a xs ys r1 r2
  bx := S2.bx.to (.refl _) (fun p m => ⟨(S2.bx.free m).1, hG.free (S2.bx.free m).2.1, rfl⟩) (fun i s e => by
    rcases restore_get e with ⟨_, _, e', _⟩ | ⟨q, r⟩
    · cases e'
    · exact ⟨r, (hj i q).symm⟩) fun i a xs e => by
    rcases restore_get e with ⟨_, _, e', _⟩ | ⟨q, r⟩
    · cases e'
    · exact .inl ⟨i, xs, r⟩
theorem restore_box {ρ0 ρ : Ro} {vs : List Nat} {p : Addr} : InBox (restore ρ0 ρ vs) p → InBox ρ p := fun ⟨i, s, e, m⟩ => by
  rcases restore_get e with ⟨_, _, e', _⟩ | ⟨q, r⟩
  · cases e'
  · exact ⟨i, s, r, m⟩
end
def lcW (vs : List Nat) (g : TGp) (tt : TTp) (te : TEp) (Q : List D → Ro → Prop) : List D → List D → Ro → Prop
  | [], acc, ρ => Q acc ρ
  | d :: ds, acc, ρ => g d (wipeP ρ vs) fun ρ2 => tt ρ2 fun b ρ3 => if b = true then te ρ3 fun y ρ4 => acc.length < sizeLine ∧ lcW vs g tt te Q ds (acc ++ [y]) (restore ρ ρ4 vs) else lcW vs g tt te Q ds acc (restore ρ ρ3 vs)
def pLcO (Ti : TAp) (g : TGp) (tt : TTp) (te : TEp) (vs : List Nat) : TCp := fun ρ Q => Ti ρ fun ds ρ1 => lcW vs g tt te (fun acc ρ2 => ∀ a, Q (.own a acc) ρ2) ds [] ρ1
def pLc (Ti : TAp) (g : TGp) (tt : TTp) (te : TEp) (vs : List Nat) : TEp := fun ρ Q => Ti ρ fun ds ρ1 => lcW vs g tt te (fun acc ρ2 => Q (.lst acc) ρ2) ds [] ρ1
theorem snd_lc {K : PySem.W.Frag} {wi : TI} {Ti : TAp} {g : TG} {Gp : TGp} {is : List Nat} {tt : TT} {Tt : TTp} {te : TE} {Te : TEp} {vs : List Nat} (hi : SndI K wi Ti) (hg : SndG K g Gp is) (ht : SndT K tt Tt) (he : SndE K te Te) (hsub : ∀ i ∈ is, i ∈ vs) : SndC K (tLc wi g tt te vs) (pLcO Ti Gp Tt Te vs) := fun G F H σ ρ Q R S h k =>
  hi G F H σ ρ _ _ S h fun J ds F1 H1 ρ1 u1 S1 J1 w1 => fun D hD => by
    refine ⟨fun i m H' => m + i = ds.length ∧ ∃ F' ρ' acc, Up G F1 F' ∧ Sim K G F' H' (σ ++ [some (.ref D)]) (ρ' ++ [some (.own D acc)]) ∧ lcW vs Gp Tt Te (fun acc ρ2 => ∀ a, Q (.own a acc) ρ2) (ds.drop i) acc ρ', ⟨ds.length, by omega, F1, ρ1, [], .refl _ _, S1.newOwn hD .nil, w1⟩, fun i m H' hW => ?_⟩
    obtain ⟨hm, F', ρ', acc, u', S0, w'⟩ := hW
    have S' := S0.drop
    obtain ⟨_, hFD, hGD, hnD, av, hHD, rD⟩ := S0.lastOwn
    have J' := J1 F' H' u'.ex S'.hF
    by_cases hlt : i < ds.length
    · refine .inr ⟨(J'.1 i ds[i] (List.getElem?_eq_getElem hlt)).1, fun H'' => ∃ F'' ρ'' acc, Up G F1 F'' ∧ Sim K G F'' H'' (σ ++ [some (.ref D)]) (ρ'' ++ [some (.own D acc)]) ∧ lcW vs Gp Tt Te (fun acc ρ2 => ∀ a, Q (.own a acc) ρ2) (ds.drop (i + 1)) acc ρ'', fun H'' q => ⟨m - 1, by omega, by omega, q⟩, fun x H'' hy => ?_⟩
      obtain ⟨F2, res⟩ := (J'.1 i ds[i] (List.getElem?_eq_getElem hlt)).2 x H'' hy
      have Sg : Sim K (upd G D (.lst av)) F' H' σ ρ' := S'.guard hHD hnD
      obtain ⟨u2, S2, r2⟩ := Sg.res res
      have hGG : Same G (upd G D (.lst av)) := same_new hGD
      rw [List.drop_eq_getElem_cons hlt] at w'
      refine hg (upd G D (.lst av)) F2 H'' (wipe σ vs) (wipeP ρ' vs) _ _ x _ (S2.wipe vs) r2 w' fun F3 H3 σ3 ρ3 u3 S3 o3 l3 q3 => ?_
      have hl3 : σ3.length = σ.length := by rw [l3, wipe_length]
      have ho3 : ∀ j, j ∉ vs → σ3[j]? = (wipe σ vs)[j]? := fun j hj => o3 j fun z => hj (hsub j z)
      have hoσ : ∀ j, j ∉ vs → σ3[j]? = σ[j]? := fun j hj => by rw [ho3 j hj, wipe_get, if_neg (fun q => hj q.1)]
      refine ⟨wipe_eq hl3 ho3, ht (upd G D (.lst av)) F3 H3 σ3 ρ3 _ _ S3 q3 fun b F4 H4 ρ4 u4 S4 q4 => ?_⟩
      cases b with
      | true =>
        refine ite_ti (he (upd G D (.lst av)) F4 H4 σ3 ρ4 _ _ S4 (ite_t q4) fun y dy F5 H5 ρ5 u5 S5 r5 q5 => ?_)
        have up := ((u2.trans u3).trans u4).trans u5
        have hH5 : H5 D = some (.lst av) := S5.hG D _ upd_same
        have hF5 : F5 D = none := up.isNone hFD upd_same
        have S6 : Sim K G F5 H5 σ (Pl.restore ρ' ρ5 vs) := S'.restore S5 hGG up.ex hl3 hoσ
        have hn6 : NotOwn (Pl.restore ρ' ρ5 vs) D := ⟨fun j xs e => (by
          rcases restore_get e with ⟨_, _, e', _⟩ | ⟨_, r⟩
          · cases e'
          · have := (S5.own j D xs r).2.2.1
            rw [upd_same] at this; cases this), fun m => S5.bx.notG upd_same (restore_box m)⟩
        have r6 : Reps K F5 (av ++ [y]) (acc ++ [dy]) := (rD.mono up.ex).append (.one r5)
        refine ⟨av, hH5, by rw [rD.length]; exact q5.1, F5, _, acc ++ [dy], u'.trans (up.less hGG), ?_, q5.2⟩
        exact (S6.updFree hH5 hF5 hGD hn6).pushOwn upd_same hF5 hGD hn6 r6
      | false =>
        refine ite_fi ⟨F4, _, acc, u'.trans (((u2.trans u3).trans u4).less hGG), ?_, ite_f q4⟩
        have up := (u2.trans u3).trans u4
        have hH4 : H4 D = some (.lst av) := S4.hG D _ upd_same
        have hF4 : F4 D = none := up.isNone hFD upd_same
        have S6 : Sim K G F4 H4 σ (Pl.restore ρ' ρ4 vs) := S'.restore S4 hGG up.ex hl3 hoσ
        have hn6 : NotOwn (Pl.restore ρ' ρ4 vs) D := ⟨fun j xs e => (by
          rcases restore_get e with ⟨_, _, e', _⟩ | ⟨_, r⟩
          · cases e'
          · have := (S4.own j D xs r).2.2.1
            rw [upd_same] at this; cases this), fun m => S4.bx.notG upd_same (restore_box m)⟩
        exact S6.pushOwn hH4 hF4 hGD hn6 (rD.mono up.ex)
    · have e : i = ds.length := by omega
      subst e
      rw [List.drop_length] at w'
      exact .inl ⟨J'.2, k _ _ F' H' ρ' (u1.trans u') S0 (w' D)⟩
structure PPTs (X : Cx) (ifs : List Expr) (t : TT) (T : TTp) : Prop where
  pt : PTs X ifs t
  snd : SndT X.K t T
def pYes : TTp := fun ρ Q => Q true ρ
theorem ppts_nil {X : Cx} : PPTs X [] tYes pYes := ⟨pts_nil, fun G F H σ ρ Q R S h k => k true F H ρ (.refl _ _) S h⟩
theorem ppts_one {X : Cx} {c : Expr} {t : TT} {T : TTp} (h : PPT X c t T) : PPTs X [c] t T := ⟨pts_one h.pt, h.snd⟩
section
variable {X : Cx} {elt tg iter : Expr} {ifs : List Expr} {scope : Scope} {own : List (Str × Nat)} {pos : Pos} {wi : TI} {Ti : TAp} {g : TG} {Gp : TGp} {is : List Nat} {tt : TT} {Tt : TTp} {te : TE} {Te : TEp} {vs : List Nat}
theorem ppc_lc (hc : X.calm = true) (hN : X.N.Nodup) (hi : PPI X tg iter wi Ti) (ok : BlkOk X.N X.env.scope scope own)
    (hg : ∀ (s : Shared) (H : Hp) (C : Addr) (cl : List (Str × Addr)) (fp : List Addr), PTg (X.blk s H scope (compEnvC scope cl C X.env) fp) tg g Gp is) (ht : ∀ (s : Shared) (H : Hp) (C : Addr) (cl : List (Str × Addr)) (fp : List Addr), PPTs (X.blk s H scope (compEnvC scope cl C X.env) fp) ifs tt Tt)
    (he : ∀ (s : Shared) (H : Hp) (C : Addr) (cl : List (Str × Addr)) (fp : List Addr), PPE (X.blk s H scope (compEnvC scope cl C X.env) fp) elt te Te) (hs : ∀ x, foldedSetIterable iter X.env x = pure x := by intro _; rfl) (hsub : ∀ i ∈ is, i ∈ own.map (·.2) := by decide) :
    PPC X (.ListComp elt [⟨tg, iter, ifs, 0⟩] scope pos) (tLc wi g tt te (own.map (·.2))) (pLcO Ti Gp Tt Te (own.map (·.2))) := by
  refine ⟨pe_lc hc hN hi.pi ok (fun s H C cl fp => (hg s H C cl fp).pg) (fun s H C cl fp => (ht s H C cl fp).pt) (fun s H C cl fp => (he s H C cl fp).pe) hs, ?_⟩
  exact snd_lc hi.snd (hg X.s_0 (fun _ => none) 0 [] []).snd (ht X.s_0 (fun _ => none) 0 [] []).snd (he X.s_0 (fun _ => none) 0 [] []).snd hsub
theorem snd_lcV {K : PySem.W.Frag} {t : TE} (h : SndC K t (pLcO Ti Gp Tt Te vs)) : SndE K t (pLc Ti Gp Tt Te vs) := fun G F H σ ρ Q R S hT k => h G F H σ ρ (fun c ρ' => Q c.froz ρ') R S (by
    unfold pLcO
    unfold pLc at hT
    have e : (fun (acc : List D) (ρ2 : Ro) => ∀ a : Addr, Q (Cell.froz (.own a acc)) ρ2) = fun acc ρ2 => Q (.lst acc) ρ2 := by
      funext acc ρ2
      exact propext ⟨fun q => q 0, fun q _ => q⟩
    show Ti ρ fun ds ρ1 => lcW vs Gp Tt Te (fun acc ρ2 => ∀ a : Addr, Q (Cell.froz (.own a acc)) ρ2) ds [] ρ1
    rw [e]
    exact hT) fun v c F' H' ρ' u S' q => by
  obtain ⟨F2, u2, S2, r2⟩ := S'.froz
  exact k v _ F2 H' ρ' (u.trans u2) S2 r2 q
theorem ppe_lc (hc : X.calm = true) (hN : X.N.Nodup) (hi : PPI X tg iter wi Ti) (ok : BlkOk X.N X.env.scope scope own)
    (hg : ∀ (s : Shared) (H : Hp) (C : Addr) (cl : List (Str × Addr)) (fp : List Addr), PTg (X.blk s H scope (compEnvC scope cl C X.env) fp) tg g Gp is) (ht : ∀ (s : Shared) (H : Hp) (C : Addr) (cl : List (Str × Addr)) (fp : List Addr), PPTs (X.blk s H scope (compEnvC scope cl C X.env) fp) ifs tt Tt)
    (he : ∀ (s : Shared) (H : Hp) (C : Addr) (cl : List (Str × Addr)) (fp : List Addr), PPE (X.blk s H scope (compEnvC scope cl C X.env) fp) elt te Te) (hs : ∀ x, foldedSetIterable iter X.env x = pure x := by intro _; rfl) (hsub : ∀ i ∈ is, i ∈ own.map (·.2) := by decide) :
    PPE X (.ListComp elt [⟨tg, iter, ifs, 0⟩] scope pos) (tLc wi g tt te (own.map (·.2))) (pLc Ti Gp Tt Te (own.map (·.2))) := by
  have h := ppc_lc (pos := pos) hc hN hi ok hg ht he hs hsub
  exact ⟨h.pe, snd_lcV h.snd⟩
theorem pps_setLc {i : Nat} {y : Str} {py spos : Pos} (hc : X.calm = true) (hN : X.N.Nodup) (hi : PPI X tg iter wi Ti) (ok : BlkOk X.N X.env.scope scope own)
    (hg : ∀ (s : Shared) (H : Hp) (C : Addr) (cl : List (Str × Addr)) (fp : List Addr), PTg (X.blk s H scope (compEnvC scope cl C X.env) fp) tg g Gp is) (ht : ∀ (s : Shared) (H : Hp) (C : Addr) (cl : List (Str × Addr)) (fp : List Addr), PPTs (X.blk s H scope (compEnvC scope cl C X.env) fp) ifs tt Tt)
    (he : ∀ (s : Shared) (H : Hp) (C : Addr) (cl : List (Str × Addr)) (fp : List Addr), PPE (X.blk s H scope (compEnvC scope cl C X.env) fp) elt te Te)
    (hy : X.N[i]? = some y := by rfl) (hyl : X.env.scope.names.lookup y = some .local := by rfl)
    (hsw : swapsWith (.ListComp elt [⟨tg, iter, ifs, 0⟩] scope pos) (some (.Name y py)) spos.line X.env = pure true := by exact sw_true rfl rfl rfl (by decide +kernel)) (hs : ∀ x, foldedSetIterable iter X.env x = pure x := by intro _; rfl) (hsub : ∀ i ∈ is, i ∈ own.map (·.2) := by decide) :
    PPS X (.Assign [.Name y py] (.ListComp elt [⟨tg, iter, ifs, 0⟩] scope pos) spos) (tAsg (tLc wi g tt te (own.map (·.2))) (gName i)) (pSet i (pLcO Ti Gp Tt Te (own.map (·.2)))) := by
  have h := ppc_lc (pos := pos) hc hN hi ok hg ht he hs hsub
  exact ⟨ps_setLc hc hN hy hyl hsw hi.pi ok (fun s H C cl fp => (hg s H C cl fp).pg) (fun s H C cl fp => (ht s H C cl fp).pt) (fun s H C cl fp => (he s H C cl fp).pe) hs, snd_set h.snd⟩
end
end Pl
namespace Pl
open PySem PySem.Spec PyProof.Rows L2
variable [TJ]
section
variable {X : Cx} {a b : Expr} {ta tb : TE} {Ta Tb : TEp} {pos : Pos}
theorem Reps.atI {K : PySem.W.Frag} {F : Hp} {vs : List V} {ds : List D} {i : Int} {d : D} (r : Reps K F vs ds) (h : atI ds i = some d) : ∃ v, L2.atI vs i = some v ∧ Rep K F v d := by
  unfold L2.atI at h ⊢
  rw [r.length]
  cases e : ixN ds.length i with
  | none => rw [e] at h; cases h
  | some j => rw [e] at h; exact r.get h
theorem atI_ints {ns : List Int} {i n : Int} (h : L2.atI ns i = some n) : L2.atI (ns.map V.int) i = some (V.int n) := by
  unfold L2.atI at h ⊢
  rw [List.length_map]
  cases e : ixN ns.length i with
  | none => rw [e] at h; cases h
  | some j =>
    rw [e] at h
    show (ns.map V.int)[j]? = some (V.int n)
    have h' : ns[j]? = some n := h
    rw [List.getElem?_map, h']; rfl
def rIxA (K : PySem.W.Frag) : R2 := fun x y H Q => rIxL K x y H Q ∨ (rIxT K x y H Q ∨ rIxS x y H Q)
theorem ix_any : IxR X (rIxA X.K) := IxR.or ix_list (IxR.or ix_tup ix_str)
def fIx : F2 := fun x y Q => match x, y with
  | .lst xs, .int i => ∃ v, atI xs i = some v ∧ Q v
  | .tup xs, .int i => ∃ v, atI xs i = some v ∧ Q v
  | .scr ns, .int i => ∃ n, atI ns i = some n ∧ Q (.int n)
  | .str z, .int i => z.length ≤ sizeLine ∧ ∃ c, atI z.cps.toList i = some c ∧ Q (.str ⟨#[c]⟩)
  | _, _ => False
theorem opp_ix {K : PySem.W.Frag} : OpP K (rIxA K) fIx := fun F H x y dx dy Q R hs rx ry hf k => by
  cases rx with
  | lst h1 r1 =>
    cases ry with
    | int i =>
      obtain ⟨d, e, q⟩ := hf
      obtain ⟨v, e', r⟩ := r1.atI e
      exact .inl ⟨_, _, i, v, rfl, rfl, SqL.of (hs _ _ h1), e', k _ _ _ _ (.old r) q⟩
    | _ => exact hf.elim
  | tup h1 r1 =>
    cases ry with
    | int i =>
      obtain ⟨d, e, q⟩ := hf
      obtain ⟨v, e', r⟩ := r1.atI e
      exact .inr (.inl ⟨_, _, i, v, rfl, rfl, SqT.of (hs _ _ h1), e', k _ _ _ _ (.old r) q⟩)
    | _ => exact hf.elim
  | scr h1 =>
    cases ry with
    | int i =>
      obtain ⟨n, e, q⟩ := hf
      exact .inl ⟨_, _, i, _, rfl, rfl, hs.seq h1, atI_ints e, k _ _ _ _ (.old (.int _)) q⟩
    | _ => exact hf.elim
  | str z =>
    cases ry with
    | int i =>
      obtain ⟨hz, c, e, q⟩ := hf
      exact .inr (.inr ⟨z, i, c, rfl, rfl, hz, e, k _ _ _ _ (.old (.str _)) q⟩)
    | _ => exact hf.elim
  | _ => exact hf.elim
theorem ppe_ix (ha : PPE X a ta Ta) (hb : PPE X b tb Tb) (hs : PlainIx b := by exact fun _ _ => rfl) : PPE X (.Subscript a b pos) (tOp (rIxA X.K) ta tb) (pOp fIx Ta Tb) := ⟨pe_ix ix_any ha.pe hb.pe hs, snd_op opp_ix ha.snd hb.snd⟩
def pIxO (i : Nat) (Tb : TEp) : TEp := fun ρ Q => match ρ[i]? with
  | some (some (.own a _)) => Tb ρ fun y ρ1 => ∃ xs1 k v, ρ1[i]? = some (some (.own a xs1)) ∧ y = .int k ∧ atI xs1 k = some v ∧ Q v ρ1
  | some (some (.val d)) => Tb ρ fun y ρ1 => fIx d y fun z => Q z ρ1
  | _ => False
theorem ppe_ixO (i : Nat) {x : Str} {p : Pos} (hb : PPE X b tb Tb) (hs : PlainIx b := by exact fun _ _ => rfl) (hN : X.N[i]? = some x := by rfl) (hv : Vis X.env.scope x := by first | exact Or.inl rfl | exact Or.inr (Or.inl rfl) | exact Or.inr (Or.inr rfl)) (hd : (x == ("__debug__" : Str)) = false := by decide)
    (hcd : (x == ("__classdict__" : Str)) = false := by decide) : PPE X (.Subscript (.Name x p) b pos) (tOp (rIxA X.K) (tVar i) tb) (pIxO i Tb) := ⟨pe_ix ix_any (pe_var hN hv hd hcd) hb.pe hs, fun G F H σ ρ Q R S hT k => by
  unfold pIxO at hT
  split at hT
  · rename_i a xs e
    refine ⟨.ref a, (S.own i a xs e).1, hb.snd G F H σ ρ _ _ S hT fun y dy F1 H1 ρ1 u1 S1 r1 q1 => ?_⟩
    obtain ⟨xs1, kk, v, e1, rfl, e2, q⟩ := q1
    obtain ⟨h1, h2, h3, vs, h4, h5⟩ := S1.own i a xs1 e1
    obtain ⟨w, ew, rw'⟩ := h5.atI e2
    cases r1
    exact .inl ⟨a, vs, kk, w, rfl, rfl, SqL.of h4, ew, k _ _ F1 H1 ρ1 u1 S1 rw' q⟩
  · rename_i d e
    obtain ⟨v, h1, h2⟩ := S.val i d e
    refine ⟨v, h1, hb.snd G F H σ ρ _ _ S hT fun y dy F1 H1 ρ1 u1 S1 r1 q1 => ?_⟩
    refine opp_ix F1 H1 v y d dy _ _ S1.hF (h2.mono u1.ex) r1 q1 fun w dw F2 H2 res q => ?_
    obtain ⟨u2, S2, r2⟩ := S1.res res
    exact k w dw F2 H2 ρ1 (u1.trans u2) S2 r2 q
  · exact hT.elim⟩
theorem Reps.cut {K : PySem.W.Frag} {F : Hp} {vs : List V} {ds : List D} (r : Reps K F vs ds) (lo hi : Option Int) : Reps K F (cutV vs lo hi) ((ds.drop (HT.sIx ds.length 0 lo)).take (HT.sIx ds.length ds.length hi - HT.sIx ds.length 0 lo)) := by
  unfold cutV
  rw [r.length]
  exact (r.drop _).take _
def cutD (xs : List D) (lo hi : Option Int) : List D := (xs.drop (HT.sIx xs.length 0 lo)).take (HT.sIx xs.length xs.length hi - HT.sIx xs.length 0 lo)
def rSlX (K : PySem.W.Frag) : V → Option Int → Option Int → Hp → VK → Prop := fun x lo hi H Q => rSlL K x lo hi H Q ∨ rSlA K x lo hi H Q
theorem sl_any : SlR X (rSlX X.K) := SlR.or sl_list sl_tupA
abbrev TOp := Ro → (Option Int → Ro → Prop) → Prop
def pNoPart : TOp := fun ρ Q => Q none ρ
def pPart (T : TEp) : TOp := fun ρ Q => T ρ fun x ρ1 => match x with | .int i => Q (some i) ρ1 | _ => False
def SndO (K : PySem.W.Frag) (t : TO) (T : TOp) : Prop := ∀ (G F H : Hp) (σ : L2.St) (ρ : Ro) (Q : Option Int → Ro → Prop) (R : Option Int → Hp → Prop), Sim K G F H σ ρ → T ρ Q →
  (∀ o F' H' ρ', Up G F F' → Sim K G F' H' σ ρ' → Q o ρ' → R o H') → t σ H R
structure PPO (X : Cx) (e : Option Expr) (t : TO) (T : TOp) : Prop where
  po : PO X e t
  snd : SndO X.K t T
theorem ppo_none : PPO X none tNoPart pNoPart := ⟨po_none, fun G F H σ ρ Q R S h k => k none F H ρ (.refl _ _) S h⟩
theorem ppo_some (h : PPE X a ta Ta) : PPO X (some a) (tPart ta) (pPart Ta) := ⟨po_some h.pe, fun G F H σ ρ Q R S hT k => h.snd G F H σ ρ _ _ S hT fun v d F' H' ρ' u S' r q => by
  cases r with
  | int i => exact ⟨i, rfl, k _ F' H' ρ' u S' q⟩
  | _ => exact q.elim⟩
def fSl (x : D) (lo hi : Option Int) (Q : D → Prop) : Prop := match x with
  | .lst xs => Q (.lst (cutD xs lo hi))
  | .tup xs => Q (.tup (cutD xs lo hi))
  | _ => False
theorem cutD_all {xs : List D} {lo hi : Option Int} (h : HT.sIx xs.length 0 lo = 0 ∧ HT.sIx xs.length xs.length hi = xs.length) : cutD xs lo hi = xs := by
  unfold cutD
  rw [h.1, h.2]
  simp
def pSl (Te : TEp) (Tl Th : TOp) : TEp := fun ρ Q => Te ρ fun x ρ1 => Tl ρ1 fun l ρ2 => Th ρ2 fun u ρ3 => fSl x l u fun z => Q z ρ3
theorem ppe_slice {lo hi : Option Expr} {tl th : TO} {Tl Th : TOp} {p2 : Pos} (ha : PPE X a ta Ta) (hl : PPO X lo tl Tl) (hh : PPO X hi th Th) : PPE X (.Subscript a (.Slice lo hi none p2) pos) (tSl (rSlX X.K) ta tl th) (pSl Ta Tl Th) := ⟨pe_slice sl_any ha.pe hl.po hh.po, fun G F H σ ρ Q R S hT k =>
  ha.snd G F H σ ρ _ _ S hT fun v d F1 H1 ρ1 u1 S1 r1 q1 => hl.snd G F1 H1 σ ρ1 _ _ S1 q1 fun l F2 H2 ρ2 u2 S2 q2 => hh.snd G F2 H2 σ ρ2 _ _ S2 q2 fun h F3 H3 ρ3 u3 S3 q3 => by
    have r3 := (r1.mono u2.ex).mono u3.ex
    have up := (u1.trans u2).trans u3
    cases r3 with
    | lst e r =>
      refine .inl ⟨_, _, rfl, SqL.of (S3.hF _ _ e), fun p hp => k _ _ _ _ ρ3 (up.trans (S3.upNew hp)) (S3.new hp) (.lst upd_same ((r.mono (same_new (S3.freshF hp))).cut l h)) q3⟩
    | tup e r =>
      refine .inr ⟨_, _, rfl, SqT.of (S3.hF _ _ e), fun hw => ?_, fun _ p hp => k _ _ _ _ ρ3 (up.trans (S3.upNew hp)) (S3.new hp) (.tup upd_same ((r.mono (same_new (S3.freshF hp))).cut l h)) q3⟩
      rw [r.length] at hw
      have q3' : Q _ ρ3 := q3
      rw [cutD_all hw] at q3'
      exact k _ _ F3 H3 ρ3 up S3 (.tup e r) q3'
    | _ => exact q3.elim⟩
def fRev (x : D) (Q : D → Prop) : Prop := match x with
  | .lst xs => Q (.lst xs.reverse)
  | .tup xs => Q (.tup xs.reverse)
  | _ => False
theorem ppe_rev {k : Nat} {p1 p2 p3 : Pos} (ha : PPE X a ta Ta) : PPE X (.Subscript a (.Slice none none (some (.UnaryOp .USub (.Constant (.int 1) k p1) p2)) p3) pos) (tRevA X.K ta) (pUn fRev Ta) := ⟨pe_revA ha.pe, fun G F H σ ρ Q R S hT kk =>
  ha.snd G F H σ ρ _ _ S hT fun v d F1 H1 ρ1 u1 S1 r1 q1 => by
    cases r1 with
    | lst e r => exact ⟨_, _, rfl, .inl ⟨SqL.of (S1.hF _ _ e), fun p hp => kk _ _ _ _ ρ1 (u1.trans (S1.upNew hp)) (S1.new hp) (.lst upd_same (r.mono (same_new (S1.freshF hp))).reverse) q1⟩⟩
    | tup e r => exact ⟨_, _, rfl, .inr ⟨SqT.of (S1.hF _ _ e), fun p hp => kk _ _ _ _ ρ1 (u1.trans (S1.upNew hp)) (S1.new hp) (.tup upd_same (r.mono (same_new (S1.freshF hp))).reverse) q1⟩⟩
    | _ => exact q1.elim⟩
abbrev FC := List D → (D → Prop) → Prop
theorem Reps.inv1 {K : PySem.W.Frag} {F : Hp} {vs : List V} {d : D} (r : Reps K F vs [d]) : ∃ v, vs = [v] ∧ Rep K F v d := by
  cases r with | cons h t => cases t; exact ⟨_, rfl, h⟩
theorem Rep.lstInv {K : PySem.W.Frag} {F : Hp} {v : V} {xs : List D} (r : Rep K F v (.lst xs)) : ∃ a vs, v = .ref a ∧ F a = some (.lst vs) ∧ Reps K F vs xs := by
  cases r with | lst e r => exact ⟨_, _, rfl, e, r⟩
theorem Rep.tupInv {K : PySem.W.Frag} {F : Hp} {v : V} {xs : List D} (r : Rep K F v (.tup xs)) : ∃ a vs, v = .ref a ∧ F a = some (.tup vs) ∧ Reps K F vs xs := by
  cases r with | tup e r => exact ⟨_, _, rfl, e, r⟩
theorem Rep.intInv {K : PySem.W.Frag} {F : Hp} {v : V} {i : Int} (r : Rep K F v (.int i)) : v = .int i := by cases r; rfl
theorem Rep.blInv {K : PySem.W.Frag} {F : Hp} {v : V} {i : Bool} (r : Rep K F v (.bl i)) : v = .bl i := by cases r; rfl
theorem Rep.strInv {K : PySem.W.Frag} {F : Hp} {v : V} {i : Str} (r : Rep K F v (.str i)) : v = .str i := by cases r; rfl
theorem Rep.scrInv {K : PySem.W.Frag} {F : Hp} {v : V} {ns : List Int} (r : Rep K F v (.scr ns)) : ∃ a, v = .ref a ∧ SqL K F a (ns.map V.int) := by cases r with | scr h => exact ⟨_, rfl, h⟩
def fLen : FC := fun ds Q => match ds with
  | [.lst xs] => Q (.int xs.length)
  | [.tup xs] => Q (.int xs.length)
  | [.scr ns] => Q (.int ns.length)
  | [.str z] => z.length ≤ sizeLine ∧ Q (.int z.length)
  | _ => False
def rLenA (K : PySem.W.Frag) : List V → Hp → VK → Prop := fun xs H Q => (∃ p ys, xs = [.ref p] ∧ (SqL K H p ys ∨ SqT K H p ys) ∧ Q (.int ys.length) H) ∨ (∃ z, xs = [.str z] ∧ z.length ≤ sizeLine ∧ Q (.int z.length) H)
theorem cr_lenA : CallR X (.builtin "len") (rLenA X.K) := CallR.or call_len_seq call_len_str
theorem cp_len {K : PySem.W.Frag} : CallP K (rLenA K) fLen := fun F H xs ds Q R hs r hf k => by
  unfold fLen at hf
  split at hf
  · obtain ⟨v, rfl, q1⟩ := r.inv1
    obtain ⟨a, vs, rfl, e, q2⟩ := q1.lstInv
    exact .inl ⟨a, vs, rfl, .inl (SqL.of (hs _ _ e)), by rw [q2.length]; exact k _ _ _ _ (.old (.int _)) hf⟩
  · obtain ⟨v, rfl, q1⟩ := r.inv1
    obtain ⟨a, vs, rfl, e, q2⟩ := q1.tupInv
    exact .inl ⟨a, vs, rfl, .inr (SqT.of (hs _ _ e)), by rw [q2.length]; exact k _ _ _ _ (.old (.int _)) hf⟩
  · obtain ⟨v, rfl, q1⟩ := r.inv1
    obtain ⟨a, rfl, e⟩ := q1.scrInv
    exact .inl ⟨a, _, rfl, .inl (hs.seq e), by rw [List.length_map]; exact k _ _ _ _ (.old (.int _)) hf⟩
  · obtain ⟨v, rfl, q1⟩ := r.inv1
    have := q1.strInv
    subst this
    exact .inr ⟨_, rfl, hf.1, k _ _ _ _ (.old (.int _)) hf.2⟩
  · exact hf.elim
def pLenO (i : Nat) : TEp := fun ρ Q => match ρ[i]? with
  | some (some (.own _ xs)) => Q (.int xs.length) ρ
  | some (some (.val d)) => fLen [d] fun z => Q z ρ
  | _ => False
theorem ppe_lenO (i : Nat) {x : Str} {p q : Pos} (hg : Gl X "len") (hm : X.mg "len" = none) (hN : X.N[i]? = some x := by rfl) (hv : Vis X.env.scope x := by first | exact Or.inl rfl | exact Or.inr (Or.inl rfl) | exact Or.inr (Or.inr rfl)) (hd : (x == ("__debug__" : Str)) = false := by decide)
    (hcd : (x == ("__classdict__" : Str)) = false := by decide) (he : starEach [.Name x q] X.env = [(false, eval (.Name x q) X.env)] := by rfl) : PPE X (.Call (.Name "len" p) [.Name x q] [] pos) (tCB (rLenA X.K) (tCons (tVar i) tNil)) (pLenO i) := ⟨pe_callB cr_lenA hg hm PySem.boot_len (pa_cons (pe_var hN hv hd hcd) pa_nil (by rw [he]; rfl)) (by decide) (by decide) (by rw [he]; rfl) rfl, fun G F H σ ρ Q R S hT k => by
  unfold pLenO at hT
  split at hT
  · rename_i a xs e
    obtain ⟨h1, h2, h3, vs, h4, h5⟩ := S.own i a xs e
    exact ⟨.ref a, h1, .inl ⟨a, vs, rfl, .inl (SqL.of h4), by rw [h5.length]; exact k _ _ F H ρ (.refl _ _) S (.int _) hT⟩⟩
  · rename_i d e
    obtain ⟨v, h1, h2⟩ := S.val i d e
    refine ⟨v, h1, ?_⟩
    refine cp_len F H [v] [d] _ _ S.hF (.cons h2 .nil) hT fun w dw F2 H2 res q => ?_
    obtain ⟨u2, S2, r2⟩ := S.res res
    exact k w dw F2 H2 ρ u2 S2 r2 q
  · exact hT.elim⟩
def iabs (i : Int) : Int := if i < 0 then -i else i
def fAbs : FC := fun ds Q => match ds with | [.int i] => Q (.int (iabs i)) | _ => False
theorem cp_abs {K : PySem.W.Frag} : CallP K (fun xs H Q => ∃ i, xs = [.int i] ∧ Q (.int (if i < 0 then -i else i)) H) fAbs := fun F H xs ds Q R hs r hf k => by
  unfold fAbs at hf
  split at hf
  · rw [r.int1]
    exact ⟨_, rfl, k _ _ _ _ (.old (.int _)) hf⟩
  · exact hf.elim
def fMin2 : FC := fun ds Q => match ds with | [.int i, .int j] => Q (.int (min i j)) | _ => False
def fMax2 : FC := fun ds Q => match ds with | [.int i, .int j] => Q (.int (max i j)) | _ => False
theorem cp_min2 {K : PySem.W.Frag} : CallP K (fun xs H Q => ∃ i j, xs = [.int i, .int j] ∧ Q (.int (if j < i then j else i)) H) fMin2 := fun F H xs ds Q R hs r hf k => by
  unfold fMin2 at hf
  split at hf
  · rename_i i j
    rw [r.int2]
    refine ⟨i, j, rfl, ?_⟩
    rw [show (if j < i then j else i) = min i j by split <;> omega]
    exact k _ _ _ _ (.old (.int _)) hf
  · exact hf.elim
theorem cp_max2 {K : PySem.W.Frag} : CallP K (fun xs H Q => ∃ i j, xs = [.int i, .int j] ∧ Q (.int (if j > i then j else i)) H) fMax2 := fun F H xs ds Q R hs r hf k => by
  unfold fMax2 at hf
  split at hf
  · rename_i i j
    rw [r.int2]
    refine ⟨i, j, rfl, ?_⟩
    rw [show (if j > i then j else i) = max i j by split <;> omega]
    exact k _ _ _ _ (.old (.int _)) hf
  · exact hf.elim
def fBest (g : Int → Int → Int) : FC := fun ds Q => match ds with
  | [.lst xs] => ∃ n ns, xs = (n :: ns).map D.int ∧ Q (.int (ns.foldl g n))
  | [.tup xs] => ∃ n ns, xs = (n :: ns).map D.int ∧ Q (.int (ns.foldl g n))
  | _ => False
theorem cp_best {K : PySem.W.Frag} {g : Int → Int → Int} : CallP K (rBest K g) (fBest g) := fun F H xs ds Q R hs r hf k => by
  unfold fBest at hf
  split at hf
  · obtain ⟨v, rfl, q1⟩ := r.inv1
    obtain ⟨a, vs, rfl, e, q2⟩ := q1.lstInv
    obtain ⟨n, ns, rfl, q⟩ := hf
    have := q2.ints
    subst this
    exact ⟨a, n, ns, rfl, .inl (SqL.of (hs _ _ e)), k _ _ _ _ (.old (.int _)) q⟩
  · obtain ⟨v, rfl, q1⟩ := r.inv1
    obtain ⟨a, vs, rfl, e, q2⟩ := q1.tupInv
    obtain ⟨n, ns, rfl, q⟩ := hf
    have := q2.ints
    subst this
    exact ⟨a, n, ns, rfl, .inr (SqT.of (hs _ _ e)), k _ _ _ _ (.old (.int _)) q⟩
  · exact hf.elim
def fInt1 : FC := fun ds Q => match ds with
  | [.int i] => Q (.int i)
  | [.bl b] => Q (.int (if b = true then 1 else 0))
  | _ => False
theorem cp_int1 {K : PySem.W.Frag} : CallP K (fun xs H Q => (∃ i, xs = [.int i] ∧ Q (.int i) H) ∨ ∃ k, xs = [.bl k] ∧ Q (.int (if k then 1 else 0)) H) fInt1 := fun F H xs ds Q R hs r hf k => by
  unfold fInt1 at hf
  split at hf
  · rw [r.int1]; exact .inl ⟨_, rfl, k _ _ _ _ (.old (.int _)) hf⟩
  · obtain ⟨v, rfl, q1⟩ := r.inv1
    have := q1.blInv
    subst this
    exact .inr ⟨_, rfl, k _ _ _ _ (.old (.int _)) hf⟩
  · exact hf.elim
def fAll : FC := fun ds Q => match ds with | [.lst xs] => ∃ bs : List Bool, xs = bs.map D.bl ∧ Q (.bl (bs.all id)) | _ => False
def fAny : FC := fun ds Q => match ds with | [.lst xs] => ∃ bs : List Bool, xs = bs.map D.bl ∧ Q (.bl (bs.any id)) | _ => False
theorem cp_all {K : PySem.W.Frag} : CallP K (rAll K) fAll := fun F H xs ds Q R hs r hf k => by
  unfold fAll at hf
  split at hf
  · obtain ⟨v, rfl, q1⟩ := r.inv1
    obtain ⟨a, vs, rfl, e, q2⟩ := q1.lstInv
    obtain ⟨bs, rfl, q⟩ := hf
    have := q2.bls
    subst this
    exact ⟨a, bs, rfl, SqL.of (hs _ _ e), k _ _ _ _ (.old (.bl _)) q⟩
  · exact hf.elim
theorem cp_any {K : PySem.W.Frag} : CallP K (rAny K) fAny := fun F H xs ds Q R hs r hf k => by
  unfold fAny at hf
  split at hf
  · obtain ⟨v, rfl, q1⟩ := r.inv1
    obtain ⟨a, vs, rfl, e, q2⟩ := q1.lstInv
    obtain ⟨bs, rfl, q⟩ := hf
    have := q2.bls
    subst this
    exact ⟨a, bs, rfl, SqL.of (hs _ _ e), k _ _ _ _ (.old (.bl _)) q⟩
  · exact hf.elim
def fTup : FC := fun ds Q => match ds with
  | [.lst xs] => Q (.tup xs)
  | [.tup xs] => Q (.tup xs)
  | _ => False
theorem cp_tup {K : PySem.W.Frag} : CallP K (fun xs H Q => ∃ p ys, xs = [.ref p] ∧ ((SqL K H p ys ∧ ∀ l, H l = none → Q (.ref l) (upd H l (.tup ys))) ∨ (SqT K H p ys ∧ Q (.ref p) H))) fTup := fun F H xs ds Q R hs r hf k => by
  unfold fTup at hf
  split at hf
  · obtain ⟨v, rfl, q1⟩ := r.inv1
    obtain ⟨a, vs, rfl, e, q2⟩ := q1.lstInv
    exact ⟨a, vs, rfl, .inl ⟨SqL.of (hs _ _ e), fun l hl => k _ _ _ _ (.new hl (.tup upd_same (q2.mono (same_new (hs.free hl))))) hf⟩⟩
  · obtain ⟨v, rfl, q1⟩ := r.inv1
    obtain ⟨a, vs, rfl, e, q2⟩ := q1.tupInv
    exact ⟨a, vs, rfl, .inr ⟨SqT.of (hs _ _ e), k _ _ _ _ (.old (.tup e q2)) hf⟩⟩
  · exact hf.elim
end
section
variable {X : Cx} {e : Expr} {te : TE} {Te : TEp} {pos : Pos}
def pAppend (i : Nat) (Te : TEp) : TSp := fun P ρ => match ρ[i]? with
  | some (some (.own a _)) => Te ρ fun y ρ1 => ∃ xs1, ρ1[i]? = some (some (.own a xs1)) ∧ xs1.length < sizeLine ∧ P.nx (ρ1.set i (some (.own a (xs1 ++ [y]))))
  | _ => False
theorem pps_append (i : Nat) {x : Str} {p ap cp : Pos} (he : PPE X e te Te) (hN : X.N[i]? = some x := by rfl) (hv : Vis X.env.scope x := by first | exact Or.inl rfl | exact Or.inr (Or.inl rfl) | exact Or.inr (Or.inr rfl)) (hd : (x == ("__debug__" : Str)) = false := by decide)
    (hcd : (x == ("__classdict__" : Str)) = false := by decide)
    (hbase : attributeBase (.Name x p) "append" X.env (eval (.Name x p) X.env) = eval (.Name x p) X.env := by rfl)
    (hfew : ((backTo cp (starEach [e] X.env)).all (fun x => !x.1) && (backToKw cp (keywordEach [] X.env)).all (fun x => x.1.isSome)
      && decide ([e].length + ([] : List Keyword).length + (if ([] : List Keyword).isEmpty then 0 else 1) < 30)) = true := by rfl)
    (hline : (ap.endLine == cp.line) = true := by rfl) (hs : starEach [e] X.env = (false, eval e X.env) :: starEach [] X.env := by rfl)
    (hsw : swapsWith (.Call (.Attribute (.Name x p) "append" ap) [e] [] cp) none pos.line X.env = pure false := by rfl) :
    PPS X (.Expr (.Call (.Attribute (.Name x p) "append" ap) [e] [] cp) pos) (tDrop (tBM X.K "list" rAppend (tVar i) (tCons te tNil))) (pAppend i Te) := ⟨ps_expr (pe_bm PySem.F.plainAttrs_list PySem.F.slot_list_append PySem.F.type_list_append mt_append (pe_var hN hv hd hcd) (pa_cons he.pe pa_nil hs) hbase hfew hline hs rfl) hsw, fun G F H σ ρ P D S hT r => by
  unfold pAppend at hT
  split at hT
  · rename_i a xs e0
    obtain ⟨h1, h2, h3, vs, h4, h5⟩ := S.own i a xs e0
    refine ⟨.ref a, h1, .inl ⟨rfl, _, SqL.of h4⟩, he.snd G F H σ ρ _ _ S hT fun y dy F1 H1 ρ1 u1 S1 r1 q1 => ?_⟩
    obtain ⟨xs1, e1, hz, q⟩ := q1
    obtain ⟨g1, g2, g3, ws, g4, g5⟩ := S1.own i a xs1 e1
    exact ⟨a, ws, y, rfl, rfl, g4, by rw [g5.length]; exact hz, r.nx F1 _ _ _ u1 (S1.mut e1 (g5.append (.one r1))) q⟩
  · exact hT.elim⟩
def pStore (i : Nat) (Ti Te : TEp) : TSp := fun P ρ => Te ρ fun y ρ1 => match ρ1[i]? with
  | some (some (.own a _)) => Ti ρ1 fun k ρ2 => ∃ xs1 n j, ρ2[i]? = some (some (.own a xs1)) ∧ k = .int n ∧ ixN xs1.length n = some j ∧ P.nx (ρ2.set i (some (.own a (xs1.set j y))))
  | _ => False
theorem pps_store (i : Nat) {x : Str} {p sp : Pos} {ix : Expr} {ti : TE} {Ti : TEp} (hi : PPE X ix ti Ti) (he : PPE X e te Te) (hN : X.N[i]? = some x := by rfl) (hv : Vis X.env.scope x := by first | exact Or.inl rfl | exact Or.inr (Or.inl rfl) | exact Or.inr (Or.inr rfl)) (hd : (x == ("__debug__" : Str)) = false := by decide)
    (hcd : (x == ("__classdict__" : Str)) = false := by decide)
    (ha : ∀ v, assign (.Subscript (.Name x p) ix sp) X.env v = (do
      let ov ← holding [v] (eval (.Name x p) X.env)
      let iv ← holding [v, ov] (eval ix X.env)
      standAt sp
      holding [v, ov, iv] (setItem ov iv v)
      release [v, ov, iv] []) := by intro _; rfl)
    (hs : swapsWithSole [.Subscript (.Name x p) ix sp] e pos.line X.env = pure false := by rfl) (hw : swappedStores [.Subscript (.Name x p) ix sp] e X.env = pure none := by rfl)
    (h1 : (assignEach [.Subscript (.Name x p) ix sp] X.env).map (·.2) = [assign (.Subscript (.Name x p) ix sp) X.env] := by rfl) :
    PPS X (.Assign [.Subscript (.Name x p) ix sp] e pos) (tAsg te (gSub (tVar i) ti rSetL)) (pStore i Ti Te) := ⟨ps_asg he.pe (pg_sub (pe_var hN hv hd hcd) hi.pe set_list ha) hs hw h1, fun G F H σ ρ P D S hT r =>
  he.snd G F H σ ρ _ _ S hT fun y dy F1 H1 ρ1 u1 S1 r1 q1 => by
    have q1' : (match ρ1[i]? with
      | some (some (.own a _)) => Ti ρ1 fun k ρ2 => ∃ xs1 n j, ρ2[i]? = some (some (.own a xs1)) ∧ k = .int n ∧ ixN xs1.length n = some j ∧ P.nx (ρ2.set i (some (.own a (xs1.set j dy))))
      | _ => False) := q1
    split at q1'
    · rename_i a xs e0
      obtain ⟨h1, h2, h3, vs, h4, h5⟩ := S1.own i a xs e0
      refine ⟨.ref a, h1, hi.snd G F1 H1 σ ρ1 _ _ S1 q1' fun w dw F2 H2 ρ2 u2 S2 r2 q2 => ?_⟩
      obtain ⟨xs1, n, j, e1, rfl, ej, q⟩ := q2
      obtain ⟨g1, g2, g3, ws, g4, g5⟩ := S2.own i a xs1 e1
      have := r2.intInv
      subst this
      exact ⟨a, ws, n, j, rfl, rfl, g4, by rw [g5.length]; exact ej, r.nx F2 _ _ _ (u1.trans u2) (S2.mut e1 (g5.set (r1.mono u2.ex) j)) q⟩
    · exact q1'.elim⟩
end
end Pl
namespace Pl
open PySem PySem.Spec PyProof.Rows L2
abbrev FA := List D → (Cell → Prop) → Prop
abbrev FB := List D → List D → (Cell → List D → Prop) → Prop
def hide (H : Hp) (a : Addr) : Hp := fun b => if b = a then none else H b
theorem hide_same (H : Hp) (a : Addr) : Same (hide H a) H := fun b o e => by
  unfold hide at e
  by_cases h : b = a
  · rw [if_pos h] at e; cases e
  · rw [if_neg h] at e; exact e
theorem hide_ne {H : Hp} {a b : Addr} (h : b ≠ a) : hide H a b = H b := by unfold hide; rw [if_neg h]
theorem hide_at {H : Hp} {a : Addr} : hide H a a = none := by unfold hide; rw [if_pos rfl]
def spA (K : PySem.W.Frag) (n : Nat) (f : FA) : Sp := fun vs H Q _ => ∃ (F : Hp) (ds : List D) (C : Cell → Prop), vs.length = n ∧ Same F H ∧ Reps K F vs ds ∧ f ds C ∧
  ∀ v c F' H', Up H F F' → SimR K H F' H' [some v] [some c] → C c → Q v H'
def spB (K : PySem.W.Frag) (n : Nat) (f : FB) : Sp := fun vs H Q _ => ∃ (F : Hp) (a : Addr) (us : List V) (xs : List D) (ws : List V) (ds : List D) (C : Cell → List D → Prop), vs = .ref a :: ws ∧ vs.length = n ∧ Same F H ∧ F a = none ∧ H a = some (.lst us) ∧ Reps K F us xs ∧ Reps K F ws ds ∧ f xs ds C ∧
  ∀ v c xs' F' H', Up (hide H a) F F' → SimR K (hide H a) F' H' [some (.ref a), some v] [some (.own a xs'), some c] → C c xs' → Q v H'
theorem get_one {α : Type} {x y : α} {i : Nat} (h : [x][i]? = some y) : i = 0 ∧ x = y := by
  cases i with
  | zero => exact ⟨rfl, Option.some.inj h⟩
  | succ i => simp at h
section
variable [TJ]
theorem Sim.only {K : PySem.W.Frag} {G F H : Hp} {σ : L2.St} {ρ : Ro} {v : V} {c : Cell} (S : Sim K G F H (σ ++ [some v]) (ρ ++ [some c])) : SimR K G F H [some v] [some c] := by
  refine ⟨S.hF, S.hG.same, rfl, fun i d h => ?_, fun i a xs h => ?_, fun i j a xs ys h1 h2 => ?_, fun i s h => ?_, fun i j s t p h1 h2 _ _ => (get_one h1).1.trans (get_one h2).1.symm, fun j a xs h ⟨i, s, e, _⟩ => ?_⟩
  · obtain ⟨rfl, e⟩ := get_one h
    cases e
    exact ⟨v, rfl, S.lastVal⟩
  · obtain ⟨rfl, e⟩ := get_one h
    cases e
    obtain ⟨rfl, h2, h3, h4, h5⟩ := S.lastOwn
    exact ⟨rfl, h2, h3, h5⟩
  · rw [(get_one h1).1, (get_one h2).1]
  · obtain ⟨rfl, e⟩ := get_one h
    cases e
    obtain ⟨rfl, h2, h3, h4⟩ := S.lastBox
    exact ⟨rfl, h2, h3⟩
  · have h1 := (get_one h).2
    have h2 := (get_one e).2
    rw [h1] at h2
    cases h2
theorem Sim.only2 {K : PySem.W.Frag} {G F H : Hp} {σ : L2.St} {ρ : Ro} {v : V} {c : Cell} {a : Addr} {xs : List D} {i : Nat} (S : Sim K G F H (σ ++ [some v]) (ρ ++ [some c])) (e : ρ[i]? = some (some (.own a xs))) : SimR K G F H [some (.ref a), some v] [some (.own a xs), some c] := by
  obtain ⟨h1, h2, h3, vs, h4, h5⟩ := S.drop.own i a xs e
  have hn : ∀ (b : Addr) (ys : List D), c = .own b ys → b ≠ a := fun b ys z w => by
    subst z w
    exact S.lastOwn.2.2.2.1.1 i xs e
  refine ⟨S.hF, S.hG.same, rfl, fun i d h => ?_, fun i b ys h => ?_, fun i j b ys zs q1 q2 => ?_, fun i s h => ?_, fun i j s t p q1 q2 _ _ => ?_, fun j b ys q ⟨k, s, e2, m⟩ => ?_⟩
  · match i, h with
    | 1, h => have e' : c = .val d := Option.some.inj (Option.some.inj h); subst e'; exact ⟨v, rfl, S.lastVal⟩
  · match i, h with
    | 0, h => cases h; exact ⟨rfl, h2, h3, vs, h4, h5⟩
    | 1, h =>
      have e' : c = .own b ys := Option.some.inj (Option.some.inj h)
      subst e'
      obtain ⟨rfl, g2, g3, g4, g5⟩ := S.lastOwn
      exact ⟨rfl, g2, g3, g5⟩
  · match i, j, q1, q2 with
    | 0, 0, _, _ => rfl
    | 1, 1, _, _ => rfl
    | 0, 1, q1, q2 => cases q1; exact absurd rfl (hn _ zs (Option.some.inj (Option.some.inj q2)))
    | 1, 0, q1, q2 => cases q2; exact absurd rfl (hn _ ys (Option.some.inj (Option.some.inj q1)))
  · match i, h with
    | 1, h =>
      have e' : c = .box s := Option.some.inj (Option.some.inj h)
      subst e'
      obtain ⟨rfl, g2, g3, g4⟩ := S.lastBox
      exact ⟨rfl, g2, g3⟩
  · match i, j, q1, q2 with
    | 1, 1, _, _ => rfl
  · match k, e2 with
    | 1, e2 =>
      have e' : c = .box s := Option.some.inj (Option.some.inj e2)
      subst e'
      obtain ⟨rfl, g2, g3, g4⟩ := S.lastBox
      match j, q with
      | 0, q => cases q; exact (g4 a m).1 _ xs e
      | 1, q => cases q
theorem Sim.afterA {K : PySem.W.Frag} {G F H F' H' : Hp} {σ : L2.St} {ρ : Ro} {v : V} {c : Cell} (S : Sim K G F H σ ρ) (u : Up H F F') (S' : SimR K H F' H' [some v] [some c]) : Sim K G F' H' (σ ++ [some v]) (ρ ++ [some c]) := by
  have base : Sim K G F' H' σ ρ := by
    refine ⟨S'.hF, S.hG.up S'.hG u.out, S.len, fun i d h => ?_, fun i a xs h => ?_, S.ne, S.bx.heap u.ex fun p m => let ⟨f, g, o, e⟩ := S.bx.free m; ⟨u.isNone f e, g, (S'.hG _ _ e).trans e.symm⟩⟩
    · obtain ⟨w, h1, h2⟩ := S.val i d h
      exact ⟨w, h1, h2.mono u.ex⟩
    · obtain ⟨h1, h2, h3, vs, h4, h5⟩ := S.own i a xs h
      exact ⟨h1, u.isNone h2 h4, h3, vs, S'.hG _ _ h4, h5.mono u.ex⟩
  cases c with
  | val d =>
    obtain ⟨w, h1, h2⟩ := S'.val 0 d rfl
    cases h1
    exact base.pushVal h2
  | own a xs =>
    obtain ⟨h1, h2, h3, vs, h4, h5⟩ := S'.own 0 a xs rfl
    cases h1
    exact base.pushOwn h4 h2 (S.hG.free h3) (S.notOwn h3) h5
  | box s =>
    obtain ⟨h1, h2, h3⟩ := S'.bx.box 0 s rfl
    cases h1
    exact base.pushBox (fun p m => ⟨(h2 p m).1, S.hG.free (h2 p m).2⟩) h3 fun p m => S.notOwn (h2 p m).2
theorem Sim.afterB {K : PySem.W.Frag} {G F H F' H' : Hp} {σ : L2.St} {ρ : Ro} {v : V} {c : Cell} {i : Nat} {a : Addr} {xs xs' : List D} (S : Sim K G F H σ ρ) (e : ρ[i]? = some (some (.own a xs))) (u : Up (hide H a) F F') (S' : SimR K (hide H a) F' H' [some (.ref a), some v] [some (.own a xs'), some c]) : Sim K G F' H' (σ ++ [some v]) (ρ.set i (some (.own a xs')) ++ [some c]) := by
  obtain ⟨h1, h2, h3, vs, h4, h5⟩ := S.own i a xs e
  have hi := lt_of_get e
  obtain ⟨_, g2, g3, ws, g4, g5⟩ := S'.own 0 a xs' rfl
  have other : ∀ (j : Nat) (b : Addr) (ys : List D), ρ[j]? = some (some (.own b ys)) → j ≠ i → b ≠ a := fun j b ys q hj z => by
    subst z; exact hj (S.ne _ _ _ _ _ q e)
  have far : ∀ (j : Nat) (x : Cell), (ρ.set i (some (.own a xs')))[j]? = some (some x) → (j = i ∧ x = .own a xs') ∨ (j ≠ i ∧ ρ[j]? = some (some x)) := fun j x q => by
    by_cases hj : i = j
    · subst hj; rw [List.getElem?_set_self hi] at q; cases q; exact .inl ⟨rfl, rfl⟩
    · rw [List.getElem?_set_ne hj] at q; exact .inr ⟨fun z => hj z.symm, q⟩
  have base : Sim K G F' H' σ (ρ.set i (some (.own a xs'))) := by
    refine ⟨S'.hF, ⟨fun b o q => ?_, TJ.step S.hG.tj (fun b o q ne => ?_) fun b o q => ?_⟩, by simpa using S.len, fun j d h => ?_, fun j b ys h => ?_, fun j k b ys zs q1 q2 => ?_, S.bx.to u.ex (fun p m => ?_) (fun j s q => ⟨(set_box (by simp) q).1, rfl⟩) fun j b ys q => (set_own q).elim (fun z => by cases z; exact .inl ⟨i, xs, e⟩) fun q => .inl ⟨j, ys, q⟩⟩
    · have n : b ≠ a := fun z => by subst z; rw [h3] at q; cases q
      exact S'.hG b o (by rw [hide_ne n]; exact S.hG b o q)
    · have n : b ≠ a := fun z => by subst z; rw [h4] at q; exact ne ((Option.some.inj q) ▸ trivial)
      exact S'.hG b o (by rw [hide_ne n]; exact q)
    · rcases u.out b o q with z | z
      · exact .inl z
      · by_cases n : b = a
        · subst n; exact .inr (.inr ⟨_, h4, trivial⟩)
        · rw [hide_ne n] at z; exact .inr (.inl z)
    · rcases far j _ h with ⟨_, z⟩ | ⟨_, h⟩
      · cases z
      · obtain ⟨w, k1, k2⟩ := S.val j d h
        exact ⟨w, k1, k2.mono u.ex⟩
    · rcases far j _ h with ⟨rfl, z⟩ | ⟨hj, h⟩
      · cases z; exact ⟨h1, g2, h3, ws, g4, g5⟩
      · obtain ⟨k1, k2, k3, us, k4, k5⟩ := S.own j b ys h
        have n := other j b ys h hj
        have k4' : hide H a b = some (.lst us) := by rw [hide_ne n]; exact k4
        exact ⟨k1, u.isNone k2 k4', k3, us, S'.hG _ _ k4', k5.mono u.ex⟩
    · rcases far j _ q1 with ⟨f1, z1⟩ | ⟨hj, p1⟩
      · rcases far k _ q2 with ⟨f2, _⟩ | ⟨hk, p2⟩
        · rw [f1, f2]
        · cases z1; exact absurd rfl (other k _ zs p2 hk)
      · rcases far k _ q2 with ⟨f2, z2⟩ | ⟨hk, p2⟩
        · cases z2; exact absurd rfl (other j _ ys p1 hj)
        · exact S.ne _ _ _ _ _ p1 p2
    · obtain ⟨f, g, o, e'⟩ := S.bx.free m
      have e2 : hide H a p = some o := by rw [hide_ne (S.bx.apart m e)]; exact e'
      exact ⟨u.isNone f e2, g, (S'.hG _ _ e2).trans e'.symm⟩
  cases c with
  | val d =>
    obtain ⟨w, k1, k2⟩ := S'.val 1 d rfl
    cases k1
    exact base.pushVal k2
  | own b ys =>
    obtain ⟨k1, k2, k3, us, k4, k5⟩ := S'.own 1 b ys rfl
    cases k1
    have n : b ≠ a := fun z => by subst z; exact absurd (S'.ne 0 1 b xs' ys rfl rfl) (by decide)
    have hb : H b = none := (hide_ne (H := H) n).symm.trans k3
    refine base.pushOwn k4 k2 (S.hG.free hb) ⟨fun j zs q => ?_, fun m => (S.notOwn hb).2 (set_inbox (by simp) m)⟩ k5
    rcases far j _ q with ⟨_, z⟩ | ⟨_, q⟩
    · cases z; exact n rfl
    · obtain ⟨_, _, _, vs', h4', _⟩ := S.own j b zs q
      rw [hb] at h4'; cases h4'
  | box s =>
    obtain ⟨k1, k2, k3⟩ := S'.bx.box 1 s rfl
    cases k1
    have hb : ∀ p ∈ s.foot, H p = none := fun p m => by
      have n : p ≠ a := fun z => by subst z; exact S'.bx.bo 0 p xs' rfl ⟨1, s, rfl, m⟩
      exact (hide_ne (H := H) n).symm.trans (k2 p m).2
    refine base.pushBox (fun p m => ⟨(k2 p m).1, S.hG.free (hb p m)⟩) k3 fun p m => ⟨fun j zs q => ?_, fun z => (S.notOwn (hb p m)).2 (set_inbox (by simp) z)⟩
    rcases far j _ q with ⟨_, z⟩ | ⟨_, q⟩
    · cases z; rw [hb _ m] at h4; cases h4
    · exact (S.notOwn (hb p m)).1 j zs q
end
section
variable [TJ] {X : Cx} {k : Nat} {f : Addr} {fd : FuncData} {ps : List Str} {x : Str} {p pos : Pos} {e : Expr} {es : List Expr} {t : TA} {T : TAp} {n : Nat}
def pCallA (n : Nat) (g : FA) (T : TAp) : TCp := fun ρ Q => T ρ fun ds ρ1 => ds.length = n ∧ g ds fun c => Q c ρ1
theorem ppc_callA {g : FA} (Fn : FnOk X.prog X.w X.K X.mg X.base CX0 k f fd ps (spA X.K n g)) (hr : Room k X.A) (hg : Gl X x) (hm : X.mg x = some (.ref f)) (hk : PySem.W.keepIn X.K (.ref f) = true) (hb : Binds X.K fd ps []) (ha : PPA X (e :: es) t T)
    (hdb : (x == ("__debug__" : Str)) = false := by decide) (he : starEach (e :: es) X.env = (false, eval e X.env) :: starEach es X.env := by rfl) (hpl : (backTo pos (starEach es X.env)).any (·.1) = false := by rfl) :
    PPC X (.Call (.Name x p) (e :: es) [] pos) (tCall (spA X.K n g) [] (fun _ _ _ => False) t) (pCallA n g T) := ⟨pe_call Fn hr hg hm hk hb .nil pass0 ha.pa hdb he hpl, fun G F H σ ρ Q R S hT k =>
  ha.snd G F H σ ρ _ _ S hT fun vs ds F1 H1 ρ1 u1 S1 r1 h1 => by
    show spA X.K n g (vs ++ []) H1 R _
    rw [List.append_nil]
    exact ⟨F1, ds, _, by rw [r1.length]; exact h1.1, S1.hF, r1, h1.2, fun v c F' H' u S' q => k v c F' H' ρ1 (u1.trans (u.less S1.hG)) (S1.afterA u S') q⟩⟩
def pCallB (i n : Nat) (g : FB) (T : TAp) : TCp := fun ρ Q => match ρ[i]? with
  | some (some (.own a _)) => T ρ fun ds ρ1 => ∃ xs1, ρ1[i]? = some (some (.own a xs1)) ∧ ds.length + 1 = n ∧ g xs1 ds fun c xs2 => Q c (ρ1.set i (some (.own a xs2)))
  | _ => False
theorem ppc_callB (i : Nat) {y : Str} {py : Pos} {g : FB} (Fn : FnOk X.prog X.w X.K X.mg X.base CX0 k f fd ps (spB X.K n g)) (hr : Room k X.A) (hg : Gl X x) (hm : X.mg x = some (.ref f)) (hk : PySem.W.keepIn X.K (.ref f) = true) (hb : Binds X.K fd ps []) (ha : PPA X es t T)
    (hN : X.N[i]? = some y := by rfl) (hv : Vis X.env.scope y := by first | exact Or.inl rfl | exact Or.inr (Or.inl rfl) | exact Or.inr (Or.inr rfl)) (hd : (y == ("__debug__" : Str)) = false := by decide) (hcd : (y == ("__classdict__" : Str)) = false := by decide)
    (hdb : (x == ("__debug__" : Str)) = false := by decide) (he : starEach (.Name y py :: es) X.env = (false, eval (.Name y py) X.env) :: starEach es X.env := by rfl) (hpl : (backTo pos (starEach es X.env)).any (·.1) = false := by rfl) :
    PPC X (.Call (.Name x p) (.Name y py :: es) [] pos) (tCall (spB X.K n g) [] (fun _ _ _ => False) (tCons (tVar i) t)) (pCallB i n g T) := ⟨pe_call Fn hr hg hm hk hb .nil pass0 (pa_cons (pe_var hN hv hd hcd) ha.pa he) hdb he hpl, fun G F H σ ρ Q R S hT k => by
  unfold pCallB at hT
  split at hT
  · rename_i a xs e0
    refine ⟨.ref a, (S.own i a xs e0).1, ha.snd G F H σ ρ _ _ S hT fun vs ds F1 H1 ρ1 u1 S1 r1 h1 => ?_⟩
    obtain ⟨xs1, e1, hn, q1⟩ := h1
    obtain ⟨h1, h2, h3, us, h4, h5⟩ := S1.own i a xs1 e1
    show spB X.K n g ((.ref a :: vs) ++ []) H1 R _
    rw [List.append_nil]
    refine ⟨F1, a, us, xs1, vs, ds, _, rfl, by rw [List.length_cons, r1.length]; exact hn, S1.hF, h2, h4, h5, r1, q1, fun v c xs' F' H' u S' q => ?_⟩
    have hGh : Same G (hide H1 a) := fun b o qq => by
      have nb : b ≠ a := fun z => by rw [z, h3] at qq; cases qq
      rw [hide_ne nb]; exact S1.hG b o qq
    exact k v c F' H' _ (u1.trans (u.less hGh)) (S1.afterB e1 u S') q
  · exact hT.elim⟩
end
section
variable {P : Program} {w : World} {K : PySem.W.Frag} {mg : Str → Option Value} {base : Heap} {x qual : Str} {st : Stmt} {f : Addr} {fd : FuncData} {N ps : List Str} {k : Nat}
def startA (N : List Str) (ds : List D) : Ro := ds.map (fun d => some (.val d)) ++ List.replicate (N.length - ds.length) none
def startB (N : List Str) (a : Addr) (xs : List D) (ds : List D) : Ro := some (.own a xs) :: (ds.map (fun d => some (.val d)) ++ List.replicate (N.length - (ds.length + 1)) none)
theorem sim_vals [TJ] {K : PySem.W.Frag} {G F H : Hp} (hF : Same F H) (hG : SameJ G F H) {vs : List V} {ds : List D} (r : Reps K F vs ds) (m : Nat) : Sim K G F H (vs.map some ++ List.replicate m none) (ds.map (fun d => some (.val d)) ++ List.replicate m none) := by
  have key : ∀ (i : Nat) (c : Cell), (ds.map (fun d => some (Cell.val d)) ++ List.replicate m none)[i]? = some (some c) → ∃ d, c = .val d ∧ ds[i]? = some d := fun i c h => by
    rcases Nat.lt_or_ge i ds.length with q | q
    · rw [List.getElem?_append_left (by simpa using q), List.getElem?_map, List.getElem?_eq_getElem q] at h
      exact ⟨ds[i], (Option.some.inj (Option.some.inj h)).symm, List.getElem?_eq_getElem q⟩
    · rw [List.getElem?_append_right (by simpa using q), List.getElem?_replicate] at h
      split at h <;> cases h
  refine ⟨hF, hG, by simp [r.length], fun i d h => ?_, fun i a xs h => ?_, fun i j a xs ys h1 h2 => ?_, .nil fun i s h => by obtain ⟨d, e, _⟩ := key i _ h; cases e⟩
  · obtain ⟨d', e, hd⟩ := key i _ h
    cases e
    obtain ⟨v, hv, rv⟩ := r.get hd
    refine ⟨v, ?_, rv⟩
    have q : i < vs.length := lt_of_get hv
    rw [List.getElem?_append_left (by simpa using q), List.getElem?_map, hv]
    rfl
  · obtain ⟨d', e, _⟩ := key i _ h
    cases e
  · obtain ⟨d', e, _⟩ := key i _ h1
    cases e
theorem Sim.cons_own [TJ] {K : PySem.W.Frag} {G F H : Hp} {σ : L2.St} {ρ : Ro} (S : Sim K G F H σ ρ) {a : Addr} {vs : List V} {xs : List D} (hH : H a = some (.lst vs)) (hF : F a = none) (hG : G a = none) (hn : NotOwn ρ a) (r : Reps K F vs xs) :
    Sim K G F H (some (.ref a) :: σ) (some (.own a xs) :: ρ) := by
  refine ⟨S.hF, S.hG, by simp [S.len], fun i d h => ?_, fun i b ys h => ?_, fun i j b ys zs h1 h2 => ?_, fun i s h => ?_, fun i j s t p h1 h2 m1 m2 => ?_, fun j b ys h ⟨k, s, e, m⟩ => ?_⟩
  · cases i with
    | zero => cases h
    | succ i => exact S.val i d h
  · cases i with
    | zero => cases h; exact ⟨rfl, hF, hG, vs, hH, r⟩
    | succ i => exact S.own i b ys h
  · cases i with
    | zero =>
      cases j with
      | zero => rfl
      | succ j => cases h1; exact absurd h2 (hn.1 j zs)
    | succ i =>
      cases j with
      | zero => cases h2; exact absurd h1 (hn.1 i ys)
      | succ j => rw [S.ne i j b ys zs h1 h2]
  · cases i with
    | zero => cases h
    | succ i => exact S.bx.box i s h
  · cases i with
    | zero => cases h1
    | succ i =>
      cases j with
      | zero => cases h2
      | succ j => rw [S.bx.bb i j s t p h1 h2 m1 m2]
  · cases k with
    | zero => cases e
    | succ k =>
      cases j with
      | zero => cases h; exact hn.2 ⟨k, s, e, m⟩
      | succ j => exact S.bx.bo j b ys h ⟨k, s, e, m⟩
theorem vals_box {ds : List D} {m i : Nat} {s : Sh} : (ds.map (fun d => some (Cell.val d)) ++ List.replicate m none)[i]? ≠ some (some (.box s)) := fun h => by
  rcases Nat.lt_or_ge i ds.length with q | q
  · rw [List.getElem?_append_left (by simpa using q), List.getElem?_map, List.getElem?_eq_getElem q] at h
    cases h
  · rw [List.getElem?_append_right (by simpa using q), List.getElem?_replicate] at h
    split at h <;> cases h
theorem notOwn_vals {ds : List D} {m : Nat} {a : Addr} : NotOwn (ds.map (fun d => some (Cell.val d)) ++ List.replicate m none) a := ⟨fun i xs h => (by
  rcases Nat.lt_or_ge i ds.length with q | q
  · rw [List.getElem?_append_left (by simpa using q), List.getElem?_map, List.getElem?_eq_getElem q] at h
    cases h
  · rw [List.getElem?_append_right (by simpa using q), List.getElem?_replicate] at h
    split at h <;> cases h), fun ⟨i, s, e, _⟩ => vals_box e⟩
theorem okA {g : FA} {T : TSp} (Fn : Fun K x qual st f fd) (S : FnScope N ps (defScope st))
    (hb : ∀ (cdv : Value) (A : Around) (outer : List Env) (s : Shared) (H : Hp) (E : XK), Room k (A.deeper (envOfC qual (defScope st) s.heap.objs.size f cdv)) → ∃ t, PPSs (cxOf CX0 P w K mg base N qual (defScope st) f cdv A outer s H E).nox (defBody st) t T)
    (hT : ∀ ds C, ds.length = ps.length → g ds C → T { nx := fun _ => C (.val .non), rt := fun c _ => C c } (startA N ds)) : FnOk P w K mg base CX0 (k + 1) f fd ps (spA K ps.length g) := by
  refine Fn.ok S (fun vs H Q E h => ?_) (fun cdv A outer s H vs Q E hr h => ?_)
  · obtain ⟨F, ds, C, hl, _⟩ := h
    exact hl
  · obtain ⟨F, ds, C, hl, hF, r, hg, hQ⟩ := h
    obtain ⟨t, ht⟩ := hb cdv A outer s H E hr
    refine ⟨t, ht.ps, ?_⟩
    have S0 : Sim K H F H (L2.start N vs) (startA N ds) := by
      unfold L2.start startA
      rw [r.length]
      exact sim_vals hF (.rfl' F H) r _
    refine ht.snd H F H _ _ _ _ S0 (hT ds C (by rw [← r.length]; exact hl) hg) ⟨fun F' H' σ' ρ' u S' q => ?_, fun F' H' σ' ρ' v c u S' q => hQ v c F' H' u S'.only q, fun _ _ _ _ _ _ q => q, fun _ _ _ _ _ _ q => q⟩
    exact hQ .non (.val .non) F' H' u ((S'.pushVal .non).only) q
theorem okB {g : FB} {T : TSp} (Fn : Fun K x qual st f fd) (S : FnScope N ps (defScope st))
    (hb : ∀ (cdv : Value) (A : Around) (outer : List Env) (s : Shared) (H : Hp) (E : XK), Room k (A.deeper (envOfC qual (defScope st) s.heap.objs.size f cdv)) → ∃ t, PPSs (cxOf CX0 P w K mg base N qual (defScope st) f cdv A outer s H E).nox (defBody st) t T)
    (hT : ∀ a xs ds C, ds.length + 1 = ps.length → g xs ds C → T { nx := fun ρ => ∃ ys, ρ[0]? = some (some (.own a ys)) ∧ C (.val .non) ys, rt := fun c ρ => ∃ ys, ρ[0]? = some (some (.own a ys)) ∧ C c ys } (startB N a xs ds)) : FnOk P w K mg base CX0 (k + 1) f fd ps (spB K ps.length g) := by
  refine Fn.ok S (fun vs H Q E h => ?_) (fun cdv A outer s H vs Q E hr h => ?_)
  · obtain ⟨F, a, us, xs, ws, ds, C, _, hl, _⟩ := h
    exact hl
  · obtain ⟨F, a, us, xs, ws, ds, C, rfl, hl, hF, hFa, hHa, r1, r2, hg, hQ⟩ := h
    obtain ⟨t, ht⟩ := hb cdv A outer s H E hr
    refine ⟨t, ht.ps, ?_⟩
    have S0 : Sim K (hide H a) F H (L2.start N (.ref a :: ws)) (startB N a xs ds) := by
      unfold L2.start startB
      rw [List.length_cons, r2.length]
      exact (sim_vals hF (.of (hide_same H a)) r2 _).cons_own hHa hFa hide_at notOwn_vals r1
    refine ht.snd (hide H a) F H _ _ _ _ S0 (hT a xs ds C (by rw [← r2.length]; exact hl) hg) ⟨fun F' H' σ' ρ' u S' q => ?_, fun F' H' σ' ρ' v c u S' q => ?_, fun _ _ _ _ _ _ q => q, fun _ _ _ _ _ _ q => q⟩
    · obtain ⟨ys, e, q⟩ := q
      exact hQ .non (.val .non) ys F' H' u ((S'.pushVal .non).only2 e) q
    · obtain ⟨ys, e, q⟩ := q
      exact hQ v c ys F' H' u (S'.only2 e) q
end
end Pl
namespace Pl
open PySem PySem.Spec PyProof.Rows L2
variable [TJ]
def liftE (K : PySem.W.Frag) (T : TEp) : TE := fun σ H R => ∃ (G F : Hp) (ρ : Ro) (Q : D → Ro → Prop), Sim K G F H σ ρ ∧ T ρ Q ∧ ∀ v d F' H' ρ', Up G F F' → Sim K G F' H' σ ρ' → Rep K F' v d → Q d ρ' → R v H'
def liftT (K : PySem.W.Frag) (T : TTp) : TT := fun σ H R => ∃ (G F : Hp) (ρ : Ro) (Q : Bool → Ro → Prop), Sim K G F H σ ρ ∧ T ρ Q ∧ ∀ b F' H' ρ', Up G F F' → Sim K G F' H' σ ρ' → Q b ρ' → R b H'
def liftG (K : PySem.W.Frag) (T : TGp) (is : List Nat) : TG := fun v σ H R => ∃ (G F : Hp) (ρ : Ro) (Q : Ro → Prop) (d : D), Sim K G F H σ ρ ∧ Rep K F v d ∧ T d ρ Q ∧ ∀ F' H' σ' ρ', Up G F F' → Sim K G F' H' σ' ρ' → (∀ j, j ∉ is → σ'[j]? = σ[j]?) → σ'.length = σ.length → Q ρ' → R σ' H'
section
variable {X : Cx}
theorem PPE.lift {e : Expr} {t : TE} {T : TEp} (h : PPE X e t T) : PPE X e (liftE X.K T) T :=
  ⟨⟨fun pins s σ H Q I ⟨G, F, ρ, Q', S, hT, k⟩ => h.pe.run pins s σ H Q I (h.snd G F H σ ρ Q' Q S hT k)⟩, fun G F H σ ρ Q R S hT k => ⟨G, F, ρ, Q, S, hT, k⟩⟩
theorem PPTs.lift {es : List Expr} {t : TT} {T : TTp} (h : PPTs X es t T) : PPTs X es (liftT X.K T) T :=
  ⟨⟨fun pins s σ H Q I ⟨G, F, ρ, Q', S, hT, k⟩ => h.pt.run pins s σ H Q I (h.snd G F H σ ρ Q' Q S hT k)⟩, fun G F H σ ρ Q R S hT k => ⟨G, F, ρ, Q, S, hT, k⟩⟩
theorem PTg.lift {tg : Expr} {g : TG} {T : TGp} {is : List Nat} (h : PTg X tg g T is) : PTg X tg (liftG X.K T is) T is :=
  ⟨⟨fun pins s σ H v u Q I r ⟨G, F, ρ, Q', d, S, rd, hT, k⟩ => h.pg.run pins s σ H v u Q I r (h.snd G F H σ ρ Q' Q v d S rd hT k)⟩, fun G F H σ ρ Q R v d S r hT k => ⟨G, F, ρ, Q, d, S, r, hT, k⟩⟩
end
section
variable {X : Cx} {elt tg iter : Expr} {ifs : List Expr} {scope : Scope} {own : List (Str × Nat)} {pos : Pos} {wi : TI} {Ti : TAp} {Gp : TGp} {is : List Nat} {Tt : TTp} {Te : TEp} {vs : List Nat}
theorem ppc_lcL (hc : X.calm = true) (hN : X.N.Nodup) (hi : PPI X tg iter wi Ti) (ok : BlkOk X.N X.env.scope scope own)
    (hg : ∀ (s : Shared) (H : Hp) (C : Addr) (cl : List (Str × Addr)) (fp : List Addr), PTg (X.blk s H scope (compEnvC scope cl C X.env) fp) tg (liftG X.K Gp is) Gp is) (ht : ∀ (s : Shared) (H : Hp) (C : Addr) (cl : List (Str × Addr)) (fp : List Addr), PPTs (X.blk s H scope (compEnvC scope cl C X.env) fp) ifs (liftT X.K Tt) Tt)
    (he : ∀ (s : Shared) (H : Hp) (C : Addr) (cl : List (Str × Addr)) (fp : List Addr), PPE (X.blk s H scope (compEnvC scope cl C X.env) fp) elt (liftE X.K Te) Te) (hs : ∀ x, foldedSetIterable iter X.env x = pure x := by intro _; rfl) (hsub : ∀ i ∈ is, i ∈ own.map (·.2) := by decide) :
    PPC X (.ListComp elt [⟨tg, iter, ifs, 0⟩] scope pos) (tLc wi (liftG X.K Gp is) (liftT X.K Tt) (liftE X.K Te) (own.map (·.2))) (pLcO Ti Gp Tt Te (own.map (·.2))) := ppc_lc hc hN hi ok hg ht he hs hsub
theorem ppe_lcL (hc : X.calm = true) (hN : X.N.Nodup) (hi : PPI X tg iter wi Ti) (ok : BlkOk X.N X.env.scope scope own)
    (hg : ∀ (s : Shared) (H : Hp) (C : Addr) (cl : List (Str × Addr)) (fp : List Addr), PTg (X.blk s H scope (compEnvC scope cl C X.env) fp) tg (liftG X.K Gp is) Gp is) (ht : ∀ (s : Shared) (H : Hp) (C : Addr) (cl : List (Str × Addr)) (fp : List Addr), PPTs (X.blk s H scope (compEnvC scope cl C X.env) fp) ifs (liftT X.K Tt) Tt)
    (he : ∀ (s : Shared) (H : Hp) (C : Addr) (cl : List (Str × Addr)) (fp : List Addr), PPE (X.blk s H scope (compEnvC scope cl C X.env) fp) elt (liftE X.K Te) Te) (hs : ∀ x, foldedSetIterable iter X.env x = pure x := by intro _; rfl) (hsub : ∀ i ∈ is, i ∈ own.map (·.2) := by decide) :
    PPE X (.ListComp elt [⟨tg, iter, ifs, 0⟩] scope pos) (tLc wi (liftG X.K Gp is) (liftT X.K Tt) (liftE X.K Te) (own.map (·.2))) (pLc Ti Gp Tt Te (own.map (·.2))) := ppe_lc hc hN hi ok hg ht he hs hsub
theorem pps_setLcL {i : Nat} {y : Str} {py spos : Pos} (hc : X.calm = true) (hN : X.N.Nodup) (hi : PPI X tg iter wi Ti) (ok : BlkOk X.N X.env.scope scope own)
    (hg : ∀ (s : Shared) (H : Hp) (C : Addr) (cl : List (Str × Addr)) (fp : List Addr), PTg (X.blk s H scope (compEnvC scope cl C X.env) fp) tg (liftG X.K Gp is) Gp is) (ht : ∀ (s : Shared) (H : Hp) (C : Addr) (cl : List (Str × Addr)) (fp : List Addr), PPTs (X.blk s H scope (compEnvC scope cl C X.env) fp) ifs (liftT X.K Tt) Tt)
    (he : ∀ (s : Shared) (H : Hp) (C : Addr) (cl : List (Str × Addr)) (fp : List Addr), PPE (X.blk s H scope (compEnvC scope cl C X.env) fp) elt (liftE X.K Te) Te)
    (hy : X.N[i]? = some y := by rfl) (hyl : X.env.scope.names.lookup y = some .local := by rfl)
    (hsw : swapsWith (.ListComp elt [⟨tg, iter, ifs, 0⟩] scope pos) (some (.Name y py)) spos.line X.env = pure true := by exact sw_true rfl rfl rfl (by decide +kernel)) (hs : ∀ x, foldedSetIterable iter X.env x = pure x := by intro _; rfl) (hsub : ∀ i ∈ is, i ∈ own.map (·.2) := by decide) :
    PPS X (.Assign [.Name y py] (.ListComp elt [⟨tg, iter, ifs, 0⟩] scope pos) spos) (tAsg (tLc wi (liftG X.K Gp is) (liftT X.K Tt) (liftE X.K Te) (own.map (·.2))) (gName i)) (pSet i (pLcO Ti Gp Tt Te (own.map (·.2)))) := pps_setLc hc hN hi ok hg ht he hy hyl hsw hs hsub
end
theorem hu64 {k : Nat} {A : Around} (hr : Room k A) : A.units + 64 < cLine := by have := hr.un; omega
end Pl
namespace Pl
open PySem PySem.Spec PyProof.Rows L2
theorem ifB {b : Bool} {A B : Prop} (h1 : b = true → A) (h2 : b = false → B) : if b = true then A else B := by
  cases b with
  | true => exact ite_ti (h1 rfl)
  | false => exact ite_fi (h2 rfl)
theorem ifT {b : Bool} {A B : Prop} (h : b = true) (h1 : A) : if b = true then A else B := by subst h; exact ite_ti h1
theorem ifF {b : Bool} {A B : Prop} (h : b = false) (h1 : B) : if b = true then A else B := by subst h; exact ite_fi h1
theorem dT {p : Prop} [Decidable p] (h : decide p = true) : p := of_decide_eq_true h
theorem dF {p : Prop} [Decidable p] (h : decide p = false) : ¬ p := of_decide_eq_false h
theorem sl1000 {n : Nat} (h : n ≤ 1000) : n ≤ sizeLine := Nat.le_of_lt (small1000 h)
theorem for_inv {g : TGp} {tb : TSp} {P : PEnds} (I : List D → Ro → Prop) (hs : ∀ (d : D) (r : List D) (ρ : Ro) (K : Ro → Prop), (∀ ρ', I r ρ' → K ρ') → I (d :: r) ρ → g d ρ fun ρ1 => tb { P with nx := K, ct := K, bk := P.nx } ρ1)
    (he : ∀ ρ, I [] ρ → P.nx ρ) : ∀ (ds : List D) (ρ : Ro), I ds ρ → forW g tb P ds ρ
  | [], ρ, h => he ρ h
  | d :: ds, ρ, h => hs d ds ρ _ (fun ρ' h' => for_inv I hs he ds ρ' h') h
def ElemOk (vs : List Nat) (g : TGp) (te : TEp) (ρ : Ro) (d y : D) : Prop := ∀ K : D → Ro → Prop, (∀ ρ4, restore ρ ρ4 vs = ρ → K y ρ4) → g d (wipeP ρ vs) fun ρ2 => te ρ2 K
theorem lcW_map {vs : List Nat} {g : TGp} {te : TEp} {Q : List D → Ro → Prop} {f : D → D} {ρ : Ro} : ∀ (ds acc : List D), (∀ d ∈ ds, ElemOk vs g te ρ d (f d)) → acc.length + ds.length ≤ 1000 → Q (acc ++ ds.map f) ρ → lcW vs g pYes te Q ds acc ρ
  | [], acc, _, _, hQ => by
    have hQ : Q (acc ++ []) ρ := hQ
    rw [List.append_nil] at hQ
    exact hQ
  | d :: ds, acc, h, hl, hQ => by
    have hl' : acc.length + (ds.length + 1) ≤ 1000 := hl
    refine h d (by simp) _ fun ρ4 e => ⟨small1000 (by omega), ?_⟩
    rw [e]
    refine lcW_map ds _ (fun x hx => h x (by simp [hx])) (by rw [List.length_append]; show acc.length + 1 + ds.length ≤ 1000; omega) ?_
    rw [List.append_assoc]
    exact hQ
abbrev dI (ns : List Int) : List D := ns.map D.int
theorem ints_len (ns : List Int) : (dI ns).length = ns.length := by simp
theorem lcW_ints {vs : List Nat} {g : TGp} {te : TEp} {Q : List D → Ro → Prop} {h : Int → D} {ρ : Ro} {ns : List Int} (hs : ∀ x ∈ ns, ElemOk vs g te ρ (.int x) (h x)) (hl : ns.length ≤ 1000) (hQ : Q (ns.map h) ρ) : lcW vs g pYes te Q (dI ns) [] ρ := by
  refine lcW_map (f := fun d => match d with | .int x => h x | _ => .non) (dI ns) [] (fun d hd => ?_) (by simpa using hl) ?_
  · obtain ⟨x, hx, rfl⟩ := List.mem_map.mp hd
    exact hs x hx
  · rw [List.nil_append, List.map_map]
    exact hQ
theorem zipD_ints : ∀ (a b : List Int), zipD (dI a) (dI b) = List.zipWith (fun x y => .tup [.int x, .int y]) a b
  | [], _ => rfl
  | _ :: _, [] => rfl
  | x :: a, y :: b => by
    show D.tup [.int x, .int y] :: zipD (dI a) (dI b) = _
    rw [zipD_ints a b]; rfl
theorem mem_zipWith {α β γ : Type} {f : α → β → γ} : ∀ {a : List α} {b : List β} {z : γ}, z ∈ List.zipWith f a b → ∃ x y, x ∈ a ∧ y ∈ b ∧ z = f x y
  | [], _, _, h => by simp at h
  | _ :: _, [], _, h => by simp at h
  | x :: a, y :: b, z, h => by
    rw [List.zipWith_cons_cons] at h
    rcases List.mem_cons.mp h with e | h
    · exact ⟨x, y, by simp, by simp, e⟩
    · obtain ⟨u, v, hu, hv, e⟩ := mem_zipWith h
      exact ⟨u, v, by simp [hu], by simp [hv], e⟩
theorem lcW_z2 {vs : List Nat} {g : TGp} {te : TEp} {Q : List D → Ro → Prop} {h : Int → Int → D} {ρ : Ro} {a b : List Int} (hs : ∀ x ∈ a, ∀ y ∈ b, ElemOk vs g te ρ (.tup [.int x, .int y]) (h x y)) (hl : a.length ≤ 1000) (hQ : Q (List.zipWith h a b) ρ) : lcW vs g pYes te Q (zipD (dI a) (dI b)) [] ρ := by
  rw [zipD_ints]
  refine lcW_map (f := fun d => match d with | .tup [.int x, .int y] => h x y | _ => .non) _ [] (fun d hd => ?_) ?_ ?_
  · obtain ⟨x, y, hx, hy, rfl⟩ := mem_zipWith hd
    exact hs x hx y hy
  · simp; omega
  · rw [List.nil_append, List.map_zipWith]
    exact hQ
def zip3 {α : Type} (h : Int → Int → Int → α) : List Int → List Int → List Int → List α
  | x :: a, y :: b, z :: c => h x y z :: zip3 h a b c
  | _, _, _ => []
def Sq (d : D) (ns : List Int) : Prop := d = .tup (dI ns) ∨ d = .lst (dI ns)
theorem cutD_from1 (xs : List D) : cutD xs (some 1) none = xs.drop 1 := by
  unfold cutD
  rw [show HT.sIx xs.length 0 (some 1) = min 1 xs.length from HT.sIx_nat xs.length 0 1, HT.sIx_none]
  cases xs with
  | nil => rfl
  | cons x r =>
    rw [show min 1 (x :: r).length = 1 by rw [List.length_cons]; omega]
    show (List.take ((x :: r).length - 1) r) = r
    rw [List.length_cons, Nat.add_sub_cancel]
    exact List.take_length
theorem atI_zero {α : Type} (x : α) (r : List α) : atI (x :: r) 0 = some x := atI_nat (j := 0) rfl
end Pl
namespace Pl
open PySem PySem.Spec PyProof.Rows L2
theorem fnNoneB {P : Program} {w : World} {K : PySem.W.Frag} {mg : Str → Option Value} {base : Heap} {k n : Nat} {x qual : Str} {st : Stmt} {f : Addr} {fd : FuncData} {ps : List Str} (_ : Fun K x qual st f fd) : FnOk P w K mg base CX0 k f fd ps (spB K n fun _ _ _ => False) :=
  ⟨fun _ _ _ _ ⟨_, _, _, _, _, _, _, _, _, _, _, _, _, _, h, _⟩ => h.elim, fun _ _ _ _ _ _ _ _ _ _ _ _ _ ⟨_, _, _, _, _, _, _, _, _, _, _, _, _, _, h, _⟩ => h.elim⟩
theorem fnNoneA {P : Program} {w : World} {K : PySem.W.Frag} {mg : Str → Option Value} {base : Heap} {k n : Nat} {x qual : Str} {st : Stmt} {f : Addr} {fd : FuncData} {ps : List Str} (_ : Fun K x qual st f fd) : FnOk P w K mg base CX0 k f fd ps (spA K n fun _ _ => False) :=
  ⟨fun _ _ _ _ ⟨_, _, _, _, _, _, h, _⟩ => h.elim, fun _ _ _ _ _ _ _ _ _ _ _ _ _ ⟨_, _, _, _, _, _, h, _⟩ => h.elim⟩
end Pl
namespace Pl
open PySem PySem.Spec PyProof.Rows L2
variable [TJ]
def tyN : D → String
  | .non => "NoneType"
  | .bl _ => "bool"
  | .int _ => "int"
  | .str _ => "str"
  | .lst _ => "list"
  | .tup _ => "tuple"
  | .scr _ => "list"
  | .adr _ => "list"
  | .exc _ _ => "object"
def D.isInt : D → Bool
  | .int _ => true
  | .bl _ => true
  | _ => false
def D.isBl : D → Bool
  | .bl _ => true
  | _ => false
def D.isStr : D → Bool
  | .str _ => true
  | _ => false
def D.isLst : D → Bool
  | .lst _ => true
  | .scr _ => true
  | .adr _ => true
  | _ => false
def D.isTup : D → Bool
  | .tup _ => true
  | _ => false
structure IsT (n : String) (p : D → Bool) : Prop where
  kit : ∀ d, kitB (tyN d) n = some (p d)
  boot : bootBuiltins (Str.ofString n) = some (.type n)
theorem isT_int : IsT "int" D.isInt := ⟨fun d => by cases d <;> with_unfolding_all rfl, by decide +kernel⟩
theorem isT_bool : IsT "bool" D.isBl := ⟨fun d => by cases d <;> with_unfolding_all rfl, by decide +kernel⟩
theorem isT_str : IsT "str" D.isStr := ⟨fun d => by cases d <;> with_unfolding_all rfl, by decide +kernel⟩
theorem isT_list : IsT "list" D.isLst := ⟨fun d => by cases d <;> with_unfolding_all rfl, by decide +kernel⟩
theorem isT_tuple : IsT "tuple" D.isTup := ⟨fun d => by cases d <;> with_unfolding_all rfl, by decide +kernel⟩
theorem Rep.ty {K : PySem.W.Frag} {F H : Hp} (e : Same F H) {v : V} {d : D} (r : Rep K F v d) (hn : (∀ ns, d ≠ .scr ns) ∧ (∀ a, d ≠ .adr a) ∧ ∀ c y, d ≠ .exc c y) : TyX K H v (.type (tyN d)) := by
  cases r with
  | non => exact .base .non
  | bl b => exact .base (.bl b)
  | int i => exact .base (.int i)
  | str z => exact .base (.str z)
  | lst h _ => exact .base (.lst (e _ _ h))
  | tup h _ => exact .base (.tup (e _ _ h))
  | scr _ => exact absurd rfl (hn.1 _)
  | adr _ => exact absurd rfl (hn.2.1 _)
  | exc _ _ _ _ => exact absurd rfl (hn.2.2 _ _)
def notScr (d : D) (A : Prop) : Prop := match d with
  | .scr _ => False
  | .adr _ => False
  | .exc _ _ => False
  | _ => A
theorem notScr_of {d : D} {A : Prop} (h : notScr d A) : ((∀ ns, d ≠ .scr ns) ∧ (∀ a, d ≠ .adr a) ∧ ∀ c y, d ≠ .exc c y) ∧ A := by
  cases d with
  | scr ns => exact h.elim
  | adr a => exact h.elim
  | exc _ _ => exact h.elim
  | _ => exact ⟨⟨fun _ z => (by cases z), fun _ z => (by cases z), fun _ _ z => (by cases z)⟩, h⟩
section
variable {X : Cx} {e : Expr} {te : TE} {Te : TEp} {pos : Pos}
def pIsi (p : D → Bool) (Te : TEp) : TEp := fun ρ Q => Te ρ fun d ρ1 => notScr d (Q (.bl (p d)) ρ1)
theorem ppe_isi {n : String} {p : D → Bool} {fp np : Pos} (ht : IsT n p) (hg : Gl X "isinstance") (hm : X.mg "isinstance" = none) (hgn : Gl X (Str.ofString n)) (hmn : X.mg (Str.ofString n) = none) (he : PPE X e te Te) (hnn : Str.ofString n ≠ "__name__" := by decide) (hnd : (Str.ofString n == ("__debug__" : Str)) = false := by decide)
    (hs : starEach [e, .Name (Str.ofString n) np] X.env = (false, eval e X.env) :: starEach [.Name (Str.ofString n) np] X.env := by rfl) (hs2 : starEach [.Name (Str.ofString n) np] X.env = (false, eval (.Name (Str.ofString n) np) X.env) :: starEach [] X.env := by rfl) (hpl : (backTo pos (starEach [.Name (Str.ofString n) np] X.env)).any (·.1) = false := by rfl) :
    PPE X (.Call (.Name "isinstance" fp) [e, .Name (Str.ofString n) np] [] pos) (tCB (rIsi X.K) (tCons te (tCons (tC (.ty n)) tNil))) (pIsi p Te) :=
  ⟨pe_callB call_isi hg hm (by decide +kernel) (pa_cons he.pe (pa_cons (pe_bltn hgn hmn ht.boot rfl hnn hnd) pa_nil hs2) hs) (by decide) (by decide) hs hpl, fun G F H σ ρ Q R S hT k =>
    he.snd G F H σ ρ _ _ S hT fun v d F1 H1 ρ1 u1 S1 r1 q1 => by
      obtain ⟨hn, q⟩ := notScr_of q1
      exact ⟨v, .ty n, _, _, p d, rfl, .ty n, r1.ty S1.hF hn, ht.kit d, k _ _ F1 H1 ρ1 u1 S1 (.bl _) q⟩⟩
def pIsi2 (p q : D → Bool) (Te : TEp) : TEp := fun ρ Q => Te ρ fun d ρ1 => notScr d (Q (.bl (p d || q d)) ρ1)
theorem ppe_isi2 {n m : String} {p q : D → Bool} {fp np mp tp : Pos} {kk : Nat} (ht : IsT n p) (ht2 : IsT m q) (hg : Gl X "isinstance") (hm : X.mg "isinstance" = none) (hgn : Gl X (Str.ofString n)) (hmn : X.mg (Str.ofString n) = none) (hgm : Gl X (Str.ofString m)) (hmm : X.mg (Str.ofString m) = none) (he : PPE X e te Te)
    (hnn : Str.ofString n ≠ "__name__" := by decide) (hnd : (Str.ofString n == ("__debug__" : Str)) = false := by decide) (hmn' : Str.ofString m ≠ "__name__" := by decide) (hmd : (Str.ofString m == ("__debug__" : Str)) = false := by decide)
    (hs : starEach [e, .Tuple [.Name (Str.ofString n) np, .Name (Str.ofString m) mp] kk tp] X.env = (false, eval e X.env) :: starEach [.Tuple [.Name (Str.ofString n) np, .Name (Str.ofString m) mp] kk tp] X.env := by rfl)
    (hs2 : starEach [.Tuple [.Name (Str.ofString n) np, .Name (Str.ofString m) mp] kk tp] X.env = (false, eval (.Tuple [.Name (Str.ofString n) np, .Name (Str.ofString m) mp] kk tp) X.env) :: starEach [] X.env := by rfl)
    (hs3 : starEach [.Name (Str.ofString n) np, .Name (Str.ofString m) mp] X.env = (false, eval (.Name (Str.ofString n) np) X.env) :: starEach [.Name (Str.ofString m) mp] X.env := by rfl)
    (hs4 : starEach [.Name (Str.ofString m) mp] X.env = (false, eval (.Name (Str.ofString m) mp) X.env) :: starEach [] X.env := by rfl)
    (hpl : (backTo pos (starEach [.Tuple [.Name (Str.ofString n) np, .Name (Str.ofString m) mp] kk tp] X.env)).any (·.1) = false := by rfl) :
    PPE X (.Call (.Name "isinstance" fp) [e, .Tuple [.Name (Str.ofString n) np, .Name (Str.ofString m) mp] kk tp] [] pos) (tCB (rIsiT X.K) (tCons te (tCons (tTup (tCons (tC (.ty n)) (tCons (tC (.ty m)) tNil))) tNil))) (pIsi2 p q Te) :=
  ⟨pe_callB call_isiT hg hm (by decide +kernel) (pa_cons he.pe (pa_cons (pe_tup (pa_cons (pe_bltn hgn hmn ht.boot rfl hnn hnd) (pa_cons (pe_bltn hgm hmm ht2.boot rfl hmn' hmd) pa_nil hs4) hs3)) pa_nil hs2) hs) (by decide) (by decide) hs hpl, fun G F H σ ρ Q R S hT k =>
    he.snd G F H σ ρ _ _ S hT fun v d F1 H1 ρ1 u1 S1 r1 q1 => by
      obtain ⟨hn, q'⟩ := notScr_of q1
      refine ⟨by show (2 : Nat) ≤ sizeLine; decide, fun a ha => ?_⟩
      refine ⟨v, a, [.ty n, .ty m], _, [.type n, .type m], p d || q d, rfl, upd_same, .cons (.ty n) (.cons (.ty m) .nil), r1.ty (S1.hF.trans (same_new ha)) hn, ?_, k _ _ F1 _ ρ1 u1 (S1.more ha) (.bl _) q'⟩
      refine kitAny_cons (b := p d) (ht.kit d) (fun h => kitAny_cons (b := q d) (ht2.kit d) (fun h2 => by rw [h, h2]; rfl) (fun h2 => by rw [h2]; simp)) (fun h => by rw [h]; rfl)⟩
end
def okN : Nat → D → Prop
  | _, .non => True
  | _, .bl _ => True
  | _, .int _ => True
  | _, .str z => (D.str z).sh
  | n + 1, .lst xs => xs.length ≤ 1000 ∧ ∀ x ∈ xs, okN n x
  | n + 1, .tup xs => xs.length ≤ 1000 ∧ ∀ x ∈ xs, okN n x
  | _, _ => False
def gS : Nat → FA
  | 0 => fun _ _ => False
  | n + 1 => fun ds C => ∃ d, ds = [d, d] ∧ okN n d ∧ C (.val (.bl true))
end Pl
namespace Pl
open PySem PySem.Spec PyProof.Rows L2
variable [TJ]
section
variable {X : Cx}
theorem any_toPys (x : D) : ∀ ys : List D, ((toPys ys).any fun z => PyData.eqv z (toPy x)) = ys.any fun z => z.eqv x
  | [] => rfl
  | y :: ys => by
    rw [toPys, List.any_cons, List.any_cons, any_toPys x ys]; rfl
theorem hu65 {k : Nat} {A : Around} (hr : Room k A) : A.units + 65 < cLine := by have := hr.un; omega
end
end Pl
namespace Pl
open PySem PySem.Spec PyProof.Rows L2
variable [TJ]
section
variable {X : Cx}
theorem sumT_raw {prog : Program} {w : World} {A : Around} {E : Value → Shared → Prop} {s : Shared} {t : Addr} {its : List Value} {ns : List Int} {Q : Value → Shared → Prop} (hh : A.handled = none) (ht : s.heap.IsTuple t its.toArray) (hi : IntsAre its ns)
    (h : ∀ h' tk t', (∀ b o, s.heap.get? b = some o → h'.get? b = some o) → Q (.int ns.sum t') { s with heap := h', toks := tk }) : wpAny (model prog w) A (call (.builtin "sum") [.ref t]) Q E s := by
  obtain ⟨xs, e⟩ := hi.allInts.items
  have hn : numsOf (intItems xs).toList = ns := by rw [← e]; exact hi.numsOf
  rw [nums_intItems] at hn
  rw [e] at ht
  refine PySem.W.ktm_sumG hh ht fun h' tk t' hk => ?_
  have := h h' tk t' hk
  rw [preSum_eq, List.take_of_length_le (by simp), hn]; exact this
def rSumA (K : PySem.W.Frag) : List V → Hp → VK → Prop := fun vs H Q => ∃ (a : Addr) (ns : List Int), vs = [V.ref a] ∧ SqI K H a ns ∧ Q (.int ns.sum) H
theorem cr_sumA (hc : X.calm = true) : CallR X (.builtin "sum") (rSumA X.K) := by
  intro pins s σ H vs us Q I r h
  obtain ⟨a, ns, rfl, hs, q⟩ := h
  rcases hs with hs | hs
  · exact cr_sum hc pins s σ H _ us Q I r ⟨a, ns, rfl, hs, q⟩
  · rw [Vals.ref1 r]
    obtain ⟨its, rv, hl, _⟩ := I.tuple hs
    exact sumT_raw (I.ok.hd hc) (show s.heap.IsTuple a its.toArray from hl) rv.ints fun h' tk t' hk => ⟨.int _, H, I.kept hk, ⟨_, rfl⟩, q⟩
def fSumA : FC := fun ds Q => match ds with
  | [.lst xs] => ∃ ns : List Int, xs = ns.map D.int ∧ Q (.int ns.sum)
  | [.tup xs] => ∃ ns : List Int, xs = ns.map D.int ∧ Q (.int ns.sum)
  | _ => False
theorem cp_sumA {K : PySem.W.Frag} : CallP K (rSumA K) fSumA := fun F H xs ds Q R hs r hf k => by
  unfold fSumA at hf
  split at hf
  · obtain ⟨v, rfl, q1⟩ := r.inv1
    obtain ⟨a, vs, rfl, e, q2⟩ := q1.lstInv
    obtain ⟨ns, rfl, q⟩ := hf
    have := q2.ints
    subst this
    exact ⟨a, ns, rfl, .inl (SqL.of (hs _ _ e)), k _ _ _ _ (.old (.int _)) q⟩
  · obtain ⟨v, rfl, q1⟩ := r.inv1
    obtain ⟨a, vs, rfl, e, q2⟩ := q1.tupInv
    obtain ⟨ns, rfl, q⟩ := hf
    have := q2.ints
    subst this
    exact ⟨a, ns, rfl, .inr (SqT.of (hs _ _ e)), k _ _ _ _ (.old (.int _)) q⟩
  · exact hf.elim
variable {a b : Expr} {ta tb : TE} {Ta Tb : TEp} {pos : Pos}
end
section
variable {X : Cx} {e : Expr} {te : TE} {Te : TEp} {pos : Pos}
def pExtend (i : Nat) (Te : TEp) : TSp := fun P ρ => match ρ[i]? with
  | some (some (.own a _)) => Te ρ fun y ρ1 => match y with
    | .lst zs => ∃ xs1, ρ1[i]? = some (some (.own a xs1)) ∧ xs1.length + zs.length ≤ sizeLine ∧ P.nx (ρ1.set i (some (.own a (xs1 ++ zs))))
    | _ => False
  | _ => False
theorem pps_extend (i : Nat) {x : Str} {p ap cp : Pos} (he : PPE X e te Te) (hN : X.N[i]? = some x := by rfl) (hv : Vis X.env.scope x := by first | exact Or.inl rfl | exact Or.inr (Or.inl rfl) | exact Or.inr (Or.inr rfl)) (hd : (x == ("__debug__" : Str)) = false := by decide)
    (hcd : (x == ("__classdict__" : Str)) = false := by decide)
    (hbase : attributeBase (.Name x p) "extend" X.env (eval (.Name x p) X.env) = eval (.Name x p) X.env := by rfl)
    (hfew : ((backTo cp (starEach [e] X.env)).all (fun x => !x.1) && (backToKw cp (keywordEach [] X.env)).all (fun x => x.1.isSome)
      && decide ([e].length + ([] : List Keyword).length + (if ([] : List Keyword).isEmpty then 0 else 1) < 30)) = true := by rfl)
    (hline : (ap.endLine == cp.line) = true := by rfl) (hs : starEach [e] X.env = (false, eval e X.env) :: starEach [] X.env := by rfl)
    (hsw : swapsWith (.Call (.Attribute (.Name x p) "extend" ap) [e] [] cp) none pos.line X.env = pure false := by rfl) :
    PPS X (.Expr (.Call (.Attribute (.Name x p) "extend" ap) [e] [] cp) pos) (tDrop (tBM X.K "list" rExtend (tVar i) (tCons te tNil))) (pExtend i Te) := ⟨ps_expr (pe_bm PySem.F.plainAttrs_list PySem.F.slot_list_extend PySem.F.type_list_extend mt_extend (pe_var hN hv hd hcd) (pa_cons he.pe pa_nil hs) hbase hfew hline hs rfl) hsw, fun G F H σ ρ P D S hT r => by
  unfold pExtend at hT
  split at hT
  · rename_i a xs e0
    obtain ⟨h1, h2, h3, vs, h4, h5⟩ := S.own i a xs e0
    refine ⟨.ref a, h1, .inl ⟨rfl, _, SqL.of h4⟩, he.snd G F H σ ρ _ _ S hT fun y dy F1 H1 ρ1 u1 S1 r1 q1 => ?_⟩
    cases r1 with
    | @lst b us zs hb rz =>
      obtain ⟨xs1, e1, hz, q⟩ := q1
      obtain ⟨g1, g2, g3, ws, g4, g5⟩ := S1.own i a xs1 e1
      exact ⟨a, b, ws, us, rfl, rfl, g4, S1.hF _ _ hb, by rw [g5.length, rz.length]; exact hz, r.nx F1 _ _ _ u1 (S1.mut e1 (g5.append rz)) q⟩
    | _ => exact q1.elim
  · exact hT.elim⟩
end
section
variable {X : Cx} {elt tg iter : Expr} {ifs : List Expr} {scope : Scope} {own : List (Str × Nat)} {pos : Pos} {wi : TI} {Ti : TAp} {Gp : TGp} {is : List Nat} {Tt : TTp} {Te : TEp} {vs : List Nat}
theorem pps_setLcV {i : Nat} {y : Str} {py spos : Pos} (hc : X.calm = true) (hN : X.N.Nodup) (hi : PPI X tg iter wi Ti) (ok : BlkOk X.N X.env.scope scope own)
    (hg : ∀ (s : Shared) (H : Hp) (C : Addr) (cl : List (Str × Addr)) (fp : List Addr), PTg (X.blk s H scope (compEnvC scope cl C X.env) fp) tg (liftG X.K Gp is) Gp is) (ht : ∀ (s : Shared) (H : Hp) (C : Addr) (cl : List (Str × Addr)) (fp : List Addr), PPTs (X.blk s H scope (compEnvC scope cl C X.env) fp) ifs (liftT X.K Tt) Tt)
    (he : ∀ (s : Shared) (H : Hp) (C : Addr) (cl : List (Str × Addr)) (fp : List Addr), PPE (X.blk s H scope (compEnvC scope cl C X.env) fp) elt (liftE X.K Te) Te)
    (hy : X.N[i]? = some y := by rfl) (hyl : X.env.scope.names.lookup y = some .local := by rfl)
    (hsw : swapsWith (.ListComp elt [⟨tg, iter, ifs, 0⟩] scope pos) (some (.Name y py)) spos.line X.env = pure true := by exact sw_true rfl rfl rfl (by decide +kernel)) (hs : ∀ x, foldedSetIterable iter X.env x = pure x := by intro _; rfl) (hsub : ∀ i ∈ is, i ∈ own.map (·.2) := by decide) :
    PPS X (.Assign [.Name y py] (.ListComp elt [⟨tg, iter, ifs, 0⟩] scope pos) spos) (tAsg (tLc wi (liftG X.K Gp is) (liftT X.K Tt) (liftE X.K Te) (own.map (·.2))) (gName i)) (pSet i (pVal (pLc Ti Gp Tt Te (own.map (·.2))))) :=
  ⟨(pps_setLcL (i := i) hc hN hi ok hg ht he hy hyl hsw hs hsub).ps, snd_set (ppc_val (ppe_lcL (pos := pos) hc hN hi ok hg ht he hs hsub)).snd⟩
end
end Pl
namespace Pl
open PySem PySem.Spec PyProof.Rows L2
variable [TJ]
def signsD (x : Str) : List D := x.cps.toList.map fun c => .str ⟨#[c]⟩
theorem signsD_get {x : Str} {i : Nat} {d : D} (h : (signsD x)[i]? = some d) : ∃ c, x.cps[i]? = some c ∧ d = .str ⟨#[c]⟩ := by
  unfold signsD at h
  rw [List.getElem?_map] at h
  cases e : x.cps.toList[i]? with
  | none => rw [e] at h; cases h
  | some c => rw [e] at h; exact ⟨c, by rw [← Array.getElem?_toList]; exact e, (Option.some.inj h).symm⟩
theorem signsD_len (x : Str) : (signsD x).length = x.cps.size := by simp [signsD]
theorem itrep_str {K : PySem.W.Frag} {F : Hp} (x : Str) : ItRep K (Its x) F (signsD x) := fun F' H e1 e2 => by
  refine ⟨fun i d hd => ?_, by show x.cps.size ≤ (signsD x).length; rw [signsD_len]; exact Nat.le_refl _⟩
  obtain ⟨c, hc, rfl⟩ := signsD_get hd
  refine ⟨(Array.getElem?_eq_some_iff.mp hc).1, fun v H' y => ?_⟩
  obtain ⟨rfl, c', hc', rfl⟩ := y
  rw [hc] at hc'
  cases hc'
  exact ⟨F', .old (.str _)⟩
section
variable {X : Cx} {tg : Expr} {l : Expr} {tl : TE} {Tl : TEp} {pos : Pos}
def jStr (T : TEp) : TAp := fun ρ Q => T ρ fun d ρ1 => match d with | .str x => Q (signsD x) ρ1 | _ => False
theorem ppi_str (hl : PPE X l tl Tl) : PPI X tg l (iStr tl) (jStr Tl) := ⟨pi_str hl.pe, fun G F H σ ρ Q R S hT k =>
  hl.snd G F H σ ρ _ _ S hT fun v d F1 H1 ρ1 u1 S1 r1 q1 => by
    cases r1 with
    | str x => exact ⟨x, rfl, k _ _ F1 H1 ρ1 u1 S1 (itrep_str x) q1⟩
    | _ => exact q1.elim⟩
end
section
variable {X : Cx} {e : Expr} {te : TE} {Te : TEp} {pos : Pos}
def pAugI (i : Nat) (f : Int → Int → Int) (Te : TEp) : TSp := fun P ρ => ∃ a : Int, ρ[i]? = some (some (.val (.int a))) ∧ Te ρ fun d ρ1 => match d with
  | .int b => P.nx (ρ1.set i (some (.val (.int (f a b)))))
  | _ => False
theorem snd_aug {K : PySem.W.Frag} {i : Nat} {f : Int → Int → Int} (he : SndE K te Te) : SndS K (tAug i te (ipI f)) (pAugI i f Te) := fun G F H σ ρ P D S h r => by
  obtain ⟨a, e0, h⟩ := h
  obtain ⟨v, h1, r1⟩ := S.val i _ e0
  cases r1
  refine ⟨_, h1, he G F H σ ρ _ _ S h fun w d F1 H1 ρ1 u1 S1 r2 q => ?_⟩
  cases r2 with
  | int b => exact ⟨a, b, rfl, rfl, r.nx F1 H1 _ _ u1 (S1.setVal i (.int _)) q⟩
  | _ => exact q.elim
theorem pps_augAdd {i : Nat} {x : Str} {pos' : Pos} (hN : X.N.Nodup) (he : PPE X e te Te) (hi : X.N[i]? = some x := by rfl) (hx : Loc X.env.scope x := by first | exact Or.inl rfl | exact Or.inr rfl) (hf : X.fn x = true ∨ X.env.scope.names.lookup x = some .local := by first | exact .inl rfl | exact .inr rfl | assumption) :
    PPS X (.AugAssign (.Name x pos') .Add e pos) (tAug i te (ipI fun i j => i + j)) (pAugI i (fun i j => i + j) Te) := ⟨ps_aug hN hi hx he.pe ip_add hf, snd_aug he.snd⟩
end
end Pl
namespace Pl
open PySem PySem.Spec PyProof.Rows L2
variable [TJ]
abbrev TCs := Ro → (List Cell → Ro → Prop) → Prop
def CellOk (K : PySem.W.Frag) (G F H : Hp) (ρ : Ro) (v : V) (c : Cell) : Prop := match c with
  | .val d => Rep K F v d
  | .own p xs => v = .ref p ∧ F p = none ∧ G p = none ∧ NotOwn ρ p ∧ ∃ us, H p = some (.lst us) ∧ Reps K F us xs
  | .box _ => False
def CellsOk (K : PySem.W.Frag) (G F H : Hp) (ρ : Ro) : List V → List Cell → Prop
  | [], [] => True
  | v :: vs, c :: cs => CellOk K G F H ρ v c ∧ CellsOk K G F H ρ vs cs ∧ ∀ p xs, c = .own p xs → ∀ q ys, Cell.own q ys ∈ cs → q ≠ p
  | _, _ => False
theorem CellsOk.gone {K : PySem.W.Frag} {G F H : Hp} {ρ : Ro} {p : Addr} {o : HO} : ∀ {vs : List V} {cs : List Cell}, CellsOk K (upd G p o) F H ρ vs cs → ∀ q ys, Cell.own q ys ∈ cs → q ≠ p
  | [], [], _, q, ys, h => by simp at h
  | v :: vs, c :: cs, g, q, ys, h => by
    rcases List.mem_cons.mp h with e | h
    · subst e
      intro z
      have := g.1.2.2.1
      rw [z, upd_same] at this
      cases this
    · exact CellsOk.gone g.2.1 q ys h
  | [], _ :: _, g, _, _, _ => g.elim
  | _ :: _, [], g, _, _, _ => g.elim
theorem CellsOk.less {K : PySem.W.Frag} {G F H : Hp} {ρ : Ro} {p : Addr} {o : HO} : ∀ {vs : List V} {cs : List Cell}, CellsOk K (upd G p o) F H ρ vs cs → CellsOk K G F H ρ vs cs
  | [], [], _ => trivial
  | v :: vs, c :: cs, g => by
    refine ⟨?_, CellsOk.less g.2.1, g.2.2⟩
    cases c with
    | val d => exact g.1
    | own q xs =>
      obtain ⟨h1, h2, h3, h4⟩ := g.1
      have n : q ≠ p := fun z => by rw [z, upd_same] at h3; cases h3
      exact ⟨h1, h2, by rw [upd_ne n] at h3; exact h3, h4⟩
    | box s => exact g.1
  | [], _ :: _, g => g.elim
  | _ :: _, [], g => g.elim
section
variable {X : Cx} {e : Expr} {es : List Expr} {te : TE} {t : TA} {T : TCs} {Tc : TCp} {pos : Pos}
def pNilC : TCs := fun ρ Q => Q [] ρ
theorem Sim.put {K : PySem.W.Frag} {G F H : Hp} {σ : L2.St} {ρ : Ro} {v : V} {c : Cell} (S : Sim K G F H σ ρ) (i : Nat) (h : CellOk K G F H ρ v c) : Sim K G F H (σ.set i (some v)) (ρ.set i (some c)) := by
  cases c with
  | val d => exact S.setVal i h
  | own p xs =>
    obtain ⟨rfl, h2, h3, h4, us, h5, h6⟩ := h
    exact S.setOwn i h5 h2 h3 h4 h6
  | box s => exact h.elim
theorem NotOwn.put {ρ : Ro} {p : Addr} {c : Cell} {i : Nat} (h : NotOwn ρ p) (hb : ∀ t, c ≠ .box t) (hc : ∀ q ys, c = .own q ys → p ≠ q) : NotOwn (ρ.set i (some c)) p := ⟨fun j ys e => (by
  by_cases hj : i = j
  · subst hj
    by_cases hi : i < ρ.length
    · rw [List.getElem?_set_self hi] at e
      cases e
      exact hc _ _ rfl rfl
    · rw [List.getElem?_eq_none (by simpa using hi)] at e; cases e
  · rw [List.getElem?_set_ne hj] at e; exact h.1 j ys e), fun m => h.2 (set_inbox (fun t z => hb t (Option.some.inj z)) m)⟩
theorem CellOk.put {K : PySem.W.Frag} {G F H : Hp} {ρ : Ro} {v : V} {c c' : Cell} {i : Nat} (h : CellOk K G F H ρ v c) (hb : ∀ t, c' ≠ .box t) (hc : ∀ p xs, c' = .own p xs → ∀ q ys, c = .own q ys → q ≠ p) : CellOk K G F H (ρ.set i (some c')) v c := by
  cases c with
  | val d => exact h
  | own p xs =>
    obtain ⟨h1, h2, h3, h4, h5⟩ := h
    exact ⟨h1, h2, h3, h4.put hb fun q ys e => hc q ys e p xs rfl, h5⟩
  | box s => exact h.elim
theorem CellsOk.len {K : PySem.W.Frag} {G F H : Hp} {ρ : Ro} : ∀ {vs : List V} {cs : List Cell}, CellsOk K G F H ρ vs cs → vs.length = cs.length
  | [], [], _ => rfl
  | _ :: _, _ :: _, h => congrArg (· + 1) (CellsOk.len h.2.1)
  | [], _ :: _, h => h.elim
  | _ :: _, [], h => h.elim
end
end Pl
namespace Pl
open PySem PySem.Spec PyProof.Rows L2
variable [TJ]
section
variable {X : Cx} {a b : Expr} {ta tb : TE} {Ta Tb : TEp} {pos : Pos}
def rMulS : R2 := fun x y H Q => ∃ i j, x = .str i ∧ y = .int j ∧ MulOk i j ∧ Q (.str (Txt.mul i j)) H
theorem op_mulS : OpR X (binaryOp .Mult) rMulS := by
  intro pins s σ H x y v u Q I rx ry h
  obtain ⟨i, j, rfl, rfl, hz, q⟩ := h
  obtain ⟨t, rfl⟩ := rx
  obtain ⟨t', rfl⟩ := ry
  exact PySem.SB.mul hz fun t' k => ⟨.str (Txt.mul i j), H, I.tok _, ⟨_, rfl⟩, q⟩
def fMulS : F2 := fun x y Q => match x, y with
  | .str i, .int j => MulOk i j ∧ Q (.str (Txt.mul i j))
  | _, _ => False
theorem ppe_mulS (ha : PPE X a ta Ta) (hb : PPE X b tb Tb) : PPE X (.BinOp a .Mult b pos) (tOp rMulS ta tb) (pOp fMulS Ta Tb) := ppe_op op_mulS (fun F H x y dx dy Q R hs rx ry hf k => by
  cases rx with
  | str i =>
    cases ry with
    | int j => exact ⟨i, j, rfl, rfl, hf.1, k _ _ _ _ (.old (.str _)) hf.2⟩
    | _ => exact hf.elim
  | _ => exact hf.elim) ha hb
theorem mulOk_small {x : Str} {n : Int} (hx : x.length ≤ 10) (h0 : 0 ≤ n) (h1 : n ≤ 1000) : MulOk x n := by
  have hm : (x.length : Int) * n ≤ 10 * 1000 := Int.mul_le_mul (by omega) h1 h0 (by decide)
  refine ⟨by simp; omega, fun h _ => ?_, fun h _ => ?_⟩
  · have : (x.length : Int) ≤ (2 ^ 63 - 1) / n := Int.le_ediv_of_mul_le (by omega) (by omega)
    omega
  · unfold Builtin.Str.tooLong
    have h2 : x.length * n.toNat ≤ 10 * 1000 := Nat.mul_le_mul hx (by omega)
    rw [sizeLine_eq]
    simp
    omega
end
end Pl
namespace Pl
open PySem PySem.Spec PyProof.Rows L2
variable [TJ]
theorem Reps.dropLast {K : PySem.W.Frag} {F : Hp} : ∀ {vs : List V} {ds : List D}, Reps K F vs ds → Reps K F vs.dropLast ds.dropLast
  | _, _, .nil => .nil
  | _, _, .cons _ .nil => .nil
  | _, _, .cons r (.cons r2 t) => .cons r (Reps.dropLast (.cons r2 t))
section
variable {X : Cx} {e : Expr} {es : List Expr} {te : TE} {Te : TEp} {t : TA} {T : TAp} {p : Pos}
def pStar (Te : TEp) (T : TAp) : TAp := fun ρ Q => Te ρ fun d ρ1 => asSeq d fun xs => T ρ1 fun ys ρ2 => Q (xs ++ ys) ρ2
theorem ppa_star (he : PPE X e te Te) (hr : PPA X es t T) (hs : starEach (.Starred e p :: es) X.env = (true, eval e X.env) :: starEach es X.env := by rfl) : PPA X (.Starred e p :: es) (StX.tStar X.K te t) (pStar Te T) := ⟨StX.pa_star he.pe hr.pa hs, fun G F H σ ρ Q R S hT k =>
  he.snd G F H σ ρ _ _ S hT fun v d F1 H1 ρ1 u1 S1 r1 q1 => by
    obtain ⟨a, b, vs, ds, rfl, e1, rs, q⟩ := r1.seq q1
    refine ⟨a, vs, rfl, ?_, hr.snd G F1 H1 σ ρ1 _ _ S1 q fun ws es2 F2 H2 ρ2 u2 S2 r2 q2 => k (vs ++ ws) (ds ++ es2) F2 H2 ρ2 (u1.trans u2) S2 ((rs.mono u2.ex).append r2) q2⟩
    cases b with
    | true => exact .inr (SqL.of (S1.hF _ _ e1))
    | false => exact .inl (SqT.of (S1.hF _ _ e1))⟩
end
theorem Sim.moreG {K : PySem.W.Frag} {G F H : Hp} {σ : L2.St} {ρ : Ro} (S : Sim K G F H σ ρ) {a : Addr} {vs : List V} (hH : H a = some (.lst vs)) (hG : G a = none) (hn : NotOwn ρ a) : Sim K (upd G a (.lst vs)) F H σ ρ := by
  refine ⟨S.hF, S.hG.guard hH, S.len, S.val, fun i b xs e => ?_, S.ne, S.bx.guard hn.2⟩
  · obtain ⟨h1, h2, h3, h4⟩ := S.own i b xs e
    have q : b ≠ a := fun z => by subst z; exact hn.1 i xs e
    exact ⟨h1, h2, by rw [upd_ne q]; exact h3, h4⟩
theorem Sim.lessG {K : PySem.W.Frag} {G G' F H : Hp} {σ : L2.St} {ρ : Ro} (S : Sim K G' F H σ ρ) (h : Same G G') : Sim K G F H σ ρ :=
  ⟨S.hF, S.hG.less h, S.len, S.val, fun i b xs e => let ⟨h1, h2, h3, h4⟩ := S.own i b xs e; ⟨h1, h2, h.free h3, h4⟩, S.ne, S.bx.unguard h⟩
theorem Sim.mid {K : PySem.W.Frag} {G F H : Hp} {σ : L2.St} {ρ : Ro} {u v : V} {b c : Cell} (S : Sim K G F H ((σ ++ [some u]) ++ [some v]) ((ρ ++ [some b]) ++ [some c])) : Sim K G F H (σ ++ [some v]) (ρ ++ [some c]) := by
  have B := S.drop.drop
  cases c with
  | val d => exact B.pushVal S.lastVal
  | own a xs =>
    obtain ⟨rfl, h2, h3, h4, vs, h5, h6⟩ := S.lastOwn
    refine B.pushOwn h5 h2 h3 ⟨fun i ys e => h4.1 i ys (at_more e), fun ⟨i, t, e, m⟩ => h4.2 ⟨i, t, at_more e, m⟩⟩ h6
  | box s =>
    obtain ⟨rfl, h2, h3, h4⟩ := S.lastBox
    exact B.pushBox h2 h3 fun p m => ⟨fun i ys e => (h4 p m).1 i ys (at_more e), fun ⟨i, t, e, m'⟩ => (h4 p m).2 ⟨i, t, at_more e, m'⟩⟩
section
variable {X : Cx} {k : Nat} {f : Addr} {fd : FuncData} {ps : List Str} {x : Str} {p pos : Pos} {e : Expr} {es : List Expr} {te : TE} {Tc : TCp} {t : TA} {T : TAp} {n : Nat}
def pCallX (n : Nat) (g : FB) (Tc : TCp) (T : TAp) : TCp := fun ρ Q => Tc ρ fun c ρ1 => match c with
  | .own _ xs => T ρ1 fun ds ρ2 => ds.length + 1 = n ∧ g xs ds fun c' _ => Q c' ρ2
  | .val _ => False
  | .box _ => False
theorem ppc_callX {g : FB} (Fn : FnOk X.prog X.w X.K X.mg X.base CX0 k f fd ps (spB X.K n g)) (hr : Room k X.A) (hg : Gl X x) (hm : X.mg x = some (.ref f)) (hk : PySem.W.keepIn X.K (.ref f) = true) (hb : Binds X.K fd ps []) (hc : PPC X e te Tc) (ha : PPA X es t T)
    (hdb : (x == ("__debug__" : Str)) = false := by decide) (he : starEach (e :: es) X.env = (false, eval e X.env) :: starEach es X.env := by rfl) (hpl : (backTo pos (starEach es X.env)).any (·.1) = false := by rfl) :
    PPC X (.Call (.Name x p) (e :: es) [] pos) (tCall (spB X.K n g) [] (fun _ _ _ => False) (tCons te t)) (pCallX n g Tc T) := ⟨pe_call Fn hr hg hm hk hb .nil pass0 (pa_cons hc.pe ha.pa he) hdb he hpl, fun G F H σ ρ Q R S hT k =>
  hc.snd G F H σ ρ _ _ S hT fun v c F1 H1 ρ1 u1 S1 q1 => by
    cases c with
    | val d => exact q1.elim
    | box s => exact q1.elim
    | own a xs =>
      obtain ⟨rfl, h2, h3, h4, us, h5, h6⟩ := S1.lastOwn
      have sG : Same G (upd G a (.lst us)) := same_new h3
      refine ha.snd (upd G a (.lst us)) F1 H1 σ ρ1 _ _ (S1.drop.moreG h5 h3 h4) q1 fun vs ds F2 H2 ρ2 u2 S2 r2 q2 => ?_
      have hH2 : H2 a = some (.lst us) := S2.hG a _ upd_same
      have hF2 : F2 a = none := u2.isNone h2 upd_same
      have hn2 : NotOwn ρ2 a := ⟨fun i ys z => (by
        obtain ⟨_, _, g3, _⟩ := S2.own i a ys z
        rw [upd_same] at g3; cases g3), S2.bx.notG upd_same⟩
      have S3 := (S2.lessG sG).pushOwn hH2 hF2 h3 hn2 (h6.mono u2.ex)
      show spB X.K n g ((.ref a :: vs) ++ []) H2 R _
      rw [List.append_nil]
      refine ⟨F2, a, us, xs, vs, ds, _, rfl, by rw [List.length_cons, r2.length]; exact q2.1, S2.hF, hF2, hH2, h6.mono u2.ex, r2, q2.2, fun v c xs' F' H' u S' q => ?_⟩
      have hGh : Same G (hide H2 a) := fun b o qq => by
        have nb : b ≠ a := fun z => by rw [z, h3] at qq; cases qq
        rw [hide_ne nb]; exact S2.hG b o (sG b o qq)
      have S4 := S3.afterB (xs := xs) (i := ρ2.length) (by simp) u S'
      rw [show (ρ2 ++ [some (Cell.own a xs)]).set ρ2.length (some (.own a xs')) = ρ2 ++ [some (.own a xs')] by simp] at S4
      exact k v c F' H' ρ2 ((u1.trans (u2.less sG)).trans (u.less hGh)) S4.mid q⟩
end
end Pl
namespace Pl
def cutFrom (s p : Int) : List Int → List Int
  | [] => []
  | h :: r => min h (p + s) :: cutFrom s (min h (p + s)) r
def cutOn (s : Int) : List Int → List Int
  | [] => []
  | x :: r => x :: cutFrom s x r
def cutBack (s : Int) : List Int → List Int
  | [] => []
  | x :: r => match cutBack s r with
    | [] => [x]
    | b :: t => min x (b + s) :: b :: t
def cutTo (s : Int) (ns : List Int) : List Int := (cutOn s (cutOn s ns).reverse).reverse
def fillTo (s : Int) (ns : List Int) : List Int := (cutTo s (ns.map (fun x => -x))).map (fun x => -x)
def UpL (s : Int) : List Int → Prop
  | x :: y :: r => y ≤ x + s ∧ UpL s (y :: r)
  | _ => True
def UpR (s : Int) : List Int → Prop
  | x :: y :: r => x ≤ y + s ∧ UpR s (y :: r)
  | _ => True
def Gentle (s : Int) (l : List Int) : Prop := UpL s l ∧ UpR s l
def Lq : List Int → List Int → Prop
  | x :: xs, y :: ys => x ≤ y ∧ Lq xs ys
  | [], [] => True
  | _, _ => False
theorem Lq.refl : ∀ l : List Int, Lq l l
  | [] => trivial
  | x :: l => ⟨Int.le_refl x, Lq.refl l⟩
theorem Lq.trans : ∀ {a b c : List Int}, Lq a b → Lq b c → Lq a c
  | [], [], [], _, _ => trivial
  | x :: a, y :: b, z :: c, h, g => ⟨Int.le_trans h.1 g.1, Lq.trans h.2 g.2⟩
  | [], [], _ :: _, _, g => g.elim
  | [], _ :: _, _, h, _ => h.elim
  | _ :: _, [], _, h, _ => h.elim
  | _ :: _, _ :: _, [], _, g => g.elim
theorem Lq.antisymm : ∀ {a b : List Int}, Lq a b → Lq b a → a = b
  | [], [], _, _ => rfl
  | x :: a, y :: b, h, g => by rw [Int.le_antisymm h.1 g.1, Lq.antisymm h.2 g.2]
  | [], _ :: _, h, _ => h.elim
  | _ :: _, [], h, _ => h.elim
theorem Lq.length : ∀ {a b : List Int}, Lq a b → a.length = b.length
  | [], [], _ => rfl
  | _ :: a, _ :: b, h => by simp [Lq.length h.2]
  | [], _ :: _, h => h.elim
  | _ :: _, [], h => h.elim
theorem Lq.neg : ∀ {a b : List Int}, Lq a b → Lq (b.map (fun x => -x)) (a.map (fun x => -x))
  | [], [], _ => trivial
  | x :: a, y :: b, h => ⟨by show -y ≤ -x; have := h.1; omega, Lq.neg h.2⟩
  | [], _ :: _, h => h.elim
  | _ :: _, [], h => h.elim
theorem neg_neg_map (l : List Int) : (l.map (fun x => -x)).map (fun x => -x) = l := by
  rw [List.map_map]
  have : ((fun x : Int => -x) ∘ fun x => -x) = id := by funext x; simp
  rw [this, List.map_id]
theorem upL_neg {s : Int} : ∀ {l : List Int}, UpL s l → UpR s (l.map (fun x => -x))
  | [], _ => trivial
  | [_], _ => trivial
  | x :: y :: r, h => ⟨by show -x ≤ -y + s; have := h.1; omega, upL_neg (l := y :: r) h.2⟩
theorem upR_neg {s : Int} : ∀ {l : List Int}, UpR s l → UpL s (l.map (fun x => -x))
  | [], _ => trivial
  | [_], _ => trivial
  | x :: y :: r, h => ⟨by show -y ≤ -x + s; have := h.1; omega, upR_neg (l := y :: r) h.2⟩
theorem Gentle.neg {s : Int} {l : List Int} (h : Gentle s l) : Gentle s (l.map (fun x => -x)) := ⟨upR_neg h.2, upL_neg h.1⟩
theorem cutFrom_len (s : Int) : ∀ (p : Int) (l : List Int), (cutFrom s p l).length = l.length
  | _, [] => rfl
  | p, h :: r => by simp [cutFrom, cutFrom_len s _ r]
theorem cutOn_len (s : Int) : ∀ l : List Int, (cutOn s l).length = l.length
  | [] => rfl
  | x :: r => by simp [cutOn, cutFrom_len]
theorem cutTo_len (s : Int) (l : List Int) : (cutTo s l).length = l.length := by
  unfold cutTo
  rw [List.length_reverse, cutOn_len, List.length_reverse, cutOn_len]
theorem fillTo_len (s : Int) (l : List Int) : (fillTo s l).length = l.length := by
  unfold fillTo
  rw [List.length_map, cutTo_len, List.length_map]
theorem cutFrom_snoc (s : Int) (x : Int) : ∀ (p : Int) (l : List Int), cutFrom s p (l ++ [x]) = cutFrom s p l ++ [min x ((cutFrom s p l).getLastD p + s)]
  | p, [] => rfl
  | p, h :: r => by
    show min h (p + s) :: cutFrom s (min h (p + s)) (r ++ [x]) = min h (p + s) :: (cutFrom s (min h (p + s)) r ++ [min x ((min h (p + s) :: cutFrom s (min h (p + s)) r).getLastD p + s)])
    rw [cutFrom_snoc s x _ r, List.getLastD_cons]
theorem cutOn_snoc (s x y : Int) (l : List Int) : cutOn s ((y :: l) ++ [x]) = cutOn s (y :: l) ++ [min x ((cutOn s (y :: l)).getLastD 0 + s)] := by
  show y :: cutFrom s y (l ++ [x]) = y :: (cutFrom s y l ++ [min x ((y :: cutFrom s y l).getLastD 0 + s)])
  rw [cutFrom_snoc, List.getLastD_cons]
theorem cutBack_ne {s : Int} {x : Int} {r : List Int} : cutBack s (x :: r) ≠ [] := by
  unfold cutBack
  split <;> simp
theorem getLastD_rev {α : Type} (d b : α) (t : List α) : ((b :: t).reverse).getLastD d = b := by
  rw [List.reverse_cons, List.getLastD_concat]
theorem cutOn_rev (s : Int) : ∀ l : List Int, cutOn s l.reverse = (cutBack s l).reverse
  | [] => rfl
  | [x] => rfl
  | x :: y :: r => by
    have ih := cutOn_rev s (y :: r)
    have e : (x :: y :: r).reverse = (y :: r).reverse ++ [x] := List.reverse_cons
    rw [e]
    cases h : (y :: r).reverse with
    | nil => simp at h
    | cons z t =>
      rw [cutOn_snoc, ← h, ih]
      show _ = (match cutBack s (y :: r) with
        | [] => [x]
        | b :: t => min x (b + s) :: b :: t).reverse
      cases hb : cutBack s (y :: r) with
      | nil => exact absurd hb cutBack_ne
      | cons b t' =>
        rw [getLastD_rev]
        show (b :: t').reverse ++ [min x (b + s)] = (min x (b + s) :: b :: t').reverse
        rw [List.reverse_cons (a := min x (b + s))]
theorem cutTo_eq (s : Int) (l : List Int) : cutTo s l = cutBack s (cutOn s l) := by
  unfold cutTo
  rw [cutOn_rev, List.reverse_reverse]
theorem cutFrom_le (s : Int) : ∀ (p : Int) (l : List Int), Lq (cutFrom s p l) l
  | _, [] => trivial
  | p, h :: r => ⟨Int.min_le_left _ _, cutFrom_le s _ r⟩
theorem cutOn_le (s : Int) : ∀ l : List Int, Lq (cutOn s l) l
  | [] => trivial
  | x :: r => ⟨Int.le_refl x, cutFrom_le s x r⟩
theorem cutFrom_upL (s : Int) : ∀ (p : Int) (l : List Int), UpL s (p :: cutFrom s p l)
  | _, [] => trivial
  | p, h :: r => ⟨Int.min_le_right _ _, cutFrom_upL s _ r⟩
theorem cutOn_upL (s : Int) : ∀ l : List Int, UpL s (cutOn s l)
  | [] => trivial
  | x :: r => cutFrom_upL s x r
theorem cutBack_le (s : Int) : ∀ l : List Int, Lq (cutBack s l) l
  | [] => trivial
  | x :: r => by
    have ih := cutBack_le s r
    unfold cutBack
    cases hb : cutBack s r with
    | nil => rw [hb] at ih; cases r with
      | nil => exact ⟨Int.le_refl x, trivial⟩
      | cons _ _ => exact ih.elim
    | cons b t => rw [hb] at ih; exact ⟨Int.min_le_left _ _, ih⟩
theorem cutBack_upR (s : Int) : ∀ l : List Int, UpR s (cutBack s l)
  | [] => trivial
  | x :: r => by
    have ih := cutBack_upR s r
    unfold cutBack
    cases hb : cutBack s r with
    | nil => exact trivial
    | cons b t => rw [hb] at ih; exact ⟨Int.min_le_right _ _, ih⟩
theorem cutBack_upL {s : Int} (h0 : 0 ≤ s) : ∀ l : List Int, UpL s l → UpL s (cutBack s l)
  | [], _ => trivial
  | [x], _ => trivial
  | x :: y :: r, h => by
    have ih := cutBack_upL h0 (y :: r) h.2
    have le := cutBack_le s (y :: r)
    show UpL s (match cutBack s (y :: r) with | [] => [x] | b :: t => min x (b + s) :: b :: t)
    cases hb : cutBack s (y :: r) with
    | nil => exact trivial
    | cons b t =>
      rw [hb] at ih le
      have h1 := h.1
      have h2 : b ≤ y := le.1
      refine ⟨?_, ih⟩
      omega
theorem cutFrom_max {s : Int} : ∀ {p q : Int} {b l : List Int}, q ≤ p → UpL s (q :: b) → Lq b l → Lq b (cutFrom s p l)
  | _, _, [], [], _, _, _ => trivial
  | p, q, x :: b, h :: r, hq, hu, hl => by
    have h1 := hu.1
    have h2 := hl.1
    have h3 : x ≤ min h (p + s) := by omega
    exact ⟨h3, cutFrom_max h3 hu.2 hl.2⟩
  | _, _, [], _ :: _, _, _, h => h.elim
  | _, _, _ :: _, [], _, _, h => h.elim
theorem cutOn_max {s : Int} : ∀ {b l : List Int}, UpL s b → Lq b l → Lq b (cutOn s l)
  | [], [], _, _ => trivial
  | x :: b, y :: l, hu, hl => ⟨hl.1, cutFrom_max hl.1 hu hl.2⟩
  | [], _ :: _, _, h => h.elim
  | _ :: _, [], _, h => h.elim
theorem cutBack_max {s : Int} : ∀ {b l : List Int}, UpR s b → Lq b l → Lq b (cutBack s l)
  | [], [], _, _ => trivial
  | [x], [y], _, hl => hl
  | x :: z :: b, y :: w :: l, hu, hl => by
    have ih := cutBack_max (b := z :: b) (l := w :: l) hu.2 hl.2
    show Lq (x :: z :: b) (match cutBack s (w :: l) with | [] => [y] | b :: t => min y (b + s) :: b :: t)
    cases hb : cutBack s (w :: l) with
    | nil => exact absurd hb cutBack_ne
    | cons c t =>
      rw [hb] at ih
      have h1 := hu.1
      have h2 := hl.1
      have h3 := ih.1
      exact ⟨by omega, ih⟩
  | [_], _ :: _ :: _, _, h => h.2.elim
  | _ :: _ :: _, [_], _, h => h.2.elim
  | [], _ :: _, _, h => h.elim
  | _ :: _, [], _, h => h.elim
theorem cutTo_gentle {s : Int} (h0 : 0 ≤ s) (l : List Int) : Gentle s (cutTo s l) := by
  rw [cutTo_eq]
  exact ⟨cutBack_upL h0 _ (cutOn_upL s l), cutBack_upR s _⟩
theorem cutTo_le (s : Int) (l : List Int) : Lq (cutTo s l) l := by
  rw [cutTo_eq]
  exact (cutBack_le s _).trans (cutOn_le s l)
theorem cutTo_max {s : Int} {b l : List Int} (hb : Gentle s b) (h : Lq b l) : Lq b (cutTo s l) := by
  rw [cutTo_eq]
  exact cutBack_max hb.2 (cutOn_max hb.1 h)
theorem fillTo_gentle {s : Int} (h0 : 0 ≤ s) (l : List Int) : Gentle s (fillTo s l) := (cutTo_gentle h0 _).neg
theorem fillTo_ge (s : Int) (l : List Int) : Lq l (fillTo s l) := by
  have := (cutTo_le s (l.map (fun x => -x))).neg
  rw [neg_neg_map] at this
  exact this
theorem fillTo_min {s : Int} {b l : List Int} (hb : Gentle s b) (h : Lq l b) : Lq (fillTo s l) b := by
  have := (cutTo_max hb.neg h.neg).neg
  rw [neg_neg_map] at this
  exact this
theorem cutTo_idle {s : Int} (h0 : 0 ≤ s) {l : List Int} : cutTo s l = l ↔ Gentle s l :=
  ⟨fun h => h ▸ cutTo_gentle h0 l, fun h => (cutTo_le s l).antisymm (cutTo_max h (Lq.refl l))⟩
theorem fillTo_idle {s : Int} (h0 : 0 ≤ s) {l : List Int} : fillTo s l = l ↔ Gentle s l :=
  ⟨fun h => h ▸ fillTo_gentle h0 l, fun h => (fillTo_min h (Lq.refl l)).antisymm (fillTo_ge s l)⟩
def gap (x y : Int) : Int := if y - x < 0 then -(y - x) else y - x
def gaps : List Int → List Int
  | x :: y :: r => gap x y :: gaps (y :: r)
  | _ => []
theorem foldl_max_le {m a : Int} : ∀ {l : List Int}, l.foldl max a ≤ m ↔ a ≤ m ∧ ∀ x ∈ l, x ≤ m
  | [] => by simp
  | y :: l => by
    rw [List.foldl_cons, foldl_max_le (l := l)]
    constructor
    · intro ⟨h, g⟩
      refine ⟨by omega, fun x hx => ?_⟩
      rcases List.mem_cons.mp hx with e | hx
      · omega
      · exact g x hx
    · intro ⟨h, g⟩
      have := g y (by simp)
      exact ⟨by omega, fun x hx => g x (by simp [hx])⟩
theorem foldl_min_mem {a : Int} : ∀ {l : List Int}, l.foldl min a ∈ a :: l
  | [] => by simp
  | y :: l => by
    rw [List.foldl_cons]
    rcases List.mem_cons.mp (foldl_min_mem (a := min a y) (l := l)) with h | h
    · rw [h]
      rcases (show min a y = a ∨ min a y = y by omega) with e | e
      · rw [e]; simp
      · rw [e]; simp
    · simp [h]
end Pl
namespace Pl
theorem diff_nonneg : ∀ {a b : List Int}, Lq a b → ∀ t ∈ List.zipWith (fun x y => y - x) a b, 0 ≤ t
  | [], [], _ => by simp
  | x :: a, y :: b, h => by
    intro t ht
    rw [List.zipWith_cons_cons] at ht
    rcases List.mem_cons.mp ht with e | ht
    · have := h.1; omega
    · exact diff_nonneg h.2 t ht
  | [], _ :: _, h => h.elim
  | _ :: _, [], h => h.elim
theorem gentle_shift {s c : Int} : ∀ {l : List Int}, Gentle s l → Gentle s (l.map (fun x => x + c))
  | [], _ => ⟨trivial, trivial⟩
  | [_], _ => ⟨trivial, trivial⟩
  | x :: y :: r, h => by
    have ih := gentle_shift (c := c) (l := y :: r) ⟨h.1.2, h.2.2⟩
    have h1 := h.1.1
    have h2 := h.2.1
    exact ⟨⟨by show y + c ≤ x + c + s; omega, ih.1⟩, ⟨by show x + c ≤ y + c + s; omega, ih.2⟩⟩
end Pl
namespace Pl
def aI (i : Int) : Int := if i < 0 then -i else i
def minOf : List Int → Int
  | [] => 0
  | x :: r => r.foldl min x
def maxOf : List Int → Int
  | [] => 0
  | x :: r => r.foldl max x
theorem minOf_mem {l : List Int} (h : l ≠ []) : minOf l ∈ l := by
  cases l with
  | nil => exact absurd rfl h
  | cons y r => exact foldl_min_mem
theorem le_minOf {l : List Int} {m : Int} (hl : l ≠ []) (h : ∀ x ∈ l, m ≤ x) : m ≤ minOf l := h _ (minOf_mem hl)
def reach (s : Int) (l : List Int) (i : Int) : List Int := (List.range l.length).map fun (j : Nat) => l.getD j 0 + s * aI (i - (j : Int))
def reachF (s : Int) (l : List Int) (i : Int) : List Int := (List.range l.length).map fun (j : Nat) => l.getD j 0 - s * aI (i - (j : Int))
end Pl
namespace Pl
theorem UpL.mono {s t : Int} (h : s ≤ t) : ∀ {l : List Int}, UpL s l → UpL t l
  | [], _ => trivial
  | [_], _ => trivial
  | x :: y :: r, g => ⟨by have := g.1; omega, UpL.mono h g.2⟩
theorem UpR.mono {s t : Int} (h : s ≤ t) : ∀ {l : List Int}, UpR s l → UpR t l
  | [], _ => trivial
  | [_], _ => trivial
  | x :: y :: r, g => ⟨by have := g.1; omega, UpR.mono h g.2⟩
theorem Gentle.mono {s t : Int} (h : s ≤ t) {l : List Int} (g : Gentle s l) : Gentle t l := ⟨g.1.mono h, g.2.mono h⟩
theorem lq_shift {c : Int} : ∀ {a b : List Int}, Lq a b → Lq (a.map (fun x => x + c)) (b.map (fun x => x + c))
  | [], [], _ => trivial
  | x :: a, y :: b, h => ⟨by show x + c ≤ y + c; have := h.1; omega, lq_shift h.2⟩
  | [], _ :: _, h => h.elim
  | _ :: _, [], h => h.elim
theorem shift_shift (c d : Int) (l : List Int) : (l.map (fun x => x + c)).map (fun x => x + d) = l.map (fun x => x + (c + d)) := by
  rw [List.map_map]; apply List.map_congr_left; intro x _; show x + c + d = x + (c + d); omega
theorem shift_zero (l : List Int) : l.map (fun x => x + 0) = l := by
  have : (fun x : Int => x + 0) = id := by funext x; simp
  rw [this, List.map_id]
theorem cutTo_mono {s : Int} (h0 : 0 ≤ s) {a b : List Int} (h : Lq a b) : Lq (cutTo s a) (cutTo s b) := cutTo_max (cutTo_gentle h0 a) ((cutTo_le s a).trans h)
theorem fillTo_mono {s : Int} (h0 : 0 ≤ s) {a b : List Int} (h : Lq a b) : Lq (fillTo s a) (fillTo s b) := fillTo_min (fillTo_gentle h0 b) (h.trans (fillTo_ge s b))
theorem fillTo_neg (s : Int) (l : List Int) : fillTo s (l.map (fun x => -x)) = (cutTo s l).map (fun x => -x) := by
  unfold fillTo; rw [neg_neg_map]
theorem cutTo_neg (s : Int) (l : List Int) : cutTo s (l.map (fun x => -x)) = (fillTo s l).map (fun x => -x) := by
  unfold fillTo; rw [neg_neg_map]
theorem cutTo_shift {s : Int} (h0 : 0 ≤ s) (c : Int) (l : List Int) : cutTo s (l.map (fun x => x + c)) = (cutTo s l).map (fun x => x + c) := by
  refine Lq.antisymm ?_ (cutTo_max (gentle_shift (cutTo_gentle h0 l)) (lq_shift (cutTo_le s l)))
  have h1 : Lq ((cutTo s (l.map (fun x => x + c))).map (fun x => x + -c)) (cutTo s l) := by
    refine cutTo_max (gentle_shift (cutTo_gentle h0 _)) ?_
    have := lq_shift (c := -c) (cutTo_le s (l.map (fun x => x + c)))
    rw [shift_shift, show c + -c = 0 by omega, shift_zero] at this
    exact this
  have := lq_shift (c := c) h1
  rw [shift_shift, show -c + c = 0 by omega, shift_zero] at this
  exact this
theorem neg_shift (c : Int) (l : List Int) : (l.map (fun x => x + c)).map (fun x => -x) = (l.map (fun x => -x)).map (fun x => x + -c) := by
  rw [List.map_map, List.map_map]; apply List.map_congr_left; intro x _; show -(x + c) = -x + -c; omega
theorem fillTo_shift {s : Int} (h0 : 0 ≤ s) (c : Int) (l : List Int) : fillTo s (l.map (fun x => x + c)) = (fillTo s l).map (fun x => x + c) := by
  unfold fillTo
  rw [neg_shift, cutTo_shift h0, neg_shift, show - -c = c by omega]
theorem upL_append {s x y : Int} : ∀ {a b : List Int}, UpL s (a ++ [x]) → UpL s (y :: b) → y ≤ x + s → UpL s (a ++ x :: y :: b)
  | [], _, _, h2, h => ⟨h, h2⟩
  | [a], _, h1, h2, h => ⟨h1.1, h, h2⟩
  | a :: c :: l, _, h1, h2, h => ⟨h1.1, upL_append (a := c :: l) h1.2 h2 h⟩
theorem upR_append {s x y : Int} : ∀ {a b : List Int}, UpR s (a ++ [x]) → UpR s (y :: b) → x ≤ y + s → UpR s (a ++ x :: y :: b)
  | [], _, _, h2, h => ⟨h, h2⟩
  | [a], _, h1, h2, h => ⟨h1.1, h, h2⟩
  | a :: c :: l, _, h1, h2, h => ⟨h1.1, upR_append (a := c :: l) h1.2 h2 h⟩
theorem upL_reverse {s : Int} : ∀ {l : List Int}, UpL s l → UpR s l.reverse
  | [], _ => trivial
  | [_], _ => trivial
  | x :: y :: r, h => by
    have ih := upL_reverse (l := y :: r) h.2
    rw [List.reverse_cons] at ih ⊢
    rw [List.reverse_cons, List.append_assoc]
    exact upR_append ih trivial h.1
theorem upR_reverse {s : Int} : ∀ {l : List Int}, UpR s l → UpL s l.reverse
  | [], _ => trivial
  | [_], _ => trivial
  | x :: y :: r, h => by
    have ih := upR_reverse (l := y :: r) h.2
    rw [List.reverse_cons] at ih ⊢
    rw [List.reverse_cons, List.append_assoc]
    exact upL_append ih trivial h.1
theorem Gentle.reverse {s : Int} {l : List Int} (h : Gentle s l) : Gentle s l.reverse := ⟨upR_reverse h.2, upL_reverse h.1⟩
theorem maxOf_le {l : List Int} {m : Int} (hl : l ≠ []) (h : ∀ x ∈ l, x ≤ m) : maxOf l ≤ m := by
  cases l with
  | nil => exact absurd rfl hl
  | cons y r => exact foldl_max_le.mpr ⟨h y (by simp), fun x hx => h x (by simp [hx])⟩
theorem le_maxOf {l : List Int} {x : Int} (h : x ∈ l) : x ≤ maxOf l := by
  cases l with
  | nil => simp at h
  | cons y r =>
    have := (foldl_max_le (m := r.foldl max y) (a := y) (l := r)).mp (Int.le_refl _)
    rcases List.mem_cons.mp h with e | h
    · rw [e]; exact this.1
    · exact this.2 x h
end Pl
namespace Pl
open PySem PySem.Spec PyProof.Rows L2
abbrev N_mirrored : List Str := [("dune" : Str)]
def T_mirrored : TSp :=
  (pRet (pVal (pCB fTup (pCons (pUn fRev (pVar 0)) pNil))))
abbrev N_upside : List Str := [("dune" : Str), ("height" : Str)]
def T_upside : TSp :=
  (pRet (pVal (pCB fTup (pCons (pLc (jSeq (pVar 0)) (hName 1) pYes (pUn fNeg (pVar 1)) [1]) pNil))))
abbrev N_blown : List Str := [("dune" : Str), ("wind" : Str), ("word" : Str), ("slope" : Str)]
def T_blown (g_upside : FA) (g_cut_to : FA) : TSp :=
  (pSeq (pAsg (pVar 1) (hTup 2 (hCons (hName 2) (hCons (hName 3) hNil))))
    (pSeq (pIfS (pTest (pOp fEq (pVar 2) (pC (.str "cut"))))
    (pRet (pCallA 2 g_cut_to (pCons (pVar 0) (pCons (pVar 3) pNil))))
    pNext)
    (pRet (pCallA 1 g_upside (pCons (pFrz (pCallA 2 g_cut_to (pCons (pFrz (pCallA 1 g_upside (pCons (pVar 0) pNil))) (pCons (pVar 3) pNil)))) pNil)))))
abbrev N_cut_to : List Str := [("dune" : Str), ("slope" : Str), ("onward" : Str)]
def T_cut_to (g_mirrored : FA) (g_cut_onward : FA) : TSp :=
  (pSeq (pSet 2 (pCallA 2 g_cut_onward (pCons (pVar 0) (pCons (pVar 1) pNil))))
    (pRet (pCallA 1 g_mirrored (pCons (pFrz (pCallA 2 g_cut_onward (pCons (pFrz (pCallA 1 g_mirrored (pCons (pVar 2) pNil))) (pCons (pVar 1) pNil)))) pNil))))
abbrev N_cut_onward : List Str := [("dune" : Str), ("slope" : Str), ("heights" : Str), ("height" : Str)]
def T_cut_onward : TSp :=
  (pSeq (pSet 2 (pLstO (pCons (pIxO 0 (pC (.int 0))) pNil)))
    (pSeq (pFor (jSeq (pSl (pVar 0) (pPart (pC (.int 1))) pNoPart)) (hName 3)
    (pAppend 2 (pCB fMin2 (pCons (pVar 3) (pCons (pOp fAdd (pIxO 2 (pUn fNeg (pC (.int 1)))) (pVar 1)) pNil)))))
    (pRet (pMove 2))))
abbrev N__law_cell_at : List Str := [("_law_script" : Str), ("_law_k" : Str)]
def T__law_cell_at : TSp :=
  (pSeq (pIfS (pTest (pOp fLt (pVar 1) (pLenO 0)))
    (pRet (pVal (pIxO 0 (pVar 1))))
    pNext)
    (pRet (pVal (pC (.int 0)))))
abbrev N__law_box : List Str := [("_law_script" : Str), ("_law_k" : Str), ("_law_cell" : Str)]
def T__law_box (g__law_cell_at : FA) : TSp :=
  (pSeq (pSet 2 (pCallA 2 g__law_cell_at (pCons (pVar 0) (pCons (pVar 1) pNil))))
    (pRet (pLstO (pCons (pOp fMulI (pCB fAbs (pCons (pVar 2) pNil)) (pCB fInt1 (pCons (pOp fGe (pCB fAbs (pCons (pVar 2) pNil)) (pC (.int 1000000000000000000))) pNil))) (pCons (pOp fAdd (pOp fAdd (pOp fMod (pVar 2) (pC (.int 2305843009213693951))) (pOp fMulI (pC (.int 39373)) (pVar 1))) (pC (.int 17))) (pCons (pC (.int 0)) pNil))))))
abbrev N__law_take : List Str := [("_law_box_here" : Str), ("_law_size" : Str), ("_law_told" : Str), ("_law_once" : Str), ("_law_twice" : Str)]
def T__law_take (g__law_take : FB) : TSp :=
  (pSeq (pIfS (pTest (pOp fGt (pIxO 0 (pC (.int 0))) (pC (.int 0))))
    (pSeq (pSet 2 (pVal (pOp fMod (pIxO 0 (pC (.int 0))) (pVar 1))))
    (pSeq (pStore 0 (pC (.int 0)) (pOp fDiv (pIxO 0 (pC (.int 0))) (pVar 1)))
    (pRet (pMove 2))))
    pNext)
    (pSeq (pIfS (pTest (pOp fGt (pVar 1) (pC (.int 10000000))))
    (pRet (pVal (pOp fMod (pOp fAdd (pFrz (pCallB 0 2 g__law_take (pCons (pC (.int 10000000)) pNil))) (pOp fMulI (pC (.int 10000000)) (pFrz (pCallB 0 2 g__law_take (pCons (pOp fAdd (pOp fDiv (pOp fSub (pVar 1) (pC (.int 1))) (pC (.int 10000000))) (pC (.int 1))) pNil))))) (pVar 1))))
    pNext)
    (pSeq (pStore 0 (pC (.int 2)) (pOp fAdd (pIxO 0 (pC (.int 2))) (pC (.int 1))))
    (pSeq (pSet 3 (pVal (pOp fMod (pOp fMulI (pOp fAdd (pIxO 0 (pC (.int 1))) (pOp fMulI (pC (.int 48271)) (pIxO 0 (pC (.int 2))))) (pOp fAdd (pC (.int 39373)) (pIxO 0 (pC (.int 2))))) (pC (.int 2147483647)))))
    (pSeq (pSet 4 (pVal (pOp fMod (pOp fMulI (pOp fAdd (pOp fAdd (pVar 3) (pIxO 0 (pC (.int 2)))) (pOp fDiv (pIxO 0 (pC (.int 1))) (pC (.int 1000003)))) (pOp fAdd (pOp fMod (pVar 3) (pC (.int 40009))) (pC (.int 7)))) (pC (.int 2147483629)))))
    (pRet (pVal (pOp fMod (pOp fDiv (pOp fMod (pOp fAdd (pOp fMulI (pVar 4) (pC (.int 48271))) (pVar 3)) (pC (.int 2147483587))) (pC (.int 64))) (pVar 1)))))))))
abbrev N__law_dune : List Str := [("_law_box_here" : Str), ("_law_size" : Str), ("_law_many" : Str), ("_law_wide" : Str), ("_law_told" : Str), ("_law_pole" : Str)]
def T__law_dune (g__law_take : FB) : TSp :=
  (pSeq (pPar 2 3 (pCons (pOp fAdd (pC (.int 1)) (pFrz (pCallB 0 2 g__law_take (pCons (pVar 1) pNil)))) (pCons (pOp fIx (pLst (pCons (pC (.int 2)) (pCons (pC (.int 12)) (pCons (pC (.int 60)) (pCons (pC (.int 1000000000)) pNil))))) (pFrz (pCallB 0 2 g__law_take (pCons (pC (.int 4)) pNil)))) pNil)))
    (pSeq (pSet 4 (pLstO pNil))
    (pSeq (pFor (jRng1 (pCons (pVar 2) pNil)) (hName 5)
    (pAppend 4 (pOp fIx (pLst (pCons (pC (.int 0)) (pCons (pVar 3) (pCons (pOp fSub (pFrz (pCallB 0 2 g__law_take (pCons (pOp fAdd (pOp fMulI (pC (.int 2)) (pVar 3)) (pC (.int 1))) pNil))) (pVar 3)) (pCons (pFrz (pCallB 0 2 g__law_take (pCons (pOp fAdd (pVar 3) (pC (.int 1))) pNil))) pNil))))) (pFrz (pCallB 0 2 g__law_take (pCons (pC (.int 4)) pNil))))))
    (pRet (pVal (pCB fTup (pCons (pVar 4) pNil)))))))
abbrev N_days : List Str := [("dune" : Str), ("almanac" : Str), ("rows" : Str), ("wind" : Str)]
def T_days (g_blown : FA) : TSp :=
  (pSeq (pSet 2 (pLstO (pCons (pCB fTup (pCons (pVar 0) pNil)) pNil)))
    (pSeq (pFor (jSeq (pVar 1)) (hName 3)
    (pAppend 2 (pFrz (pCallA 2 g_blown (pCons (pIxO 2 (pUn fNeg (pC (.int 1)))) (pCons (pVar 3) pNil))))))
    (pRet (pMove 2))))
abbrev N__law_same : List Str := [("_law_told" : Str), ("_law_due" : Str), ("_law_here" : Str), ("_law_two" : Str)]
def T__law_same (g__law_same : FA) : TSp :=
  (pSeq (pIfS (pTest (pIsi2 D.isLst D.isTup (pVar 1)))
    (pSeq (pIfS (pOr (pTest (pOp fNe (pIsi D.isLst (pVar 0)) (pIsi D.isLst (pVar 1)))) (pTest (pOp fNe (pIsi D.isTup (pVar 0)) (pIsi D.isTup (pVar 1)))))
    (pRet (pVal (pC (.bl false))))
    pNext)
    (pRet (pVal (pAndV (pOp fEq (pLenO 0) (pLenO 1)) (pCB fAll (pCons (pLc (jZ2 (pCons (pVar 0) (pCons (pVar 1) pNil))) (hTup 2 (hCons (hName 2) (hCons (hName 3) hNil))) pYes (pFrz (pCallA 2 g__law_same (pCons (pVar 2) (pCons (pVar 3) pNil)))) [2, 3]) pNil))))))
    pNext)
    (pSeq (pIfS (pOr (pTest (pOp fIsN (pVar 1) (pC .non))) (pTest (pIsi2 D.isBl D.isStr (pVar 1))))
    (pRet (pVal (pAndV (pOp fEq (pVar 0) (pVar 1)) (pAndV (pOp fEq (pIsi D.isBl (pVar 0)) (pIsi D.isBl (pVar 1))) (pOp fEq (pOp fIsN (pVar 0) (pC .non)) (pOp fIsN (pVar 1) (pC .non)))))))
    pNext)
    (pRet (pVal (pAndV (pIsi D.isInt (pVar 0)) (pAndV (pNotV (pIsi D.isBl (pVar 0))) (pOp fEq (pVar 0) (pVar 1))))))))
abbrev N__law_slope : List Str := [("_law_box_here" : Str)]
def T__law_slope (g__law_take : FB) : TSp :=
  (pRet (pCallB 0 2 g__law_take (pCons (pOp fIx (pLst (pCons (pC (.int 4)) (pCons (pC (.int 9)) (pCons (pC (.int 40)) (pCons (pC (.int 1000000000)) pNil))))) (pFrz (pCallB 0 2 g__law_take (pCons (pC (.int 4)) pNil)))) pNil)))
end Pl
namespace Pl
open PySem PySem.Spec PyProof.Rows L2
def g_mirrored : FA := fun ds C => ∃ d ns, ds = [d] ∧ Sq d ns ∧ C (.val (.tup (dI ns.reverse)))
def g_upside : FA := fun ds C => ∃ d ns, ds = [d] ∧ Sq d ns ∧ ns.length ≤ 1000 ∧ C (.val (.tup (dI (ns.map fun x => -x))))
def g_cut_onward : FA := fun ds C => ∃ d ns s, ds = [d, .int s] ∧ Sq d ns ∧ ns ≠ [] ∧ ns.length ≤ 1000 ∧ ∀ a, C (.own a (dI (cutOn s ns)))
def g_cut_to : FA := fun ds C => ∃ d ns s, ds = [d, .int s] ∧ Sq d ns ∧ ns ≠ [] ∧ ns.length ≤ 1000 ∧ C (.val (.tup (dI (cutTo s ns))))
theorem rd_mirrored : ∀ ds C, ds.length = 1 → g_mirrored ds C → T_mirrored { nx := fun _ => C (.val .non), rt := fun c _ => C c } (startA N_mirrored ds) := by
  rintro ds C - ⟨d, ns, rfl, hd, hC⟩
  unfold dI at hC
  rw [List.map_reverse] at hC
  rcases hd with rfl | rfl <;> exact hC
theorem rd_upside : ∀ ds C, ds.length = 1 → g_upside ds C → T_upside { nx := fun _ => C (.val .non), rt := fun c _ => C c } (startA N_upside ds) := by
  rintro ds C - ⟨d, ns, rfl, hd, hl, hC⟩
  have key : lcW [1] (hName 1) pYes (pUn fNeg (pVar 1)) (fun acc ρ2 => C (.val (.tup acc))) (dI ns) [] [some (.val d), none] := by
    refine lcW_ints (h := fun x => .int (-x)) (fun x _ K hK => hK _ rfl) hl ?_
    unfold dI at hC
    rw [List.map_map] at hC
    exact hC
  rcases hd with rfl | rfl <;> exact key
theorem rd_cut_onward : ∀ ds C, ds.length = 2 → g_cut_onward ds C → T_cut_onward { nx := fun _ => C (.val .non), rt := fun c _ => C c } (startA N_cut_onward ds) := by
  rintro ds C - ⟨d, ns, s, rfl, hd, hne, hl, hC⟩
  cases ns with
  | nil => exact absurd rfl hne
  | cons x r =>
    have key : ∀ (dd : D) (a : Addr) (w : Option Cell) (P : PEnds), (∀ ρ, (∃ w, ρ = [some (.val dd), some (.val (.int s)), some (.own a (dI (cutOn s (x :: r)))), w]) → P.nx ρ) → forW (hName 3) (pAppend 2 (pCB fMin2 (pCons (pVar 3) (pCons (pOp fAdd (pIxO 2 (pUn fNeg (pC (.int 1)))) (pVar 1)) pNil)))) P (dI r) [some (.val dd), some (.val (.int s)), some (.own a [.int x]), w] := by
      intro dd a w P hP
      refine for_inv (fun ds ρ => ∃ (done : List Int) (p : Int) (rest : List Int) (w : Option Cell), ds = dI rest ∧ ρ = [some (.val dd), some (.val (.int s)), some (.own a (dI (done ++ [p]))), w] ∧ cutOn s (x :: r) = done ++ p :: cutFrom s p rest) (fun d rst ρ K hK hI => ?_) (fun ρ hI => ?_) (dI r) _ ⟨[], x, r, w, rfl, rfl, rfl⟩
      · obtain ⟨done, p, rest, w, e1, rfl, e3⟩ := hI
        cases rest with
        | nil => cases e1
        | cons h rest =>
          cases e1
          have hlen : (dI (done ++ [p])).length ≤ 1000 := by
            have := congrArg List.length e3
            rw [cutOn_len] at this
            simp at this ⊢
            simp at hl
            omega
          refine ⟨dI (done ++ [p]), -1, .int p, rfl, rfl, ?_, dI (done ++ [p]), rfl, small1000 hlen, ?_⟩
          · rw [show dI (done ++ [p]) = dI done ++ [.int p] from by simp]
            exact atI_last _ _
          · refine hK _ ⟨done ++ [p], min h (p + s), rest, some (.val (.int h)), rfl, ?_, ?_⟩
            · rw [show dI (done ++ [p] ++ [min h (p + s)]) = dI (done ++ [p]) ++ [.int (min h (p + s))] from by simp]
              rfl
            · rw [e3]; simp [cutFrom]
      · obtain ⟨done, p, rest, w, e1, rfl, e3⟩ := hI
        cases rest with
        | cons h rest => cases e1
        | nil =>
          refine hP _ ⟨w, ?_⟩
          rw [e3]; rfl
    have hz : (1 : Nat) ≤ sizeLine := by decide
    rcases hd with rfl | rfl
    · refine ⟨.int x, atI_zero _ _, hz, fun a => ?_⟩
      show forW _ _ _ (cutD (dI (x :: r)) (some 1) none) _
      rw [cutD_from1]
      refine key _ a _ _ fun ρ ⟨w, e⟩ => ?_
      subst e
      exact hC a
    · refine ⟨.int x, atI_zero _ _, hz, fun a => ?_⟩
      show forW _ _ _ (cutD (dI (x :: r)) (some 1) none) _
      rw [cutD_from1]
      refine key _ a _ _ fun ρ ⟨w, e⟩ => ?_
      subst e
      exact hC a
theorem rev_ne {l : List Int} (h : l ≠ []) : l.reverse ≠ [] := by simpa using h
theorem ne_len {l m : List Int} (h : l.length = m.length) (hm : m ≠ []) : l ≠ [] := by
  intro e; subst e; cases m with
  | nil => exact hm rfl
  | cons _ _ => cases h
theorem rd_cut_to : ∀ ds C, ds.length = 2 → g_cut_to ds C → T_cut_to g_mirrored g_cut_onward { nx := fun _ => C (.val .non), rt := fun c _ => C c } (startA N_cut_to ds) := by
  rintro ds C - ⟨d, ns, s, rfl, hd, hne, hl, hC⟩
  refine ⟨rfl, d, ns, s, rfl, hd, hne, hl, fun a => ?_⟩
  refine ⟨rfl, _, cutOn s ns, rfl, .inr rfl, rfl, _, (cutOn s ns).reverse, s, rfl, .inl rfl, rev_ne (ne_len (cutOn_len s ns) hne), by rw [List.length_reverse, cutOn_len]; exact hl, fun b => ?_⟩
  exact ⟨rfl, _, _, rfl, .inr rfl, hC⟩
def wordS : Bool → Str
  | true => "cut"
  | false => "fill"
def windD (cut : Bool) (s : Int) : D := .tup [.str (wordS cut), .int s]
def blownL (cut : Bool) (s : Int) (ns : List Int) : List Int := if cut = true then cutTo s ns else fillTo s ns
def g_blown : FA := fun ds C => ∃ d ns cut s, ds = [d, windD cut s] ∧ Sq d ns ∧ ns ≠ [] ∧ ns.length ≤ 1000 ∧ C (.val (.tup (dI (blownL cut s ns))))
theorem sh_cut : (D.str "cut").sh := by unfold D.sh; decide +kernel
theorem sh_fill : (D.str "fill").sh := by unfold D.sh; decide +kernel
theorem sh_int (i : Int) : (D.int i).sh := by unfold D.sh toPy; rfl
theorem sh_bl (i : Bool) : (D.bl i).sh := by unfold D.sh toPy; rfl
theorem canLay_ints : ∀ ns : List Int, PyData.canLayAll0 (toPys (dI ns)) = true
  | [] => rfl
  | n :: ns => by
    show (PyData.canLay0 (toPy (.int n)) && PyData.canLayAll0 (toPys (dI ns))) = true
    rw [canLay_ints ns]; rfl
theorem depth_dI : ∀ ns : List Int, PyData.depthAll (toPys (dI ns)) = 0
  | [] => rfl
  | n :: ns => by
    show max (PyData.depth (toPy (.int n))) (PyData.depthAll (toPys (dI ns))) = 0
    rw [depth_dI ns]; rfl
theorem sh_tupI (ns : List Int) : (D.tup (dI ns)).sh := by
  show (PyData.canLayAll0 (toPys (dI ns)) && decide (PyData.depthAll (toPys (dI ns)) + 1 ≤ 64)) = true
  rw [canLay_ints, depth_dI]; rfl
theorem sh_lstI (ns : List Int) : (D.lst (dI ns)).sh := by
  show (PyData.canLayAll0 (toPys (dI ns)) && decide (PyData.depthAll (toPys (dI ns)) + 1 ≤ 64)) = true
  rw [canLay_ints, depth_dI]; rfl
theorem eqvAll_dI : ∀ a b : List Int, PyData.eqvAll (toPys (dI a)) (toPys (dI b)) = decide (a = b)
  | [], [] => rfl
  | [], _ :: _ => rfl
  | _ :: _, [] => rfl
  | x :: a, y :: b => by
    show (x == y && PyData.eqvAll (toPys (dI a)) (toPys (dI b))) = _
    rw [eqvAll_dI a b]
    by_cases h1 : x = y
    · subst h1; simp
    · have : (x == y) = false := by simpa using h1
      rw [this]; simp [h1]
theorem eqv_tupI (a b : List Int) : (D.tup (dI a)).eqv (.tup (dI b)) = decide (a = b) := eqvAll_dI a b
theorem eqv_lstI (a b : List Int) : (D.lst (dI a)).eqv (.lst (dI b)) = decide (a = b) := eqvAll_dI a b
theorem eqv_bl (a b : Bool) : (D.bl a).eqv (.bl b) = (a == b) := rfl
theorem eqv_int (a b : Int) : (D.int a).eqv (.int b) = (a == b) := rfl
theorem rd_blown : ∀ ds C, ds.length = 2 → g_blown ds C → T_blown g_upside g_cut_to { nx := fun _ => C (.val .non), rt := fun c _ => C c } (startA N_blown ds) := by
  rintro ds C - ⟨d, ns, cut, s, rfl, hd, hne, hl, hC⟩
  cases cut with
  | true =>
    refine ⟨rfl, rfl, sh_cut, sh_cut, ifT (by decide +kernel) ?_⟩
    exact ⟨rfl, d, ns, s, rfl, hd, hne, hl, hC⟩
  | false =>
    refine ⟨rfl, rfl, sh_fill, sh_cut, ifF (by decide +kernel) ?_⟩
    refine ⟨rfl, d, ns, rfl, hd, hl, rfl, _, _, s, rfl, .inl rfl, by simpa using hne, by simpa using hl, rfl, _, _, rfl, .inl rfl, by rw [cutTo_len]; simpa using hl, ?_⟩
    exact hC
def g__law_cell_at : FA := fun ds C => ∃ ns k, ds = [.scr ns, .int k] ∧ 0 ≤ k ∧ ∀ n, C (.val (.int n))
theorem rd__law_cell_at : ∀ ds C, ds.length = 2 → g__law_cell_at ds C → T__law_cell_at { nx := fun _ => C (.val .non), rt := fun c _ => C c } (startA N__law_cell_at ds) := by
  rintro ds C - ⟨ns, k, rfl, hk, hC⟩
  refine ifB (fun h => ?_) (fun h => ?_)
  · have h := dT h
    obtain ⟨j, rfl⟩ := Int.eq_ofNat_of_zero_le hk
    have hj : j < ns.length := by simpa using h
    exact ⟨ns[j], atI_nat (List.getElem?_eq_getElem hj), hC _⟩
  · exact hC _
def Bx (n : Nat) (xs : List D) : Prop := ∃ a b c : Int, xs = [.int a, .int b, .int c] ∧ 0 ≤ a ∧ 0 ≤ b ∧ b ≤ 2 ^ 62 ∧ 0 ≤ c ∧ c ≤ n
theorem Bx.mono {n m : Nat} {xs : List D} (h : Bx n xs) (hm : n ≤ m) : Bx m xs := by
  obtain ⟨a, b, c, h1, h2, h3, h4, h5, h6⟩ := h
  exact ⟨a, b, c, h1, h2, h3, h4, h5, by omega⟩
def g__law_box : FA := fun ds C => ∃ ns k, ds = [.scr ns, .int k] ∧ 0 ≤ k ∧ k ≤ 1000000 ∧ ∀ a xs, Bx 0 xs → C (.own a xs)
theorem iabs_nonneg (i : Int) : 0 ≤ iabs i := by unfold iabs; split <;> omega
theorem rd__law_box : ∀ ds C, ds.length = 2 → g__law_box ds C → T__law_box g__law_cell_at { nx := fun _ => C (.val .non), rt := fun c _ => C c } (startA N__law_box ds) := by
  rintro ds C - ⟨ns, k, rfl, hk, hk2, hC⟩
  refine ⟨rfl, ns, k, rfl, hk, fun n => ?_⟩
  refine ⟨.inr ?_, (by show (0 : Int) < 2305843009213693951; decide), .inl (by constructor <;> decide), by show (3 : Nat) ≤ sizeLine; decide, fun a => hC a _ ⟨_, _, _, rfl, ?_, ?_, ?_, Int.le_refl _, Int.le_refl _⟩⟩
  · constructor <;> split <;> decide
  · refine Int.mul_nonneg (iabs_nonneg n) ?_
    split <;> decide
  · have := Int.emod_nonneg n (b := 2305843009213693951) (by decide)
    omega
  · have := Int.emod_lt_of_pos n (b := 2305843009213693951) (by decide)
    omega
def g_take (top : Int) : FB := fun xs ds C => ∃ n size, n ≤ 1000000000000 ∧ Bx n xs ∧ ds = [.int size] ∧ 0 < size ∧ size ≤ top ∧ ∀ r ys, 0 ≤ r → r < size → Bx (n + 2) ys → C (.val (.int r)) ys
def g_none : FB := fun _ _ _ => False
def g_take0 : FB := fun xs ds C => ∃ n size, n ≤ 1000000000001 ∧ Bx n xs ∧ ds = [.int size] ∧ 0 < size ∧ size ≤ 10000000 ∧ ∀ r ys, 0 ≤ r → r < size → Bx (n + 1) ys → C (.val (.int r)) ys
theorem rd_take0g (gg : FB) : ∀ a xs ds C, ds.length + 1 = 2 → g_take0 xs ds C → T__law_take gg { nx := fun ρ => ∃ ys, ρ[0]? = some (some (.own a ys)) ∧ C (.val .non) ys, rt := fun c ρ => ∃ ys, ρ[0]? = some (some (.own a ys)) ∧ C c ys } (startB N__law_take a xs ds) := by
  rintro a xs ds C - ⟨n, size, hn, ⟨b0, b1, b2, rfl, h0, h1, h1', h2, h2'⟩, rfl, hs0, hs, hC⟩
  refine ⟨_, _, _, rfl, rfl, rfl, ifB (fun h => ?_) (fun h => ?_)⟩
  · have h := dT h
    refine ⟨_, _, _, rfl, rfl, rfl, hs0, _, _, _, rfl, rfl, rfl, ⟨hs0, by omega⟩, _, _, _, rfl, rfl, rfl, _, rfl, hC _ _ (Int.emod_nonneg _ (by omega)) (Int.emod_lt_of_pos _ hs0) ⟨_, _, _, rfl, Int.ediv_nonneg h0 (by omega), h1, h1', h2, by omega⟩⟩
  · refine ifF (decide_eq_false (by omega)) ?_
    refine ⟨_, _, _, rfl, rfl, rfl, _, _, _, rfl, rfl, rfl, ?_⟩
    refine ⟨_, _, _, rfl, rfl, rfl, _, _, _, rfl, rfl, rfl, .inl ⟨by decide, by decide⟩, _, _, _, rfl, rfl, rfl, .inr ⟨?_, ?_⟩, (by show (0 : Int) < 2147483647; decide), ?_⟩
    · show (-(2 ^ 64) : Int) < 39373 + (b2 + 1); omega
    · show (39373 + (b2 + 1) : Int) < 2 ^ 64; omega
    refine ⟨_, _, _, rfl, rfl, rfl, _, _, _, rfl, rfl, rfl, ⟨by decide, by decide⟩, (by show (0 : Int) < 40009; decide), .inr ⟨?_, ?_⟩, (by show (0 : Int) < 2147483629; decide), ?_⟩
    · have := Int.emod_nonneg ((b1 + 48271 * (b2 + 1)) * (39373 + (b2 + 1)) % 2147483647) (b := 40009) (by decide)
      show (-(2 ^ 64) : Int) < (b1 + 48271 * (b2 + 1)) * (39373 + (b2 + 1)) % 2147483647 % 40009 + 7
      omega
    · have := Int.emod_lt_of_pos ((b1 + 48271 * (b2 + 1)) * (39373 + (b2 + 1)) % 2147483647) (b := 40009) (by decide)
      show (b1 + 48271 * (b2 + 1)) * (39373 + (b2 + 1)) % 2147483647 % 40009 + 7 < (2 ^ 64 : Int)
      omega
    refine ⟨.inr ⟨by decide, by decide⟩, (by show (0 : Int) < 2147483587; decide), ⟨by decide, by decide⟩, hs0, _, rfl, hC _ _ (Int.emod_nonneg _ (by omega)) (Int.emod_lt_of_pos _ hs0) ⟨_, _, _, rfl, h0, h1, h1', by omega, ?_⟩⟩
    show b2 + 1 ≤ ((n + 1 : Nat) : Int)
    omega
theorem rd_take0 : ∀ a xs ds C, ds.length + 1 = 2 → g_take0 xs ds C → T__law_take g_none { nx := fun ρ => ∃ ys, ρ[0]? = some (some (.own a ys)) ∧ C (.val .non) ys, rt := fun c ρ => ∃ ys, ρ[0]? = some (some (.own a ys)) ∧ C c ys } (startB N__law_take a xs ds) := rd_take0g g_none
theorem rd_take : ∀ a xs ds C, ds.length + 1 = 2 → g_take 100000000000000 xs ds C → T__law_take g_take0 { nx := fun ρ => ∃ ys, ρ[0]? = some (some (.own a ys)) ∧ C (.val .non) ys, rt := fun c ρ => ∃ ys, ρ[0]? = some (some (.own a ys)) ∧ C c ys } (startB N__law_take a xs ds) := by
  rintro a xs ds C - ⟨n, size, hn, hB, rfl, hs0, hs, hC⟩
  have hB' := hB
  obtain ⟨b0, b1, b2, rfl, h0, h1, h1', h2, h2'⟩ := hB
  by_cases hbig : size ≤ 10000000
  · exact rd_take0g g_take0 a _ _ C rfl ⟨n, size, by omega, hB', rfl, hs0, hbig, fun r ys q1 q2 q3 => hC r ys q1 q2 (q3.mono (by omega))⟩
  · refine ⟨_, _, _, rfl, rfl, rfl, ifB (fun h => ?_) (fun h => ?_)⟩
    · have h := dT h
      refine ⟨_, _, _, rfl, rfl, rfl, hs0, _, _, _, rfl, rfl, rfl, ⟨hs0, by omega⟩, _, _, _, rfl, rfl, rfl, _, rfl, hC _ _ (Int.emod_nonneg _ (by omega)) (Int.emod_lt_of_pos _ hs0) ⟨_, _, _, rfl, Int.ediv_nonneg h0 (by omega), h1, h1', h2, by omega⟩⟩
    · refine ifT (decide_eq_true (by omega)) ?_
      refine ⟨_, rfl, rfl, n, 10000000, by omega, hB', rfl, by decide, by decide, fun r1 ys1 q1 q2 q3 => ?_⟩
      have e1 : 0 ≤ (size - 1) / 10000000 := Int.ediv_nonneg (by omega) (by decide)
      have e2 : (size - 1) / 10000000 < 10000000 := Int.ediv_lt_of_lt_mul (by decide) (by omega)
      refine ⟨⟨by decide, by decide⟩, _, rfl, rfl, n + 1, (size - 1) / 10000000 + 1, by omega, q3, rfl, by omega, by omega, fun r2 ys2 p1 p2 p3 => ?_⟩
      refine ⟨.inl ⟨by decide, by decide⟩, hs0, _, rfl, hC _ _ (Int.emod_nonneg _ (by omega)) (Int.emod_lt_of_pos _ hs0) p3⟩
theorem mem_of_atI {α : Type} {xs : List α} {i : Int} {v : α} (h : atI xs i = some v) : v ∈ xs := by
  obtain ⟨j, _, h2, _⟩ := atI_get h
  exact List.mem_of_getElem? h2
theorem atI_below {α : Type} {xs : List α} {i : Int} (h0 : 0 ≤ i) (h1 : i < xs.length) : ∃ v, atI xs i = some v := by
  obtain ⟨j, rfl⟩ := Int.eq_ofNat_of_zero_le h0
  exact ⟨xs[j]'(by omega), atI_nat (List.getElem?_eq_getElem (by omega))⟩
def g__law_dune : FB := fun xs ds C => ∃ n size, n ≤ 100000000000 ∧ Bx n xs ∧ ds = [.int size] ∧ 0 < size ∧ size ≤ 100 ∧ ∀ ns zs, ns ≠ [] → (ns.length : Int) ≤ size → (∀ x ∈ ns, -1000000000 ≤ x ∧ x ≤ 1000000000) → Bx (n + 2000) zs → C (.val (.tup (dI ns))) zs
theorem rd__law_dune : ∀ a xs ds C, ds.length + 1 = 2 → g__law_dune xs ds C → T__law_dune (g_take 100000000000000) { nx := fun ρ => ∃ ys, ρ[0]? = some (some (.own a ys)) ∧ C (.val .non) ys, rt := fun c ρ => ∃ ys, ρ[0]? = some (some (.own a ys)) ∧ C c ys } (startB N__law_dune a xs ds) := by
  rintro a xs ds C - ⟨n, size, hn, hB, rfl, hs0, hs, hC⟩
  refine ⟨_, rfl, rfl, n, size, by omega, hB, rfl, by omega, by omega, fun many ys1 q1 q2 q3 => ?_⟩
  refine ⟨by show (4 : Nat) ≤ sizeLine; decide, _, rfl, rfl, n + 2, 4, by omega, q3, rfl, by decide, by decide, fun r2 ys2 p1 p2 p3 => ?_⟩
  obtain ⟨v, hv⟩ := atI_below (xs := [D.int 2, .int 12, .int 60, .int 1000000000]) p1 p2
  refine ⟨v, hv, ?_⟩
  obtain ⟨wide, rfl, hw0, hw⟩ : ∃ wide, v = .int wide ∧ 0 < wide ∧ wide ≤ 1000000000 := by
    have := mem_of_atI hv
    simp at this
    rcases this with e | e | e | e <;> subst e <;> exact ⟨_, rfl, by decide, by decide⟩
  refine ⟨by show (0 : Nat) ≤ sizeLine; decide, fun b => ⟨by show (-(2 ^ 62) : Int) ≤ 1 + many; omega, by show (1 + many : Int) < 2 ^ 62; omega, ?_⟩⟩
  have key : ∀ (m : Nat) (P : PEnds), (∀ ρ, (∃ w ns zs, ρ = [some (.own a zs), some (.val (.int size)), some (.val (.int (1 + many))), some (.val (.int wide)), some (.own b (dI ns)), w] ∧ ns.length = m ∧ (∀ x ∈ ns, -1000000000 ≤ x ∧ x ≤ 1000000000) ∧ Bx (n + 4 + 8 * m) zs) → P.nx ρ) → m ≤ 100 →
      forW (hName 5) (pAppend 4 (pOp fIx (pLst (pCons (pC (.int 0)) (pCons (pVar 3) (pCons (pOp fSub (pFrz (pCallB 0 2 (g_take 100000000000000) (pCons (pOp fAdd (pOp fMulI (pC (.int 2)) (pVar 3)) (pC (.int 1))) pNil))) (pVar 3)) (pCons (pFrz (pCallB 0 2 (g_take 100000000000000) (pCons (pOp fAdd (pVar 3) (pC (.int 1))) pNil))) pNil))))) (pFrz (pCallB 0 2 (g_take 100000000000000) (pCons (pC (.int 4)) pNil))))) P (rangeD 0 m) [some (.own a ys2), some (.val (.int size)), some (.val (.int (1 + many))), some (.val (.int wide)), some (.own b []), none] := by
    intro m P hP hm
    refine for_inv (fun ds ρ => ∃ w ns zs, ds.length + ns.length = m ∧ ρ = [some (.own a zs), some (.val (.int size)), some (.val (.int (1 + many))), some (.val (.int wide)), some (.own b (dI ns)), w] ∧ (∀ x ∈ ns, -1000000000 ≤ x ∧ x ≤ 1000000000) ∧ Bx (n + 4 + 8 * ns.length) zs) (fun d rst ρ K hK hI => ?_) (fun ρ hI => ?_) (rangeD 0 m) _ ⟨none, [], ys2, by simp [rangeD], rfl, by simp, p3⟩
    · obtain ⟨w, ns, zs, hl, rfl, hx, hb⟩ := hI
      have hl' : rst.length + 1 + ns.length = m := hl
      refine ⟨.inl ⟨by decide, by decide⟩, _, rfl, rfl, _, _, ?_, hb, rfl, by omega, by omega, fun r3 ys3 a1 a2 a3 => ?_⟩
      · omega
      refine ⟨_, rfl, rfl, _, _, ?_, a3, rfl, by omega, by omega, fun r4 ys4 b1 b2 b3 => ?_⟩
      · omega
      refine ⟨by show (4 : Nat) ≤ sizeLine; decide, _, rfl, rfl, _, _, ?_, b3, rfl, by decide, by decide, fun r5 ys5 c1 c2 c3 => ?_⟩
      · omega
      obtain ⟨v, hv⟩ := atI_below (xs := [D.int 0, .int wide, .int (r3 - wide), .int r4]) c1 c2
      refine ⟨v, hv, dI ns, rfl, small1000 (by rw [ints_len]; omega), ?_⟩
      obtain ⟨h, rfl, hh⟩ : ∃ h, v = .int h ∧ -1000000000 ≤ h ∧ h ≤ 1000000000 := by
        have := mem_of_atI hv
        simp at this
        rcases this with e | e | e | e <;> subst e <;> exact ⟨_, rfl, by omega, by omega⟩
      refine hK _ ⟨some (.val d), ns ++ [h], ys5, by simp; omega, ?_, fun x hx' => ?_, ?_⟩
      · rw [show dI (ns ++ [h]) = dI ns ++ [.int h] from by simp]; rfl
      · rcases List.mem_append.mp hx' with hx' | hx'
        · exact hx x hx'
        · have := List.mem_singleton.mp hx'; subst this; exact hh
      · exact c3.mono (by simp; omega)
    · obtain ⟨w, ns, zs, hl, rfl, hx, hb⟩ := hI
      have hl : ns.length = m := by simpa using hl
      subst hl
      exact hP _ ⟨w, ns, zs, rfl, rfl, hx, hb⟩
  refine key (1 + many).toNat _ (fun ρ ⟨w, ns, zs, e, hl, hx, hb⟩ => ?_) (by omega)
  subst e
  have h1 : (ns.length : Int) = 1 + many := by omega
  refine ⟨zs, rfl, hC ns zs (fun e => by subst e; simp at h1; omega) (by omega) hx (hb.mono (by omega))⟩
end Pl
namespace Pl
open PySem PySem.Spec PyProof.Rows L2
def g_law : FA := fun ds C => ∃ ns, ds = [.scr ns] ∧ ns.length ≤ 63 ∧ C (.val (.bl true))
theorem zip_int {f : Int → Int → Int} : ∀ {a b : List Int}, List.zipWith (fun x y => D.int (f x y)) a b = dI (List.zipWith f a b)
  | [], _ => rfl
  | _ :: _, [] => rfl
  | x :: a, y :: b => by
    show D.int (f x y) :: List.zipWith (fun x y => D.int (f x y)) a b = D.int (f x y) :: dI (List.zipWith f a b)
    rw [zip_int]
end Pl
namespace Pl
open PySem PySem.Spec PyProof.Rows L2
theorem eqv_str (z : Str) : (D.str z).eqv (.str z) = true := by
  show (z == z) = true
  simp
theorem zip_same {α : Type} {f : α → α → D} : ∀ (xs : List α), List.zipWith f xs xs = xs.map fun x => f x x
  | [] => rfl
  | x :: xs => by simp [zip_same xs]
theorem zipD_same (xs : List D) : zipD xs xs = xs.map fun x => .tup [x, x] := zip_same xs
theorem lcW_same {vs : List Nat} {g : TGp} {te : TEp} {Q : List D → Ro → Prop} {ρ : Ro} {xs : List D} (hs : ∀ x ∈ xs, ElemOk vs g te ρ (.tup [x, x]) (.bl true)) (hl : xs.length ≤ 1000) (hQ : Q (xs.map fun _ => .bl true) ρ) : lcW vs g pYes te Q (zipD xs xs) [] ρ := by
  rw [zipD_same]
  refine lcW_map (f := fun _ => .bl true) _ [] (fun d hd => ?_) (by simpa using hl) ?_
  · obtain ⟨x, hx, rfl⟩ := List.mem_map.mp hd
    exact hs x hx
  · rw [List.nil_append, List.map_map]
    exact hQ
theorem all_true {α : Type} (xs : List α) : ((xs.map fun _ => true).all id) = true := by
  induction xs with
  | nil => rfl
  | cons x xs ih => rw [List.map_cons, List.all_cons, ih]; rfl
theorem map_true {α : Type} (xs : List α) : (xs.map fun _ => D.bl true) = (xs.map fun _ => true).map D.bl := by rw [List.map_map]; rfl
theorem rd_same (n : Nat) : ∀ ds C, ds.length = 2 → gS (n + 1) ds C → T__law_same (gS n) { nx := fun _ => C (.val .non), rt := fun c _ => C c } (startA N__law_same ds) := by
  rintro ds C - ⟨d, rfl, ok, hC⟩
  cases d with
  | non =>
    have h : D.non.sh := by unfold D.sh toPy; rfl
    exact ⟨h, h, sh_bl _, sh_bl _, sh_bl _, sh_bl _, hC⟩
  | bl b =>
    refine ⟨sh_bl _, sh_bl _, ?_⟩
    exact ifT (by rw [eqv_bl]; simp) ⟨sh_bl _, sh_bl _, sh_bl _, sh_bl _, hC⟩
  | int i =>
    refine ⟨sh_int _, sh_int _, ?_⟩
    show C (.val (.bl ((D.int i).eqv (.int i))))
    rw [show (D.int i).eqv (.int i) = true by rw [eqv_int]; simp]
    exact hC
  | str z =>
    have hz : (D.str z).sh := by cases n <;> exact ok
    refine ⟨hz, hz, ?_⟩
    exact ifT (eqv_str z) ⟨sh_bl _, sh_bl _, sh_bl _, sh_bl _, hC⟩
  | scr ns => cases n <;> exact ok.elim
  | adr a => cases n <;> exact ok.elim
  | exc _ _ => cases n <;> exact ok.elim
  | lst xs =>
    cases n with
    | zero => exact ok.elim
    | succ n =>
      obtain ⟨hl, hx⟩ := ok
      refine ⟨sh_bl _, sh_bl _, sh_bl _, sh_bl _, sh_int _, sh_int _, ifT (by rw [eqv_int]; simp) ?_⟩
      refine lcW_same (fun x hx' K hK => ⟨rfl, rfl, rfl, x, rfl, hx x hx', hK _ rfl⟩) hl ⟨_, map_true xs, ?_⟩
      rw [all_true]; exact hC
  | tup xs =>
    cases n with
    | zero => exact ok.elim
    | succ n =>
      obtain ⟨hl, hx⟩ := ok
      refine ⟨sh_bl _, sh_bl _, sh_bl _, sh_bl _, sh_int _, sh_int _, ifT (by rw [eqv_int]; simp) ?_⟩
      refine lcW_same (fun x hx' K hK => ⟨rfl, rfl, rfl, x, rfl, hx x hx', hK _ rfl⟩) hl ⟨_, map_true xs, ?_⟩
      rw [all_true]; exact hC
theorem okN_ints (n : Nat) {ns : List Int} (h : ns.length ≤ 1000) : okN (n + 1) (.tup (dI ns)) := ⟨by rw [ints_len]; exact h, fun x hx => by
  obtain ⟨i, _, rfl⟩ := List.mem_map.mp hx
  cases n <;> exact trivial⟩
theorem atI_ints' {ns : List Int} {j : Nat} (h : j < ns.length) : atI (dI ns) (j : Int) = some (.int (ns.getD j 0)) := by
  refine atI_nat ?_
  rw [List.getElem?_map, List.getElem?_eq_getElem h, List.getD_eq_getElem?_getD, List.getElem?_eq_getElem h]; rfl
theorem minOf_cons {l : List Int} (h : l ≠ []) : ∃ n r, l = n :: r ∧ minOf l = r.foldl min n := by
  cases l with
  | nil => exact absurd rfl h
  | cons n r => exact ⟨n, r, rfl, rfl⟩
theorem maxOf_cons {l : List Int} (h : l ≠ []) : ∃ n r, l = n :: r ∧ maxOf l = r.foldl max n := by
  cases l with
  | nil => exact absurd rfl h
  | cons n r => exact ⟨n, r, rfl, rfl⟩
end Pl
namespace Pl
open PySem PySem.Spec PyProof.Rows L2
abbrev Wd := Bool × Int
def windsD (ws : List Wd) : List D := ws.map fun w => windD w.1 w.2
def tD (l : List Int) : D := .tup (dI l)
def blW (l : List Int) (w : Wd) : List Int := blownL w.1 w.2 l
def daysL (l : List Int) : List Wd → List (List Int)
  | [] => [l]
  | w :: ws => l :: daysL (blW l w) ws
def behindL (l : List Int) (ws : List Wd) : List Int := ws.foldl blW l
def Am (d : D) (ws : List Wd) : Prop := d = .lst (windsD ws) ∨ d = .tup (windsD ws)
theorem blW_len (l : List Int) (w : Wd) : (blW l w).length = l.length := by
  obtain ⟨c, s⟩ := w
  cases c with
  | true => exact cutTo_len s l
  | false => exact fillTo_len s l
theorem blW_ne {l : List Int} (h : l ≠ []) (w : Wd) : blW l w ≠ [] := ne_len (blW_len l w) h
theorem windsD_len (ws : List Wd) : (windsD ws).length = ws.length := by simp [windsD]
def g_days : FA := fun ds C => ∃ d ns a ws, ds = [d, a] ∧ Sq d ns ∧ Am a ws ∧ ns ≠ [] ∧ ns.length ≤ 1000 ∧ ws.length ≤ 900 ∧ ∀ p, C (.own p ((daysL ns ws).map tD))
def g__law_slope : FB := fun xs ds C => ∃ n, n ≤ 100000000000 ∧ Bx n xs ∧ ds = [] ∧ ∀ s zs, 0 ≤ s → s < 1000000000 → Bx (n + 4) zs → C (.val (.int s)) zs
theorem rd__law_slope : ∀ a xs ds C, ds.length + 1 = 1 → g__law_slope xs ds C → T__law_slope (g_take 100000000000000) { nx := fun ρ => ∃ ys, ρ[0]? = some (some (.own a ys)) ∧ C (.val .non) ys, rt := fun c ρ => ∃ ys, ρ[0]? = some (some (.own a ys)) ∧ C c ys } (startB N__law_slope a xs ds) := by
  rintro a xs ds C - ⟨n, hn, hB, rfl, hC⟩
  refine ⟨by show (4 : Nat) ≤ sizeLine; decide, xs, rfl, rfl, n, 4, by omega, hB, rfl, by decide, by decide, fun r ys q1 q2 q3 => ?_⟩
  obtain ⟨v, hv⟩ := atI_below (xs := [D.int 4, .int 9, .int 40, .int 1000000000]) q1 q2
  refine ⟨v, hv, ?_⟩
  obtain ⟨wide, rfl, hw0, hw⟩ : ∃ wide, v = .int wide ∧ 0 < wide ∧ wide ≤ 1000000000 := by
    have := mem_of_atI hv
    simp at this
    rcases this with e | e | e | e <;> subst e <;> exact ⟨_, rfl, by decide, by decide⟩
  exact ⟨ys, rfl, rfl, n + 2, wide, by omega, q3, rfl, hw0, by omega, fun s zs a1 a2 a3 => ⟨zs, rfl, hC s zs a1 (by omega) a3⟩⟩
end Pl
namespace Pl
open PySem PySem.Spec PyProof.Rows L2
abbrev vI (i : Int) : Option Cell := some (.val (.int i))
abbrev vT (l : List Int) : Option Cell := some (.val (.tup (dI l)))
theorem okN_tD (m : Nat) {l : List Int} (h : l.length ≤ 1000) : okN (m + 1) (tD l) := okN_ints m h
theorem map_ne {l : List Int} {f : Int → Int} (h : l ≠ []) : l.map f ≠ [] := by simpa using h
theorem blown_shift {c : Bool} {s : Int} (hs : 0 ≤ s) (d : Int) (l : List Int) : blownL c s (l.map fun x => x + d) = (blownL c s l).map fun x => x + d := by
  cases c with
  | true => exact cutTo_shift hs d l
  | false => exact fillTo_shift hs d l
theorem blown_neg {c : Bool} {s : Int} (l : List Int) : blownL (!c) s (l.map fun x => -x) = (blownL c s l).map fun x => -x := by
  cases c with
  | true => exact fillTo_neg s l
  | false => exact cutTo_neg s l
theorem blown_mono {c : Bool} {s : Int} (hs : 0 ≤ s) {a b : List Int} (h : Lq a b) : Lq (blownL c s a) (blownL c s b) := by
  cases c with
  | true => exact cutTo_mono hs h
  | false => exact fillTo_mono hs h
theorem blown_gentle {c : Bool} {s : Int} (hs : 0 ≤ s) (l : List Int) : Gentle s (blownL c s l) := by
  cases c with
  | true => exact cutTo_gentle hs l
  | false => exact fillTo_gentle hs l
theorem blown_idle {c : Bool} {s : Int} (hs : 0 ≤ s) {l : List Int} : blownL c s l = l ↔ Gentle s l := by
  cases c with
  | true => exact cutTo_idle hs
  | false => exact fillTo_idle hs
end Pl
namespace Pl
open PySem PySem.Spec PyProof.Rows L2
theorem lcW_mapS {α : Type} {vs : List Nat} {g : TGp} {te : TEp} {Q : List D → Ro → Prop} {d f : α → D} {ρ : Ro} : ∀ (xs : List α) (acc : List D), (∀ x ∈ xs, ElemOk vs g te ρ (d x) (f x)) → acc.length + xs.length ≤ sizeLine → Q (acc ++ xs.map f) ρ → lcW vs g pYes te Q (xs.map d) acc ρ
  | [], acc, _, _, hQ => by
    have hQ : Q (acc ++ []) ρ := hQ
    rw [List.append_nil] at hQ
    exact hQ
  | x :: xs, acc, h, hl, hQ => by
    have hl' : acc.length + (xs.length + 1) ≤ sizeLine := hl
    refine h x (by simp) _ fun ρ4 e => ⟨by omega, ?_⟩
    rw [e]
    refine lcW_mapS xs _ (fun y hy => h y (by simp [hy])) (by rw [List.length_append]; show acc.length + 1 + xs.length ≤ sizeLine; omega) ?_
    rw [List.append_assoc]
    exact hQ
end Pl
namespace Pl
open PySem PySem.Spec PyProof.Rows L2
section
variable {α β : Type} {vs : List Nat} {g : TGp} {tt : TTp} {te : TEp} {tb : TSp} {P : PEnds} {Q : List D → Ro → Prop} {ρ : Ro}
theorem lc_mp {ds : List D} (xs : List α) (d f : α → D) (e : ds = xs.map d) (h : ∀ x ∈ xs, ElemOk vs g te ρ (d x) (f x)) (hl : xs.length ≤ 1000) (hQ : Q (xs.map f) ρ) : lcW vs g pYes te Q ds [] ρ := by
  subst e
  exact lcW_mapS xs [] h (by rw [List.length_nil, Nat.zero_add]; exact sl1000 hl) hQ
def ElemIf (vs : List Nat) (g : TGp) (tt : TTp) (te : TEp) (ρ : Ro) (d : D) (p : Bool) (y : D) : Prop := ∀ (K : Bool → Ro → Prop), (∀ ρ3, restore ρ ρ3 vs = ρ → (p = true → ∀ K2 : D → Ro → Prop, (∀ ρ4, restore ρ ρ4 vs = ρ → K2 y ρ4) → te ρ3 K2) → K p ρ3) → g d (wipeP ρ vs) fun ρ2 => tt ρ2 K
theorem lcW_fl : ∀ (xs : List α) (d f : α → D) (p : α → Bool) (acc : List D), (∀ x ∈ xs, ElemIf vs g tt te ρ (d x) (p x) (f x)) → acc.length + xs.length ≤ sizeLine → Q (acc ++ (xs.filter p).map f) ρ → lcW vs g tt te Q (xs.map d) acc ρ
  | [], d, f, p, acc, _, _, hQ => by
    have hQ : Q (acc ++ []) ρ := hQ
    rw [List.append_nil] at hQ
    exact hQ
  | x :: xs, d, f, p, acc, h, hl, hQ => by
    have hl' : acc.length + (xs.length + 1) ≤ sizeLine := hl
    refine h x (by simp) _ fun ρ3 e3 ht => ?_
    cases hp : p x with
    | true =>
      refine ite_ti (ht hp _ fun ρ4 e4 => ⟨by omega, ?_⟩)
      rw [e4]
      refine lcW_fl xs d f p _ (fun y hy => h y (by simp [hy])) (by rw [List.length_append]; show acc.length + 1 + xs.length ≤ sizeLine; omega) ?_
      rw [List.filter_cons_of_pos hp, List.map_cons] at hQ
      rw [List.append_assoc]
      exact hQ
    | false =>
      refine ite_fi ?_
      rw [e3]
      refine lcW_fl xs d f p _ (fun y hy => h y (by simp [hy])) (by omega) ?_
      rw [List.filter_cons_of_neg (by rw [hp]; decide)] at hQ
      exact hQ
theorem lc_fl {ds : List D} (xs : List α) (d f : α → D) (p : α → Bool) (e : ds = xs.map d) (h : ∀ x ∈ xs, ElemIf vs g tt te ρ (d x) (p x) (f x)) (hl : xs.length ≤ 1000) (hQ : Q ((xs.filter p).map f) ρ) : lcW vs g tt te Q ds [] ρ := by
  subst e
  exact lcW_fl xs d f p [] h (by rw [List.length_nil, Nat.zero_add]; exact sl1000 hl) hQ
theorem rangeD_nat (n : Nat) : rangeD 0 n = (List.range n).map fun (j : Nat) => D.int (j : Int) := by
  unfold rangeD
  apply List.map_congr_left
  intro j _
  rw [Int.zero_add]
theorem lc_rg {m : Nat} (n : Nat) (f : Nat → D) (e : m = n) (h : ∀ j, j < n → ElemOk vs g te ρ (.int (j : Int)) (f j)) (hl : n ≤ 1000) (hQ : Q ((List.range n).map f) ρ) : lcW vs g pYes te Q (rangeD 0 m) [] ρ :=
  lc_mp (List.range n) (fun (j : Nat) => .int (j : Int)) f (by rw [e, rangeD_nat]) (fun j hj => h j (List.mem_range.mp hj)) (by simpa using hl) hQ
theorem forW_mp : ∀ (xs : List α) (d : α → D) (ρ : Ro) (I : List α → Ro → Prop), I xs ρ → (∀ (x : α) (r : List α) (ρ : Ro) (K : Ro → Prop), I (x :: r) ρ → (∀ ρ', I r ρ' → K ρ') → g (d x) ρ fun ρ1 => tb { P with nx := K, ct := K, bk := P.nx } ρ1) → (∀ ρ, I [] ρ → P.nx ρ) → forW g tb P (xs.map d) ρ
  | [], d, ρ, I, h, _, he => he ρ h
  | x :: xs, d, ρ, I, h, hs, he => hs x xs ρ _ h fun ρ' h' => forW_mp xs d ρ' I h' hs he
theorem fr_mp {ds : List D} (xs : List α) (d : α → D) (I : List α → Ro → Prop) (e : ds = xs.map d) (h0 : I xs ρ) (hs : ∀ (x : α) (r : List α) (ρ : Ro) (K : Ro → Prop), I (x :: r) ρ → (∀ ρ', I r ρ' → K ρ') → g (d x) ρ fun ρ1 => tb { P with nx := K, ct := K, bk := P.nx } ρ1) (he : ∀ ρ, I [] ρ → P.nx ρ) : forW g tb P ds ρ := by
  subst e
  exact forW_mp xs d ρ I h0 hs he
theorem forW_rg (I : Nat → Ro → Prop) (n : Nat) (hs : ∀ (j : Nat) (ρ : Ro) (K : Ro → Prop), j < n → I j ρ → (∀ ρ', I (j + 1) ρ' → K ρ') → g (.int (j : Int)) ρ fun ρ1 => tb { P with nx := K, ct := K, bk := P.nx } ρ1) (he : ∀ ρ, I n ρ → P.nx ρ) : ∀ (k j : Nat) (ρ : Ro), k + j = n → I j ρ → forW g tb P ((List.range' j k).map fun (j : Nat) => D.int (j : Int)) ρ
  | 0, j, ρ, e, h => he ρ (by rw [← e, Nat.zero_add]; exact h)
  | k + 1, j, ρ, e, h => by
    rw [List.range'_succ, List.map_cons]
    exact hs j ρ _ (by omega) h fun ρ' h' => forW_rg I n hs he k (j + 1) ρ' (by omega) h'
theorem fr_rg {m : Nat} (n : Nat) (I : Nat → Ro → Prop) (e : m = n) (h0 : I 0 ρ) (hs : ∀ (j : Nat) (ρ : Ro) (K : Ro → Prop), j < n → I j ρ → (∀ ρ', I (j + 1) ρ' → K ρ') → g (.int (j : Int)) ρ fun ρ1 => tb { P with nx := K, ct := K, bk := P.nx } ρ1) (he : ∀ ρ, I n ρ → P.nx ρ) : forW g tb P (rangeD 0 m) ρ := by
  subst e
  rw [rangeD_nat, List.range_eq_range']
  exact forW_rg I m hs he m 0 ρ (by omega) h0
end
end Pl
namespace Pl
open PySem PySem.Spec PyProof.Rows L2
variable [TJ]
def isOwn (ρ : Ro) (b : Addr) : Prop := ∃ (i : Nat) (xs : List D), ρ[i]? = some (some (.own b xs))
theorem CellOk.more {K : PySem.W.Frag} {G F H : Hp} {ρ : Ro} {v : V} {c : Cell} {p : Addr} {o : HO} (h : CellOk K G F H ρ v c) (hp : H p = none) : CellOk K G F (upd H p o) ρ v c := by
  cases c with
  | val d => exact h
  | own q xs =>
    obtain ⟨h1, h2, h3, h4, us, h5, h6⟩ := h
    exact ⟨h1, h2, h3, h4, us, by rw [upd_ne (ne_of_none h5 hp)]; exact h5, h6⟩
  | box s => exact h
section
variable {X : Cx}
def fIsB : F2 := fun x y Q => match x, y with
  | .bl a, .bl b => Q (.bl (decide (a = b)))
  | _, _ => False
def fNotB : F2 := fun x y Q => match x, y with
  | .bl a, .bl b => Q (.bl (!decide (a = b)))
  | _, _ => False
theorem cm_isB : Cmp X .Is rIsB fIsB := ⟨op_isBl, fun F H x y dx dy Q R hs rx ry hf k => by
  cases rx with
  | bl a =>
    cases ry with
    | bl b => exact ⟨a, b, rfl, rfl, k _ _ _ _ (.old (.bl _)) hf⟩
    | _ => exact hf.elim
  | _ => exact hf.elim⟩
theorem cm_notB : Cmp X .IsNot rNotB fNotB := ⟨op_notBl, fun F H x y dx dy Q R hs rx ry hf k => by
  cases rx with
  | bl a =>
    cases ry with
    | bl b => exact ⟨a, b, rfl, rfl, k _ _ _ _ (.old (.bl _)) hf⟩
    | _ => exact hf.elim
  | _ => exact hf.elim⟩
end
end Pl
namespace Pl
open PySem PySem.Spec PyProof.Rows L2
variable [TJ]
def pick2 (b : Bool) (x y : Str) : Str := if b = true then x else y
def fDix (k1 v1 k2 v2 : Str) : F1 := fun d Q => match d with
  | .str s => ∃ b : Bool, s = pick2 b k1 k2 ∧ Q (.str (pick2 b v1 v2))
  | _ => False
section
variable {X : Cx} {e : Expr} {te : TE} {Te : TEp} {pos dp p1 p2 p3 p4 : Pos} {k1 k2 v1 v2 : Str} {i1 i2 i3 i4 : Nat}
theorem ppe_dix (hu : X.A.units + 64 < cLine) (he : PPE X e te Te) (hne : k1 ≠ k2 := by decide) (hs : NoSl e := by exact fun _ _ => rfl) :
    PPE X (.Subscript (.Dict [some (.Constant (.str k1) i1 p1), some (.Constant (.str k2) i2 p2)] [.Constant (.str v1) i3 p3, .Constant (.str v2) i4 p4] dp) e pos) (tDGet (tDisp [(tC (.str k1), tC (.str v1)), (tC (.str k2), tC (.str v2))]) te) (pUn (fDix k1 v1 k2 v2) Te) :=
  ⟨pe_dget (by omega) (pe_disp (L2.pps_cons pe_str pe_str (L2.pps_cons pe_str pe_str L2.pps_nil)) rfl rfl (fun z => by cases z) (by show (2 : Nat) ≤ 15; decide)) he.pe hs, fun G F H σ ρ Q R S hT k => by
    intro p hp
    refine ⟨upd_same, [(.inr k1, .str v1), (.inr k2, .str v2)], rfl, by show (2 : Nat) ≤ 15; decide, ?_⟩
    have em : mergeK [] [((.inr k1 : Key), V.str v1), (.inr k2, .str v2)] = [((.inr k1 : Key), V.str v1), (.inr k2, .str v2)] := by
      have h12 : ¬ ((.inr k1 : Key) = .inr k2) := fun z => hne (Sum.inr.inj z)
      simp [mergeK, putK, h12]
    rw [em, upd_upd]
    have S1 := S.new (o := HO.dK [((.inr k1 : Key), V.str v1), (.inr k2, .str v2)]) hp
    refine he.snd G _ _ σ ρ _ _ S1 hT fun v d F' H' ρ' u S' r q => ?_
    have hd : H' p = some (.dK [((.inr k1 : Key), V.str v1), (.inr k2, .str v2)]) := S'.hF _ _ (u.ex _ _ upd_same)
    cases r with
    | str s =>
      obtain ⟨b, rfl, q⟩ := q
      cases b with
      | true => exact ⟨p, .str v1, rfl, .inl ⟨_, .inr k1, .inl hd, rfl, by simp [valV]⟩, k _ _ F' H' ρ' ((S.upNew hp).trans u) S' (.str _) q⟩
      | false =>
        have h21 : ¬ (k1 = k2) := hne
        exact ⟨p, .str v2, rfl, .inl ⟨_, .inr k2, .inl hd, rfl, by simp [valV, pick2, h21]⟩, k _ _ F' H' ρ' ((S.upNew hp).trans u) S' (.str _) q⟩
    | _ => exact q.elim⟩
end
end Pl
namespace L2
open PySem PySem.Spec PyProof.Rows
def ev2 {α : Type} : List α → List α
  | [] => []
  | [x] => [x]
  | x :: _ :: r => x :: ev2 r
theorem pick2 {α : Type} : ∀ l : List α, (List.range ((l.length + 1) / 2)).filterMap (fun k => l[2 * k]?) = ev2 l
  | [] => by
    rw [show (([] : List α).length + 1) / 2 = 0 by show (0 + 1) / 2 = 0; decide]
    rfl
  | [x] => by
    rw [show ([x].length + 1) / 2 = 1 by show (1 + 1) / 2 = 1; decide, show List.range 1 = [0] from rfl, List.filterMap_cons]
    rfl
  | x :: y :: r => by
    have e : ((x :: y :: r).length + 1) / 2 = (r.length + 1) / 2 + 1 := by
      show (r.length + 1 + 1 + 1) / 2 = _
      omega
    rw [e, List.range_succ_eq_map, List.filterMap_cons, List.filterMap_map]
    have e2 : ((fun k => (x :: y :: r)[2 * k]?) ∘ Nat.succ) = fun k => r[2 * k]? := by
      funext k
      show (x :: y :: r)[2 * (k + 1)]? = r[2 * k]?
      rw [show 2 * (k + 1) = 2 * k + 1 + 1 by omega]
      rfl
    rw [e2, pick2 r]
    rfl
theorem Vals.ev2 : ∀ {xs : List V} {us : List Value}, Vals xs us → Vals (L2.ev2 xs) (L2.ev2 us)
  | _, _, .nil => .nil
  | _, _, .cons h .nil => .cons h .nil
  | _, _, .cons h (.cons _ t) => .cons h (Vals.ev2 t)
end L2
namespace Pl
open PySem PySem.Spec PyProof.Rows L2
variable [TJ]
theorem Reps.ev2 {K : PySem.W.Frag} {F : Hp} : ∀ {vs : List V} {ds : List D}, Reps K F vs ds → Reps K F (L2.ev2 vs) (L2.ev2 ds)
  | _, _, .nil => .nil
  | _, _, .cons h .nil => .cons h .nil
  | _, _, .cons h (.cons _ t) => .cons h (Reps.ev2 t)
end Pl
namespace Pl
open PySem PySem.Spec PyProof.Rows L2
def sbR : List (List Int) → Option Int → List (List Int)
  | rs, none => [] :: rs
  | r :: rs, some s => (r ++ [s]) :: rs
  | [], some _ => []
def sbL (es : List (Option Int)) : List (List Int) := es.foldl sbR [[]]
def rowsD (rows : List (List Int)) : List D := rows.map fun r => .lst (r.map D.int)
def SbE (g : FA) (p : D × Option Int) : Prop := (∀ C : Cell → Prop, C (.val (.bl p.2.isNone)) → g [p.1] C) ∧ ∀ s, p.2 = some s → ∃ w r, p.1 = .tup (w :: .int s :: r) ∨ p.1 = .lst (w :: .int s :: r)
def T_slopes_between (g_is_hand : FA) : TSp := fun P ρ => ∃ (d : D) (ps : List (D × Option Int)), ρ = [some (.val d), none, none] ∧ (d = .lst (ps.map Prod.fst) ∨ d = .tup (ps.map Prod.fst)) ∧ (∀ p ∈ ps, SbE g_is_hand p) ∧ ps.length ≤ 1000 ∧
  ∀ R, P.rt (.own R (rowsD (sbL (ps.map Prod.snd)).reverse)) [some (.val d), none, none]
def Rws (H : Hp) : List Addr → List (List Int) → Prop
  | [], [] => True
  | q :: qs, r :: rs => H q = some (.lst (r.map V.int)) ∧ Rws H qs rs
  | _, _ => False
theorem Rws.mono {H H' : Hp} (e : Same H H') : ∀ {qs : List Addr} {rs : List (List Int)}, Rws H qs rs → Rws H' qs rs
  | [], [], _ => trivial
  | _ :: _, _ :: _, h => ⟨e _ _ h.1, Rws.mono e h.2⟩
  | [], _ :: _, h => h.elim
  | _ :: _, [], h => h.elim
theorem Rws.upd {H : Hp} {p : Addr} {o : HO} : ∀ {qs : List Addr} {rs : List (List Int)}, p ∉ qs → Rws H qs rs → Rws (L2.upd H p o) qs rs
  | [], [], _, _ => trivial
  | q :: qs, r :: rs, n, h => ⟨by rw [upd_ne (fun e => n (by rw [← e]; exact List.mem_cons_self))]; exact h.1, Rws.upd (fun z => n (List.mem_cons_of_mem _ z)) h.2⟩
  | [], _ :: _, _, h => h.elim
  | _ :: _, [], _, h => h.elim
theorem Rws.len {H : Hp} : ∀ {qs : List Addr} {rs : List (List Int)}, Rws H qs rs → qs.length = rs.length
  | [], [], _ => rfl
  | _ :: _, _ :: _, h => by simp [Rws.len h.2]
  | [], _ :: _, h => h.elim
  | _ :: _, [], h => h.elim
theorem Rws.reps {K : PySem.W.Frag} {H F : Hp} : ∀ {qs : List Addr} {rs : List (List Int)}, (∀ q ∈ qs, F q = H q) → Rws H qs rs → Reps K F (qs.map V.ref) (rowsD rs)
  | [], [], _, _ => .nil
  | q :: qs, r :: rs, e, h => .cons (.lst ((e q List.mem_cons_self).trans h.1) (Reps.ofInts r)) (Rws.reps (fun x hx => e x (List.mem_cons_of_mem _ hx)) h.2)
  | [], _ :: _, _, h => h.elim
  | _ :: _, [], _, h => h.elim
structure SB (G F : Hp) (R : Addr) (qs : List Addr) (rows : List (List Int)) (H : Hp) : Prop where
  fF : Same F H
  fG : Same G H
  gR : G R = none
  fR : F R = none
  hR : H R = some (.lst (qs.reverse.map V.ref))
  nR : R ∉ qs
  nd : qs.Nodup
  gq : ∀ q ∈ qs, G q = none
  fq : ∀ q ∈ qs, F q = none
  hq : Rws H qs rows
theorem Rws.at {H : Hp} {q : Addr} : ∀ {qs : List Addr} {rs : List (List Int)}, q ∈ qs → Rws H qs rs → ∃ r : List Int, H q = some (.lst (r.map V.int))
  | _ :: _, r :: _, hq, h => by
    rcases List.mem_cons.mp hq with rfl | hq
    · exact ⟨r, h.1⟩
    · exact Rws.at hq h.2
  | [], _, hq, _ => absurd hq (by simp)
  | _ :: _, [], _, h => h.elim
theorem SB.up {G F F1 H H1 : Hp} {R : Addr} {qs : List Addr} {rows : List (List Int)} (B : SB G F R qs rows H) (u : Up H F F1) (e : Same H H1) (e1 : Same F1 H1) : SB G F1 R qs rows H1 := by
  refine ⟨e1, B.fG.trans e, B.gR, u.isNone B.fR B.hR, e _ _ B.hR, B.nR, B.nd, B.gq, fun q hq => ?_, B.hq.mono e⟩
  obtain ⟨r, hr⟩ := B.hq.at hq
  exact u.isNone (B.fq q hq) hr
theorem SB.more {G F H : Hp} {R p : Addr} {qs : List Addr} {rows : List (List Int)} (B : SB G F R qs rows H) (hp : H p = none) : SB G F R (p :: qs) ([] :: rows) (upd (upd H p (.lst [])) R (.lst (qs.reverse.map V.ref ++ [.ref p]))) := by
  have pR : p ≠ R := fun e => by subst e; rw [B.hR] at hp; cases hp
  have fp : F p = none := B.fF.free hp
  have gp : G p = none := B.fG.free hp
  have keep : ∀ (K : Hp), Same K H → K R = none → Same K (upd (upd H p (.lst [])) R (.lst (qs.reverse.map V.ref ++ [.ref p]))) := fun K e k a o h => by
    have aR : a ≠ R := fun z => by subst z; rw [k] at h; cases h
    have ap : a ≠ p := fun z => by subst z; rw [e.free hp] at h; cases h
    rw [upd_ne aR, upd_ne ap]
    exact e a o h
  have pq : p ∉ qs := fun z => by
    obtain ⟨r, hr⟩ := B.hq.at z
    rw [hr] at hp; cases hp
  refine ⟨keep F B.fF B.fR, keep G B.fG B.gR, B.gR, B.fR, ?_, ?_, List.nodup_cons.mpr ⟨pq, B.nd⟩, ?_, ?_, ?_, ?_⟩
  · rw [upd_same, List.reverse_cons, List.map_append]; rfl
  · intro z
    rcases List.mem_cons.mp z with z | z
    · exact pR z.symm
    · exact B.nR z
  · intro q hq
    rcases List.mem_cons.mp hq with rfl | hq
    · exact gp
    · exact B.gq q hq
  · intro q hq
    rcases List.mem_cons.mp hq with rfl | hq
    · exact fp
    · exact B.fq q hq
  · rw [upd_ne pR, upd_same]; rfl
  · exact (B.hq.upd pq).upd B.nR
theorem SB.grow {G F H : Hp} {R q : Addr} {qs : List Addr} {r : List Int} {rows : List (List Int)} (s : Int) (B : SB G F R (q :: qs) (r :: rows) H) : SB G F R (q :: qs) ((r ++ [s]) :: rows) (upd H q (.lst (r.map V.int ++ [.int s]))) := by
  have qR : R ≠ q := fun e => B.nR (by rw [e]; exact List.mem_cons_self)
  have keep : ∀ (K : Hp), Same K H → K q = none → Same K (upd H q (.lst (r.map V.int ++ [.int s]))) := fun K e k a o h => by
    have aq : a ≠ q := fun z => by subst z; rw [k] at h; cases h
    rw [upd_ne aq]
    exact e a o h
  refine ⟨keep F B.fF (B.fq q List.mem_cons_self), keep G B.fG (B.gq q List.mem_cons_self), B.gR, B.fR, by rw [upd_ne qR]; exact B.hR, B.nR, B.nd, B.gq, B.fq, ?_, B.hq.2.upd (List.nodup_cons.mp B.nd).1⟩
  rw [upd_same, List.map_append]
  rfl
theorem SB.froz {K : PySem.W.Frag} {G F H : Hp} {R : Addr} {qs : List Addr} {rows : List (List Int)} {d : D} {v0 : V} {w2 : Option V} (B : SB G F R qs rows H) (r0 : Rep K F v0 d) :
    ∃ F', Up G F F' ∧ Sim K G F' H ([some v0, some (.ref R), w2] ++ [some (.ref R)]) ([some (.val d), none, none] ++ [some (.own R (rowsD rows.reverse))]) := by
  refine ⟨fun a => if a ∈ qs then H a else F a, ⟨fun a o h => ?_, fun a o h => ?_⟩, ⟨fun a o h => ?_, SameJ.of B.fG, rfl, fun i d' h => ?_, fun i a xs h => ?_, fun i j a xs ys h1 h2 => ?_, .nil fun i s h => by
    match i, h with
    | 0, h => cases h
    | 1, h => cases h
    | 2, h => cases h
    | 3, h => cases h
    | _ + 4, h => simp at h⟩⟩
  · have h1 : a ∉ qs := fun z => by rw [B.fq a z] at h; cases h
    show (if a ∈ qs then H a else F a) = some o
    rw [if_neg h1]; exact h
  · have h : (if a ∈ qs then H a else F a) = some o := h
    by_cases z : a ∈ qs
    · exact .inr (B.gq a z)
    · rw [if_neg z] at h; exact .inl h
  · have h : (if a ∈ qs then H a else F a) = some o := h
    by_cases z : a ∈ qs
    · rw [if_pos z] at h; exact h
    · rw [if_neg z] at h; exact B.fF a o h
  · have hmono : Same F (fun a => if a ∈ qs then H a else F a) := fun a o h => by
      have h1 : a ∉ qs := fun z => by rw [B.fq a z] at h; cases h
      show (if a ∈ qs then H a else F a) = some o
      rw [if_neg h1]; exact h
    match i, h with
    | 0, h =>
      cases h
      exact ⟨v0, rfl, r0.mono hmono⟩
    | 1, h => cases h
    | 2, h => cases h
    | 3, h => cases h
    | _ + 4, h => simp at h
  · match i, h with
    | 0, h => cases h
    | 1, h => cases h
    | 2, h => cases h
    | 3, h =>
      cases h
      refine ⟨rfl, ?_, B.gR, qs.reverse.map V.ref, B.hR, ?_⟩
      · show (if R ∈ qs then H R else F R) = none
        rw [if_neg B.nR]; exact B.fR
      · have := Rws.reps (K := K) (F := fun a => if a ∈ qs then H a else F a) (fun q hq => if_pos hq) B.hq
        have := this.reverse
        rw [← List.map_reverse] at this
        have e : rowsD rows.reverse = (rowsD rows).reverse := by unfold rowsD; rw [List.map_reverse]
        rw [e]
        exact this
    | _ + 4, h => simp at h
  · match i, j, h1, h2 with
    | 3, 3, _, _ => rfl
    | 0, _, h1, _ => cases h1
    | 1, _, h1, _ => cases h1
    | 2, _, h1, _ => cases h1
    | 3, 0, _, h2 => cases h2
    | 3, 1, _, h2 => cases h2
    | 3, 2, _, h2 => cases h2
    | 3, _ + 4, _, h2 => simp at h2
    | _ + 4, _, h1, _ => simp at h1
theorem sb_len : ∀ (es : List (Option Int)) (rs : List (List Int)) (n : Nat), (∀ r ∈ rs, r.length ≤ n) → rs.length ≤ n + 1 → (∀ r ∈ es.foldl sbR rs, r.length ≤ n + es.length) ∧ (es.foldl sbR rs).length ≤ n + es.length + 1
  | [], rs, n, h1, h2 => ⟨h1, h2⟩
  | e :: es, rs, n, h1, h2 => by
    have := sb_len es (sbR rs e) (n + 1) (fun r hr => ?_) ?_
    · show (∀ r ∈ es.foldl sbR (sbR rs e), r.length ≤ n + (es.length + 1)) ∧ (es.foldl sbR (sbR rs e)).length ≤ n + (es.length + 1) + 1
      rw [show n + (es.length + 1) = n + 1 + es.length by omega]
      exact this
    · cases e with
      | none =>
        rcases List.mem_cons.mp hr with rfl | hr
        · simp
        · have := h1 r hr; omega
      | some s =>
        cases rs with
        | nil => exact absurd hr (by simp [sbR])
        | cons q rs =>
          rcases List.mem_cons.mp hr with rfl | hr
          · have := h1 q List.mem_cons_self
            rw [List.length_append]; show q.length + 1 ≤ n + 1; omega
          · have := h1 r (List.mem_cons_of_mem _ hr); omega
    · cases e with
      | none => show rs.length + 1 ≤ _; omega
      | some s =>
        cases rs with
        | nil => show 0 ≤ _; omega
        | cons q rs => show rs.length + 1 ≤ _; have : rs.length + 1 ≤ n + 1 := h2; omega
abbrev tSB (K : PySem.W.Frag) (tc : TT) (te : TE) : TS :=
  tSeq (tAsg (tLst (tCons (tLst tNil) tNil)) (gName 1)) (tSeq (tFor (iAny K (tVar 0)) (gName 2) (tIfS tc (tSeq (tDrop (tBM K "list" rAppend (tVar 1) (tCons (tLst tNil) tNil))) tNext)
    (tSeq (tDrop (tBM K "list" rAppend (tOp (rIxL K) (tVar 1) (tUn (rU fun i => .int (-i)) (tC (.int 1)))) (tCons te tNil))) tNext))) (tSeq (tRet (tVar 1)) tNext))
theorem snd_sb {K : PySem.W.Frag} {g : FA} {tc : TT} {te : TE} (hc : SndT K tc (pTest (pFrz (pCallA 1 g (pCons (pVar 2) pNil))))) (he : SndE K te (pIxO 2 (pC (.int 1)))) : SndS K (tSB K tc te) (T_slopes_between g) := by
  rintro G F H σ ρ P D S ⟨d, ps, rfl, hd, hp, hl, hP⟩ r
  have hlen : σ.length = 3 := S.len
  obtain ⟨v0, hv0, r0⟩ := S.val 0 d rfl
  obtain ⟨w1, w2, rfl⟩ : ∃ w1 w2, σ = [some v0, w1, w2] := by
    match σ, hlen, hv0 with
    | [x, y, z], _, h => cases h; exact ⟨_, _, rfl⟩
  refine ⟨by show (0 : Nat) ≤ sizeLine; decide, fun q hq => ⟨by show (1 : Nat) ≤ sizeLine; decide, fun R hR => ?_⟩⟩
  have qR : q ≠ R := fun e => by subst e; rw [upd_same] at hR; cases hR
  have hR0 : H R = none := by rw [upd_ne qR.symm] at hR; exact hR
  have e2 : Same H (upd (upd H q (.lst [])) R (.lst [.ref q])) := fun a o h => by
    have aR : a ≠ R := fun z => by subst z; rw [hR0] at h; cases h
    have aq : a ≠ q := fun z => by subst z; rw [hq] at h; cases h
    rw [upd_ne aR, upd_ne aq]; exact h
  have B0 : SB G F R [q] [[]] (upd (upd H q (.lst [])) R (.lst [.ref q])) := by
    refine ⟨S.hF.trans e2, S.hG.same.trans e2, S.hG.same.free hR0, S.hF.free hR0, by rw [upd_same]; rfl, ?_, by simp, ?_, ?_, ?_, trivial⟩
    · intro z; exact qR (List.mem_singleton.mp z).symm
    · intro x hx; rw [List.mem_singleton.mp hx]; exact S.hG.same.free hq
    · intro x hx; rw [List.mem_singleton.mp hx]; exact S.hF.free hq
    · rw [upd_ne qR, upd_same]; rfl
  have main : ∀ (a : Addr) (J : It) (H0 : Hp), v0 = .ref a → H0 = upd (upd H q (.lst [])) R (.lst [.ref q]) → ItRep K J F (ps.map Prod.fst) → (∃ W : Nat → Nat → L2.St → Hp → Prop, (∃ m, W 0 m [some v0, some (.ref R), w2] H0) ∧ ∀ i m σ H, W i m σ H →
      (J.stop i H ∧ (tSeq (tRet (tVar 1)) tNext) D σ H) ∨ (J.go i H ∧ ∃ N : L2.St → Hp → Prop, (∀ σ' H', N σ' H' → ∃ m', m' < m ∧ W (i + 1) m' σ' H') ∧ ∀ x H', J.yld i H x H' → gName 2 x σ H' fun σ2 H2 => (tIfS tc (tSeq (tDrop (tBM K "list" rAppend (tVar 1) (tCons (tLst tNil) tNil))) tNext)
    (tSeq (tDrop (tBM K "list" rAppend (tOp (rIxL K) (tVar 1) (tUn (rU fun i => .int (-i)) (tC (.int 1)))) (tCons te tNil))) tNext)) { D with nx := N, ct := N, bk := (tSeq (tRet (tVar 1)) tNext) D } σ2 H2)) := by
    rintro a J H0 rfl rfl hJ
    refine ⟨fun i m σ' H' => m + i = ps.length ∧ ∃ F' qs w2, Up G F F' ∧ SB G F' R qs (sbL ((ps.take i).map Prod.snd)) H' ∧ σ' = [some (.ref a), some (.ref R), w2], ⟨ps.length, by omega, F, [q], w2, .refl _ _, B0, rfl⟩, ?_⟩
    rintro i m σ' Hc ⟨hm, F', qs, w2, uF, B, rfl⟩
    have J' := hJ F' Hc uF.ex B.fF
    by_cases hlt : i < ps.length
    · have hi : (ps.map Prod.fst)[i]? = some ps[i].1 := by rw [List.getElem?_map, List.getElem?_eq_getElem hlt]; rfl
      have hpi := hp ps[i] (List.getElem_mem hlt)
      have etake : sbL ((ps.take (i + 1)).map Prod.snd) = sbR (sbL ((ps.take i).map Prod.snd)) ps[i].2 := by
        unfold sbL
        rw [List.take_succ, List.getElem?_eq_getElem hlt, List.map_append, List.foldl_append]
        rfl
      have bound := sb_len ((ps.take i).map Prod.snd) [[]] 0 (by simp) (by simp)
      have tl : ((ps.take i).map Prod.snd).length ≤ 1000 := by rw [List.length_map, List.length_take]; omega
      have etl : List.foldl sbR [[]] ((ps.take i).map Prod.snd) = sbL ((ps.take i).map Prod.snd) := rfl
      rw [etl] at bound
      generalize sbL ((ps.take i).map Prod.snd) = rows at B etake bound
      obtain ⟨b1, b2⟩ := bound
      refine .inr ⟨(J'.1 i _ hi).1, fun σ'' H'' => ∃ F'' qs' w2', Up G F F'' ∧ SB G F'' R qs' (sbL ((ps.take (i + 1)).map Prod.snd)) H'' ∧ σ'' = [some (.ref a), some (.ref R), w2'], fun σ'' H'' h => ⟨m - 1, by omega, by omega, h⟩, fun x H1 hy => ?_⟩
      obtain ⟨F1, res⟩ := (J'.1 i _ hi).2 x H1 hy
      have S0 : Sim K Hc F' Hc [some (.ref a), some (.ref R), w2] [some (.val d), some (.val (.adr R)), none] := by
        refine ⟨B.fF, SameJ.rfl' F' Hc, rfl, fun j d' h => ?_, fun j b xs h => ?_, fun j k b xs ys h1 h2 => ?_, .nil fun i s h => by
          match i, h with
          | 0, h => cases h
          | 1, h => cases h
          | 2, h => cases h
          | _ + 3, h => simp at h⟩
        · match j, h with
          | 0, h => cases h; exact ⟨_, rfl, r0.mono uF.ex⟩
          | 1, h => cases h; exact ⟨_, rfl, .adr R⟩
          | 2, h => cases h
          | _ + 3, h => simp at h
        · match j, h with
          | 0, h => cases h
          | 1, h => cases h
          | 2, h => cases h
          | _ + 3, h => simp at h
        · match j, h1 with
          | 0, h1 => cases h1
          | 1, h1 => cases h1
          | 2, h1 => cases h1
          | _ + 3, h1 => simp at h1
      obtain ⟨u1, S1, r1⟩ := S0.res res
      have S2 := S1.setVal 2 r1
      refine hc Hc F1 H1 _ _ (fun b ρ' => b = ps[i].2.isNone ∧ ρ' = [some (.val d), some (.val (.adr R)), some (.val ps[i].1)]) _ S2 ⟨rfl, hpi.1 _ ⟨rfl, rfl⟩⟩ fun b F2 H2 ρ2 u2 S3 hb => ?_
      obtain ⟨rfl, rfl⟩ := hb
      have u02 := u1.trans u2
      have B2 := B.up u02 S3.hG.same S3.hF
      have uG : Up G F F2 := uF.trans (u02.less B.fG)
      cases e2 : ps[i].2 with
      | none =>
        rw [e2] at etake
        refine ite_ti ?_
        refine ⟨.ref R, rfl, .inl ⟨rfl, _, SqL.of B2.hR⟩, by show (0 : Nat) ≤ sizeLine; decide, fun p hp => ?_⟩
        have pR : R ≠ p := fun z => by subst z; rw [B2.hR] at hp; cases hp
        have ql := B2.hq.len
        refine ⟨R, qs.reverse.map V.ref, .ref p, rfl, rfl, by rw [upd_ne pR]; exact B2.hR, ?_, ?_⟩
        · rw [List.length_map, List.length_reverse, ql]
          exact Nat.lt_of_le_of_lt (show rows.length ≤ 2000 by omega) (by decide)
        · refine ⟨F2, p :: qs, _, uG, ?_, rfl⟩
          rw [etake]
          exact B2.more hp
      | some s =>
        rw [e2] at etake
        refine ite_fi ?_
        obtain ⟨w, rr, hd1⟩ := hpi.2 s e2
        cases rows with
        | nil =>
          have ql := B2.hq.len
          cases qs with
          | cons _ _ => cases ql
          | nil =>
            exfalso
            have ne : ∀ (es : List (Option Int)) (rs : List (List Int)), rs ≠ [] → es.foldl sbR rs ≠ [] := by
              intro es
              induction es with
              | nil => intro rs h; exact h
              | cons e es ih =>
                intro rs h
                refine ih _ ?_
                cases e with
                | none => exact fun z => nomatch z
                | some s =>
                  cases rs with
                  | nil => exact absurd rfl h
                  | cons x y => exact fun z => nomatch z
            exact ne ((ps.take (i + 1)).map Prod.snd) [[]] (fun z => nomatch z) etake
        | cons r0' rows =>
          cases qs with
          | nil => exact B2.hq.elim
          | cons q' qs =>
            have hq' := B2.hq.1
            refine ⟨.ref R, rfl, 1, rfl, R, (q' :: qs).reverse.map V.ref, -1, .ref q', rfl, rfl, SqL.of B2.hR, ?_, .inl ⟨rfl, _, SqL.of hq'⟩, ?_⟩
            · rw [List.reverse_cons, List.map_append]
              exact atI_last _ _
            refine he Hc F2 H2 _ _ (fun y ρ' => y = .int s) _ S3 ?_ fun y dy F3 H3 ρ3 u3 S4 r4 hy => ?_
            · rcases hd1 with hd1 | hd1 <;> rw [hd1]
              · exact ⟨.int s, atI_nat (j := 1) rfl, rfl⟩
              · exact ⟨.int s, atI_nat (j := 1) rfl, rfl⟩
            · subst hy
              cases r4
              have B3 := B.up (u02.trans u3) S4.hG.same S4.hF
              · refine ⟨q', r0'.map V.int, .int s, rfl, rfl, B3.hq.1, ?_, ?_⟩
                · rw [List.length_map]
                  have := b1 r0' List.mem_cons_self
                  exact Nat.lt_of_le_of_lt (show r0'.length ≤ 2000 by omega) (by decide)
                · refine ⟨F3, q' :: qs, _, uG.trans (u3.less B.fG), ?_, rfl⟩
                  rw [etake]
                  exact B3.grow s
    · have e : i = ps.length := by omega
      subst e
      refine .inl ⟨by have := J'.2; rw [List.length_map] at this; exact this, ?_⟩
      rw [List.take_length] at B
      obtain ⟨F4, u4, S4⟩ := B.froz (w2 := w2) (r0.mono uF.ex)
      exact ⟨.ref R, rfl, r.rt F4 Hc [some (.ref a), some (.ref R), w2] [some (.val d), none, none] _ _ (uF.trans u4) S4 (hP R)⟩
  rcases hd with rfl | rfl
  · cases r0 with
    | lst e rs => exact ⟨_, rfl, _, rfl, .inl ⟨⟨_, SqL.of (B0.fF _ _ e)⟩, main _ _ _ rfl rfl (itrep_list e rs)⟩⟩
  · cases r0 with
    | tup e rs => exact ⟨_, rfl, _, rfl, .inr ⟨⟨_, SqT.of (B0.fF _ _ e)⟩, main _ _ _ rfl rfl (itrep_tup e rs)⟩⟩
end Pl
namespace Pl
open PySem PySem.Spec PyProof.Rows L2
theorem ppss_sb {X : Cx} {g : FA} {c arg : Expr} {tc : TT} {te : TE} {xb xr xe : Str} {p1 p2 p3 p4 p5 p6 p7 p8 p9 pa pb pc pd pe pf pg ph pi pj pk pl pm : Pos} {k1 : Nat}
    (hp : PassesOwn (model X.prog X.w) X.A X.env X.xe) (hcalm : X.calm = true) (hN : X.N.Nodup) (hC : PPT X c tc (pTest (pFrz (pCallA 1 g (pCons (pVar 2) pNil))))) (hE : PPE X arg te (pIxO 2 (pC (.int 1))))
    (h0 : X.N[0]? = some xb := by rfl) (h1 : X.N[1]? = some xr := by rfl) (h2 : X.N[2]? = some xe := by rfl)
    (v0 : Vis X.env.scope xb := by first | exact Or.inl rfl | exact Or.inr (Or.inl rfl) | exact Or.inr (Or.inr rfl)) (v1 : Vis X.env.scope xr := by first | exact Or.inl rfl | exact Or.inr (Or.inl rfl) | exact Or.inr (Or.inr rfl))
    (l1 : Loc X.env.scope xr := by first | exact Or.inl rfl | exact Or.inr rfl) (l2 : Loc X.env.scope xe := by first | exact Or.inl rfl | exact Or.inr rfl)
    (f1 : X.fn xr = true ∨ X.env.scope.names.lookup xr = some .local := by first | exact .inl rfl | exact .inr rfl) (f2 : X.fn xe = true ∨ X.env.scope.names.lookup xe = some .local := by first | exact .inl rfl | exact .inr rfl)
    (d0 : (xb == ("__debug__" : Str)) = false := by decide) (d1 : (xr == ("__debug__" : Str)) = false := by decide) (c0 : (xb == ("__classdict__" : Str)) = false := by decide) (c1 : (xr == ("__classdict__" : Str)) = false := by decide)
    (s1 : swapsWith (.List [.List [] p2] p3) (some (.Name xr p1)) p4.line X.env = pure false := by rfl)
    (b1 : attributeBase (.Name xr p5) "append" X.env (eval (.Name xr p5) X.env) = eval (.Name xr p5) X.env := by rfl)
    (w1 : ((backTo p8 (starEach [.List [] p6] X.env)).all (fun x => !x.1) && (backToKw p8 (keywordEach [] X.env)).all (fun x => x.1.isSome) && decide ([Expr.List [] p6].length + ([] : List Keyword).length + (if ([] : List Keyword).isEmpty then 0 else 1) < 30)) = true := by rfl)
    (n1 : (p7.endLine == p8.line) = true := by rfl)
    (x1 : swapsWith (.Call (.Attribute (.Name xr p5) "append" p7) [.List [] p6] [] p8) none p9.line X.env = pure false := by rfl)
    (b2 : attributeBase (.Subscript (.Name xr pa) (.UnaryOp .USub (.Constant (.int 1) k1 pb) pc) pd) "append" X.env (eval (.Subscript (.Name xr pa) (.UnaryOp .USub (.Constant (.int 1) k1 pb) pc) pd) X.env) = eval (.Subscript (.Name xr pa) (.UnaryOp .USub (.Constant (.int 1) k1 pb) pc) pd) X.env := by rfl)
    (w2 : ((backTo pf (starEach [arg] X.env)).all (fun x => !x.1) && (backToKw pf (keywordEach [] X.env)).all (fun x => x.1.isSome) && decide ([arg].length + ([] : List Keyword).length + (if ([] : List Keyword).isEmpty then 0 else 1) < 30)) = true := by rfl)
    (n2 : (pe.endLine == pf.line) = true := by rfl)
    (e2 : starEach [arg] X.env = (false, eval arg X.env) :: starEach [] X.env := by rfl)
    (x2 : swapsWith (.Call (.Attribute (.Subscript (.Name xr pa) (.UnaryOp .USub (.Constant (.int 1) k1 pb) pc) pd) "append" pe) [arg] [] pf) none pg.line X.env = pure false := by rfl) :
    PPSs X [.Assign [.Name xr p1] (.List [.List [] p2] p3) p4, .For (.Name xe ph) (.Name xb pi) [.If c [.Expr (.Call (.Attribute (.Name xr p5) "append" p7) [.List [] p6] [] p8) p9]
      [.Expr (.Call (.Attribute (.Subscript (.Name xr pa) (.UnaryOp .USub (.Constant (.int 1) k1 pb) pc) pd) "append" pe) [arg] [] pf) pg] pj] [] pk, .Return (some (.Name xr pl)) pm] (tSB X.K tc te) (T_slopes_between g) :=
  ⟨pss_cons (ps_set hN h1 l1 (pe_lst (pa_cons (pe_lst pa_nil) pa_nil)) s1 f1) (pss_cons (ps_for hp hcalm (pi_any (pe_var h0 v0 d0 c0)) (pg_name hN h2 l2 f2) (pss_one (ps_if hC.pt
      (pss_cons (ps_expr (pe_bm PySem.F.plainAttrs_list PySem.F.slot_list_append PySem.F.type_list_append mt_append (pe_var h1 v1 d1 c1) (pa_cons (pe_lst pa_nil) pa_nil) b1 w1 n1) x1) pss_nil)
      (pss_cons (ps_expr (pe_bm PySem.F.plainAttrs_list PySem.F.slot_list_append PySem.F.type_list_append mt_append (pe_ix ix_list (pe_var h1 v1 d1 c1) (pe_un un_neg pe_int) (fun _ _ => rfl)) (pa_cons hE.pe pa_nil e2) b2 w2 n2 e2) x2) pss_nil))))
      (pss_cons (ps_ret (pe_var h1 v1 d1 c1)) pss_nil)), snd_sb hC.snd hE.snd⟩
end Pl
namespace PySem.W
open PySem Sem PyProof.Rows
structure Z3 (z TI TO i1 i2 i3 l1 l2 l3 : Addr) : Prop where
  i1z : i1 ≠ z
  i2z : i2 ≠ z
  i3z : i3 ≠ z
  i12 : i1 ≠ i2
  i13 : i1 ≠ i3
  i23 : i2 ≠ i3
  l1z : l1 ≠ z
  l2z : l2 ≠ z
  l3z : l3 ≠ z
  l11 : l1 ≠ i1
  l12 : l1 ≠ i2
  l13 : l1 ≠ i3
  l21 : l2 ≠ i1
  l22 : l2 ≠ i2
  l23 : l2 ≠ i3
  l31 : l3 ≠ i1
  l32 : l3 ≠ i2
  l33 : l3 ≠ i3
  Tz : TI ≠ z
  T1 : TI ≠ i1
  T2 : TI ≠ i2
  T3 : TI ≠ i3
  lO1 : l1 ≠ TO
  lO2 : l2 ≠ TO
  lO3 : l3 ≠ TO
  TTO : TI ≠ TO
section
variable {prog : Program} {w : World} {A : Around} {E : Value → Shared → Prop} {s : Shared} {z TI TO T i1 i2 i3 l1 l2 l3 : Addr} {f : Bool} {oT : Obj} {k : Nat} {xs ys us : Array Value} {x y u : Value}
theorem z3_next_item_held {Q : Value → Shared → Prop} (D : Z3 z TI TO i1 i2 i3 l1 l2 l3) (hz : IsZipHeld s.heap z TI TO T f) (hT : s.heap.get? T = some oT) (hTI : IsTupOf3 s.heap TI (.ref i1) (.ref i2) (.ref i3))
    (h1 : s.heap.IsListIter i1 l1 k) (h2 : s.heap.IsListIter i2 l2 k) (h3 : s.heap.IsListIter i3 l3 k) (hl1 : s.heap.IsList l1 xs) (hl2 : s.heap.IsList l2 ys) (hl3 : s.heap.IsList l3 us) (hx : xs[k]? = some x) (hy : ys[k]? = some y) (hu : us[k]? = some u)
    (hQ : ∀ h', IsZipHeld h' z TI TO T true → h'.IsListIter i1 l1 (k + 1) → h'.IsListIter i2 l2 (k + 1) → h'.IsListIter i3 l3 (k + 1) → IsTupOf3 h' s.heap.objs.size x y u → h'.objs.size = s.heap.objs.size + 1 →
      (∀ c o, c ≠ z → c ≠ i1 → c ≠ i2 → c ≠ i3 → s.heap.get? c = some o → h'.get? c = some o) → Q (.ref s.heap.objs.size) { s with heap := h' }) :
    wpAny (model prog w) A (Builtin.«zip.__next__» ⟨[.ref z], []⟩) (fun fin s' => ∃ v, fin = .done (.ret v) ∧ Q v s') E s := by
  show wpAny _ _ (field (.ref z) 2 >>= _) _ _ _
  refine wpAny_bind (wpAny_field hz rfl (x := .bool false) rfl ?_)
  show wpAny _ _ (field (.ref z) 3 >>= _) _ _ _
  refine wpAny_bind (wpAny_field hz rfl (x := .ref TI) rfl ?_)
  refine wpAny_bind (wpAny_seqItems hTI rfl ?_)
  show wpAny _ _ (Builtin.SmallTypes.ownedTupleIsFree (.ref z) >>= _) _ _ _
  refine wpAny_bind (wpAny_tupleHeld_zip hz hT fun h₁ hz₁ hs₁ => ?_)
  simp only [Bool.false_eq_true, if_false]
  refine wpAny_bind ?_
  rw [← Array.forIn_toList]
  simp only [List.forIn_cons, List.forIn_nil]
  refine wpAny_bind (wpAny_bind (wpAny_holding ?_))
  show wpAny _ _ (Builtin.SmallTypes.nextOf (.ref i1) >>= _) _ _ _
  refine wpAny_bind (wpAny_nextOf_list_item (s := { s with heap := h₁ }) (h1.extBut hs₁.extBut D.i1z) (hl1.extBut hs₁.extBut D.l1z) hx fun h₂ h1₂ hs₂ => wpAny_pure ?_)
  refine wpAny_pure ?_
  refine wpAny_bind (wpAny_bind (wpAny_holding ?_))
  show wpAny _ _ (Builtin.SmallTypes.nextOf (.ref i2) >>= _) _ _ _
  refine wpAny_bind (wpAny_nextOf_list_item (s := { s with heap := h₂ }) ((h2.extBut hs₁.extBut D.i2z).extBut hs₂.extBut D.i12.symm) ((hl2.extBut hs₁.extBut D.l2z).extBut hs₂.extBut D.l21) hy fun h₃ h2₃ hs₃ => wpAny_pure ?_)
  refine wpAny_pure ?_
  refine wpAny_bind (wpAny_bind (wpAny_holding ?_))
  show wpAny _ _ (Builtin.SmallTypes.nextOf (.ref i3) >>= _) _ _ _
  refine wpAny_bind (wpAny_nextOf_list_item (s := { s with heap := h₃ }) (((h3.extBut hs₁.extBut D.i3z).extBut hs₂.extBut D.i13.symm).extBut hs₃.extBut D.i23.symm) (((hl3.extBut hs₁.extBut D.l3z).extBut hs₂.extBut D.l31).extBut hs₃.extBut D.l32) hu fun h₄ h3₄ hs₄ => wpAny_pure ?_)
  refine wpAny_pure (wpAny_pure ?_)
  show wpAny _ _ (newTuple [x, y, u] >>= _) _ _ _
  refine wpAny_bind (wpAny_newTuple ?_)
  have hsz : h₄.objs.size = s.heap.objs.size := by rw [hs₄.1, hs₃.1, hs₂.1, hs₁.1]
  have hz₄ : IsZipHeld h₄ z TI TO T true := hs₄.extBut _ _ D.i3z.symm (hs₃.extBut _ _ D.i2z.symm (hs₂.extBut _ _ D.i1z.symm hz₁))
  have hk : ∀ c o, c ≠ z → c ≠ i1 → c ≠ i2 → c ≠ i3 → s.heap.get? c = some o → h₄.get? c = some o := fun c o c1 c2 c3 c4 e => hs₄.extBut _ _ c4 (hs₃.extBut _ _ c3 (hs₂.extBut _ _ c2 (hs₁.extBut _ _ c1 e)))
  have h1₄ : h₄.IsListIter i1 l1 (k + 1) := (h1₂.extBut hs₃.extBut D.i12).extBut hs₄.extBut D.i13
  have h2₄ : h₄.IsListIter i2 l2 (k + 1) := h2₃.extBut hs₄.extBut D.i23
  refine wpAny_pure ⟨_, rfl, ?_⟩
  show Q (.ref h₄.objs.size) _
  have hp : IsTupOf3 (h₄.push { cls := .type "tuple", data := .seq #[x, y, u] }) h₄.objs.size x y u := Heap.get?_push_size _ rfl
  have hz5 : (h₄.push { cls := .type "tuple", data := .seq #[x, y, u] }).objs.size = h₄.objs.size + 1 := Heap.size_push ..
  rw [hsz] at hp hz5 ⊢
  exact hQ _ (Heap.get?_push_of_some _ hz₄) (h1₄.at fun o e => Heap.get?_push_of_some _ e) (h2₄.at fun o e => Heap.get?_push_of_some _ e) (h3₄.at fun o e => Heap.get?_push_of_some _ e) hp hz5 fun c o c1 c2 c3 c4 e => Heap.get?_push_of_some _ (hk c o c1 c2 c3 c4 e)
theorem z3_next_end_held {Q : Fin → Shared → Prop} (hh : A.handled = none) (D : Z3 z TI TO i1 i2 i3 l1 l2 l3) (hz : IsZipHeld s.heap z TI TO T f) (hT : s.heap.get? T = some oT) (hTI : IsTupOf3 s.heap TI (.ref i1) (.ref i2) (.ref i3))
    (h1 : s.heap.IsListIter i1 l1 k) (hl1 : s.heap.IsList l1 xs) (hx : xs[k]? = none)
    (hE : ∀ h' e, (∀ c o, c ≠ z → c ≠ i1 → s.heap.get? c = some o → h'.get? c = some o) → (∃ o, h'.get? e = some o ∧ o.cls = .type "StopIteration") → E (.ref e) { s with heap := h' }) :
    wpAny (model prog w) A (Builtin.«zip.__next__» ⟨[.ref z], []⟩) Q E s := by
  show wpAny _ _ (field (.ref z) 2 >>= _) _ _ _
  refine wpAny_bind (wpAny_field hz rfl (x := .bool false) rfl ?_)
  show wpAny _ _ (field (.ref z) 3 >>= _) _ _ _
  refine wpAny_bind (wpAny_field hz rfl (x := .ref TI) rfl ?_)
  refine wpAny_bind (wpAny_seqItems hTI rfl ?_)
  show wpAny _ _ (Builtin.SmallTypes.ownedTupleIsFree (.ref z) >>= _) _ _ _
  refine wpAny_bind (wpAny_tupleHeld_zip hz hT fun h₁ hz₁ hs₁ => ?_)
  simp only [Bool.false_eq_true, if_false]
  refine wpAny_bind ?_
  rw [← Array.forIn_toList]
  simp only [List.forIn_cons, List.forIn_nil]
  refine wpAny_bind (wpAny_bind (wpAny_holding ?_))
  show wpAny _ _ (Builtin.SmallTypes.nextOf (.ref i1) >>= _) _ _ _
  refine wpAny_bind (wpAny_nextOf_list_end (s := { s with heap := h₁ }) hh (h1.extBut hs₁.extBut D.i1z) (hl1.extBut hs₁.extBut D.l1z) hx fun h₂ e hs₂ he => ?_)
  exact hE h₂ e (fun c o c1 c2 x => hs₂ _ _ c2 (hs₁.extBut _ _ c1 x)) he
theorem z3_pyNext_item_held {Q : Option Value → Shared → Prop} (D : Z3 z TI TO i1 i2 i3 l1 l2 l3) (hz : IsZipHeld s.heap z TI TO T f) (hT : s.heap.get? T = some oT) (hTI : IsTupOf3 s.heap TI (.ref i1) (.ref i2) (.ref i3))
    (h1 : s.heap.IsListIter i1 l1 k) (h2 : s.heap.IsListIter i2 l2 k) (h3 : s.heap.IsListIter i3 l3 k) (hl1 : s.heap.IsList l1 xs) (hl2 : s.heap.IsList l2 ys) (hl3 : s.heap.IsList l3 us) (hx : xs[k]? = some x) (hy : ys[k]? = some y) (hu : us[k]? = some u)
    (hQ : ∀ h', IsZipHeld h' z TI TO T true → h'.IsListIter i1 l1 (k + 1) → h'.IsListIter i2 l2 (k + 1) → h'.IsListIter i3 l3 (k + 1) → IsTupOf3 h' s.heap.objs.size x y u → h'.objs.size = s.heap.objs.size + 1 →
      (∀ c o, c ≠ z → c ≠ i1 → c ≠ i2 → c ≠ i3 → s.heap.get? c = some o → h'.get? c = some o) → Q (some (.ref s.heap.objs.size)) { s with heap := h' }) :
    wpAny (model prog w) A (pyNext (.ref z)) Q E s := by
  have hTy : s.TypeIs (.ref z) "zip" := ⟨_, hz, rfl⟩
  unfold pyNext
  exact wpAny_bind (wpAny_attempt (wpAny_callSpecial?_slot (name := Str.ofString "__next__") hTy F.slot_zip_next
    (wpAny_call_entry F.slot_zip_next hTy F.entry_zip_next
      (z3_next_item_held D hz hT hTI h1 h2 h3 hl1 hl2 hl3 hx hy hu fun h' a1 a2 a3 a4 a5 a6 a7 => wpAny_pure (hQ h' a1 a2 a3 a4 a5 a6 a7)) (F.args_zip_next_1 _))))
theorem z3_pyNext_end_held {Q : Option Value → Shared → Prop} (hh : A.handled = none) (D : Z3 z TI TO i1 i2 i3 l1 l2 l3) (hz : IsZipHeld s.heap z TI TO T f) (hT : s.heap.get? T = some oT) (hTI : IsTupOf3 s.heap TI (.ref i1) (.ref i2) (.ref i3))
    (h1 : s.heap.IsListIter i1 l1 k) (hl1 : s.heap.IsList l1 xs) (hx : xs[k]? = none)
    (hQ : ∀ h', (∀ c o, c ≠ z → c ≠ i1 → s.heap.get? c = some o → h'.get? c = some o) → Q none { s with heap := h' }) : wpAny (model prog w) A (pyNext (.ref z)) Q E s := by
  have hTy : s.TypeIs (.ref z) "zip" := ⟨_, hz, rfl⟩
  unfold pyNext
  refine wpAny_bind (wpAny_attempt (wpAny_callSpecial?_slot (name := Str.ofString "__next__") hTy F.slot_zip_next
    (wpAny_call_entry F.slot_zip_next hTy F.entry_zip_next (z3_next_end_held hh D hz hT hTI h1 hl1 hx fun h' e hk he => ?_) (F.args_zip_next_1 _))))
  obtain ⟨o, ho, hc⟩ := he
  refine wpAny_bind (wpAny_isInstance (T := "StopIteration") (b := true) ⟨o, ho, hc⟩ isSubtype_stop ?_)
  exact wpAny_pure (hQ _ hk)
end
end PySem.W
namespace PySem.W
open PySem Sem PyProof.Rows
structure Z3St (S z TI TO i1 i2 i3 l1 l2 l3 : Addr) (xs ys us : Array Value) (h : Heap) (i : Nat) : Prop where
  hTI : IsTupOf3 h TI (.ref i1) (.ref i2) (.ref i3)
  h1 : h.IsListIter i1 l1 i
  h2 : h.IsListIter i2 l2 i
  h3 : h.IsListIter i3 l3 i
  hl1 : h.IsList l1 xs
  hl2 : h.IsList l2 ys
  hl3 : h.IsList l3 us
  st : (i = 0 ∧ IsZip h z TI TO .none ∧ ∃ a1 a2 a3, IsTupOf3 h TO a1 a2 a3) ∨ ∃ T f oT, IsZipHeld h z TI TO T f ∧ h.get? T = some oT ∧ S < T
structure ZLow (S z TI TO i1 i2 i3 l1 l2 l3 : Addr) : Prop where
  z : z < S
  TI : TI < S
  TO : TO < S
  i1 : i1 < S
  i2 : i2 < S
  i3 : i3 < S
  l1 : l1 < S
  l2 : l2 < S
  l3 : l3 < S
theorem isList_at {h h' : Heap} {l : Addr} {items : Array Value} (x : h.IsList l items) (e : ∀ o, h.get? l = some o → h'.get? l = some o) : h'.IsList l items := by
  obtain ⟨o, ho, r⟩ := x
  exact ⟨o, e o ho, r⟩
section
variable {S z TI TO i1 i2 i3 l1 l2 l3 : Addr} {xs ys us : Array Value}
theorem Z3St.keep {h h' : Heap} {i : Nat} (x : Z3St S z TI TO i1 i2 i3 l1 l2 l3 xs ys us h i) (e : ∀ b o, b ≠ S → h.get? b = some o → h'.get? b = some o)
    (L : ZLow S z TI TO i1 i2 i3 l1 l2 l3) : Z3St S z TI TO i1 i2 i3 l1 l2 l3 xs ys us h' i := by
  refine ⟨e _ _ (Nat.ne_of_lt L.TI) x.hTI, x.h1.at fun o q => e _ o (Nat.ne_of_lt L.i1) q, x.h2.at fun o q => e _ o (Nat.ne_of_lt L.i2) q, x.h3.at fun o q => e _ o (Nat.ne_of_lt L.i3) q, isList_at x.hl1 fun o q => e _ o (Nat.ne_of_lt L.l1) q, isList_at x.hl2 fun o q => e _ o (Nat.ne_of_lt L.l2) q, isList_at x.hl3 fun o q => e _ o (Nat.ne_of_lt L.l3) q, ?_⟩
  rcases x.st with ⟨e0, hz, p, q, r, hTO⟩ | ⟨T, f, oT, hz, hT, hl⟩
  · exact .inl ⟨e0, e _ _ (Nat.ne_of_lt L.z) hz, p, q, r, e _ _ (Nat.ne_of_lt L.TO) hTO⟩
  · exact .inr ⟨T, f, oT, e _ _ (Nat.ne_of_lt L.z) hz, e _ _ (Nat.ne_of_gt hl) hT, hl⟩
section
variable {prog : Program} {w : World} {A : Around} {E : Value → Shared → Prop} {s : Shared} {i n : Nat}
theorem z3_item {Q : Option Value → Shared → Prop} (hh : A.handled = none) (ZS : ZipSep3 z TI TO i1 i2 i3 [i1, l1] [i2, l2] [i3, l3]) (D : Z3 z TI TO i1 i2 i3 l1 l2 l3) (L : ZLow S z TI TO i1 i2 i3 l1 l2 l3) (nx : xs.size = n) (ny : ys.size = n) (nu : us.size = n) (hst : Z3St S z TI TO i1 i2 i3 l1 l2 l3 xs ys us s.heap i) (hlt : i < n) (hS : S < s.heap.objs.size)
    (hQ : ∀ h' tk x y u, Z3St S z TI TO i1 i2 i3 l1 l2 l3 xs ys us h' (i + 1) → xs[i]? = some x → ys[i]? = some y → us[i]? = some u → IsTupOf3 h' s.heap.objs.size x y u → (∀ c o, c ≠ z → c ≠ TO → c ≠ i1 → c ≠ i2 → c ≠ i3 → s.heap.get? c = some o → h'.get? c = some o) → Q (some (.ref s.heap.objs.size)) { s with heap := h', toks := tk }) :
    wpAny (model prog w) A (pyNext (.ref z)) Q E s := by
  rcases hst.st with ⟨e0, hz, p, q, r, hTO⟩ | ⟨T, f, oT, hz, hT, hl⟩
  · refine wpAny_pyNext_zipD3_item ZS (Draws.list (A := A.in1) hh i1 l1 D.l11 xs) (Draws.list (A := A.in1) hh i2 l2 D.l22 ys) (Draws.list (A := A.in1) hh i3 l3 D.l33 us) hz hst.hTI hTO ⟨hst.h1, hst.hl1⟩ ⟨hst.h2, hst.hl2⟩ ⟨hst.h3, hst.hl3⟩ (by omega) (by omega) (by omega) fun x y u h' tk e1 e2 e3 hz' hTO' k1 k2 k3 hT' hsz hk => ?_
    exact hQ h' tk x y u ⟨hk _ _ D.Tz D.TTO D.T1 D.T2 D.T3 hst.hTI, k1.1, k2.1, k3.1, k1.2, k2.2, k3.2, .inr ⟨_, false, _, hz', hT', hS⟩⟩ e1 e2 e3 hT' hk
  · obtain ⟨x, hx⟩ : ∃ x, xs[i]? = some x := ⟨_, Array.getElem?_eq_getElem (by omega)⟩
    obtain ⟨y, hy⟩ : ∃ y, ys[i]? = some y := ⟨_, Array.getElem?_eq_getElem (by omega)⟩
    obtain ⟨u, hu⟩ : ∃ u, us[i]? = some u := ⟨_, Array.getElem?_eq_getElem (by omega)⟩
    refine z3_pyNext_item_held D hz hT hst.hTI hst.h1 hst.h2 hst.h3 hst.hl1 hst.hl2 hst.hl3 hx hy hu fun h' hz' k1 k2 k3 hT' hsz hk => ?_
    have hk' : ∀ c o, c ≠ z → c ≠ TO → c ≠ i1 → c ≠ i2 → c ≠ i3 → s.heap.get? c = some o → h'.get? c = some o := fun c o c1 _ c2 c3 c4 e => hk c o c1 c2 c3 c4 e
    have hTw' : T ≠ z ∧ T ≠ i1 ∧ T ≠ i2 ∧ T ≠ i3 := ⟨Nat.ne_of_gt (Nat.lt_trans L.z hl), Nat.ne_of_gt (Nat.lt_trans L.i1 hl), Nat.ne_of_gt (Nat.lt_trans L.i2 hl), Nat.ne_of_gt (Nat.lt_trans L.i3 hl)⟩
    exact hQ h' s.toks x y u ⟨hk _ _ D.Tz D.T1 D.T2 D.T3 hst.hTI, k1, k2, k3, isList_at hst.hl1 fun o q => hk _ o D.l1z D.l11 D.l12 D.l13 q, isList_at hst.hl2 fun o q => hk _ o D.l2z D.l21 D.l22 D.l23 q, isList_at hst.hl3 fun o q => hk _ o D.l3z D.l31 D.l32 D.l33 q, .inr ⟨T, true, oT, hz', hk _ _ hTw'.1 hTw'.2.1 hTw'.2.2.1 hTw'.2.2.2 hT, hl⟩⟩ hx hy hu hT' hk'
theorem z3_done {Q : Option Value → Shared → Prop} (hh : A.handled = none) (ZS : ZipSep3 z TI TO i1 i2 i3 [i1, l1] [i2, l2] [i3, l3]) (D : Z3 z TI TO i1 i2 i3 l1 l2 l3) (nx : xs.size = n) (ny : ys.size = n) (nu : us.size = n) (hst : Z3St S z TI TO i1 i2 i3 l1 l2 l3 xs ys us s.heap n)
    (hQ : ∀ h' tk, (∀ c o, c ≠ z → c ≠ TO → c ≠ i1 → c ≠ i2 → c ≠ i3 → s.heap.get? c = some o → h'.get? c = some o) → Q none { s with heap := h', toks := tk }) :
    wpAny (model prog w) A (pyNext (.ref z)) Q E s := by
  rcases hst.st with ⟨e0, hz, p, q, r, hTO⟩ | ⟨T, f, oT, hz, hT, hl⟩
  · exact wpAny_pyNext_zipD3_end ZS (Draws.list (A := A.in1) hh i1 l1 D.l11 xs) (Draws.list (A := A.in1) hh i2 l2 D.l22 ys) (Draws.list (A := A.in1) hh i3 l3 D.l33 us) hz hst.hTI hTO ⟨hst.h1, hst.hl1⟩ ⟨hst.h2, hst.hl2⟩ ⟨hst.h3, hst.hl3⟩ (by omega) (by omega) (by omega) (.inl nx.symm) hQ
  · exact z3_pyNext_end_held hh D hz hT hst.hTI hst.h1 hst.hl1 (Array.getElem?_eq_none (by omega)) fun h' hk => hQ h' s.toks fun c o c1 _ c2 _ _ e => hk c o c1 c2 e
structure G3 (xs ys us : Array Value) (lo : Addr) (h : Heap) (as : List Addr) : Prop where
  rise : as.Pairwise (· < ·)
  above : ∀ a ∈ as, lo < a
  tups : ∀ (j : Nat) (a : Addr), as[j]? = some a → ∃ x y u, xs[j]? = some x ∧ ys[j]? = some y ∧ us[j]? = some u ∧ IsTupOf3 h a x y u
theorem G3.there {lo : Addr} {h : Heap} {as : List Addr} (g : G3 xs ys us lo h as) {a : Addr} (ha : a ∈ as) : a < h.objs.size := by
  obtain ⟨j, hj⟩ := List.mem_iff_getElem?.mp ha
  obtain ⟨_, _, _, _, _, _, e⟩ := g.tups j a hj
  exact Heap.lt_size e
theorem z3_loop {R : Result → Shared → Prop} (hh : A.handled = none) (ZS : ZipSep3 z TI TO i1 i2 i3 [i1, l1] [i2, l2] [i3, l3]) (D : Z3 z TI TO i1 i2 i3 l1 l2 l3) (L : ZLow S z TI TO i1 i2 i3 l1 l2 l3) (nx : xs.size = n) (ny : ys.size = n) (nu : us.size = n) (hn : n ≤ sizeLine) (res : Value) {h₁ : Heap}
    (hR : ∀ h' tk acc c as, (∀ b o, b ≠ S → b ≠ z → b ≠ TO → b ≠ i1 → b ≠ i2 → b ≠ i3 → h₁.get? b = some o → h'.get? b = some o) → h'.get? S = some { cls := .type "list", dict := none, data := .seq acc c, slots := #[] } → as.length = n → G3 xs ys us S h' as →
      acc.toList = as.map Value.ref → R (.ok (.ret res)) { s with heap := h', toks := tk }) :
    ∀ (k i : Nat) (h : Heap) (tk c : Nat) (acc : Array Value) (as : List Addr), n - i = k → i ≤ n → Z3St S z TI TO i1 i2 i3 l1 l2 l3 xs ys us h i → (∀ b o, b ≠ S → b ≠ z → b ≠ TO → b ≠ i1 → b ≠ i2 → b ≠ i3 → h₁.get? b = some o → h.get? b = some o) →
      h.get? S = some { cls := .type "list", dict := none, data := .seq acc c, slots := #[] } → acc.toList = as.map Value.ref → as.length = i → G3 xs ys us S h as →
      codeAny (model prog w) A (.builtin "list.extend.loop" ⟨[.ref S, .ref z, res], []⟩) R { s with heap := h, toks := tk } := by
  have hSz : S ≠ z := Nat.ne_of_gt L.z
  have hSO : S ≠ TO := Nat.ne_of_gt L.TO
  have hS1 : S ≠ i1 := Nat.ne_of_gt L.i1
  have hS2 : S ≠ i2 := Nat.ne_of_gt L.i2
  have hS3 : S ≠ i3 := Nat.ne_of_gt L.i3
  have out : ∀ {a : Addr}, S < a → a ≠ z ∧ a ≠ TO ∧ a ≠ i1 ∧ a ≠ i2 ∧ a ≠ i3 := fun {a} ha => ⟨Nat.ne_of_gt (Nat.lt_trans L.z ha), Nat.ne_of_gt (Nat.lt_trans L.TO ha), Nat.ne_of_gt (Nat.lt_trans L.i1 ha), Nat.ne_of_gt (Nat.lt_trans L.i2 ha), Nat.ne_of_gt (Nat.lt_trans L.i3 ha)⟩
  intro k
  induction k with
  | zero =>
    intro i h tk c acc as hk hi hst hkeep hS hacc hal hG
    have hin : i = n := by omega
    subst hin
    refine codeAny_builtin PySem.F.entry_extend_loop ?_
    rw [Around.under_plainId PySem.F.plain_extend_loop _]
    show wpAny _ A.in1 (pyNext (.ref z) >>= _) _ _ _
    refine wpAny_bind (z3_done (s := { s with heap := h, toks := tk }) (A := A.in1) hh ZS D nx ny nu hst fun h' tk' he => ?_)
    refine wpAny_pure (hR h' tk' acc c as (fun b o b0 b1 b2 b3 b4 b5 e => he b o b1 b2 b3 b4 b5 (hkeep b o b0 b1 b2 b3 b4 b5 e)) (he S _ hSz hSO hS1 hS2 hS3 hS) hal ⟨hG.rise, hG.above, fun j a hj => ?_⟩ hacc)
    obtain ⟨x, y, u, e1, e2, e3, e4⟩ := hG.tups j a hj
    obtain ⟨o1, o2, o3, o4, o5⟩ := out (hG.above a (List.mem_of_getElem? hj))
    exact ⟨x, y, u, e1, e2, e3, he a _ o1 o2 o3 o4 o5 e4⟩
  | succ k ih =>
    intro i h tk c acc as hk hi hst hkeep hS hacc hal hG
    have hlt : i < n := by omega
    have hsz : acc.size = i := by rw [← Array.length_toList, hacc, List.length_map, hal]
    have hSl : S < h.objs.size := Heap.lt_size hS
    refine codeAny_builtin PySem.F.entry_extend_loop ?_
    rw [Around.under_plainId PySem.F.plain_extend_loop _]
    show wpAny _ A.in1 (pyNext (.ref z) >>= _) _ _ _
    refine wpAny_bind (z3_item (s := { s with heap := h, toks := tk }) (A := A.in1) hh ZS D L nx ny nu hst hlt hSl fun h' tk' x y u hst' ex ey eu ht hkp => ?_)
    dsimp only at ht hkp ⊢
    have hS' := hkp S _ hSz hSO hS1 hS2 hS3 hS
    have up : ∀ b o, b ≠ S → h'.get? b = some o → (h'.update S (Obj.mapSeq (·.push (Value.ref h.objs.size)))).get? b = some o := fun b o hb e => (Heap.get?_update_other _ _ (Ne.symm hb)).trans e
    show wpAny _ A.in1 (updateSeq S (·.push (Value.ref h.objs.size)) >>= _) _ _ _
    refine wpAny_bind ?_
    refine wpAny_updateSeq hS' rfl (wpAny_pure ⟨plainId_quiet PySem.F.plain_extend_loop _, ih (i + 1) _ tk' _ (acc.push (Value.ref h.objs.size)) (as ++ [h.objs.size]) (by omega) hlt (hst'.keep up L)
      (fun b o b0 b1 b2 b3 b4 b5 e => up b o b0 (hkp b o b1 b2 b3 b4 b5 (hkeep b o b0 b1 b2 b3 b4 b5 e))) (Heap.get?_update_self _ hS' rfl) (by rw [Array.toList_push, hacc, List.map_append]; rfl) (by rw [List.length_append, hal]; rfl) ⟨?_, ?_, ?_⟩⟩) (by rw [hsz]; omega) (by show (acc.push (Value.ref h.objs.size)).size ≤ sizeLine + 1; rw [Array.size_push, hsz]; omega)
    · refine List.pairwise_append.mpr ⟨hG.rise, List.pairwise_singleton _ _, fun a ha b hb => ?_⟩
      rw [List.mem_singleton.mp hb]
      exact hG.there ha
    · intro a ha
      rcases List.mem_append.mp ha with ha | ha
      · exact hG.above a ha
      · rw [List.mem_singleton.mp ha]; exact hSl
    · intro j b hj
      rcases Nat.lt_trichotomy j as.length with h1 | h1 | h1
      · rw [List.getElem?_append_left h1] at hj
        obtain ⟨x', y', u', e1, e2, e3, e4⟩ := hG.tups j b hj
        have hb := hG.above b (List.mem_of_getElem? hj)
        obtain ⟨o1, o2, o3, o4, o5⟩ := out hb
        exact ⟨x', y', u', e1, e2, e3, up b _ (Nat.ne_of_gt hb) (hkp b _ o1 o2 o3 o4 o5 e4)⟩
      · subst h1
        have hb : h.objs.size = b := by simpa using hj
        subst hb
        subst hal
        exact ⟨x, y, u, ex, ey, eu, up _ _ (Nat.ne_of_gt hSl) ht⟩
      · have hnone : (as ++ [h.objs.size])[j]? = none := List.getElem?_eq_none (by rw [List.length_append, List.length_singleton]; omega)
        rw [hnone] at hj; cases hj
end
end
end PySem.W
namespace PySem.W
open PySem Sem PyProof.Rows
theorem zip_no_len : typeLookup (.type "zip") "__len__" = pure none := am_miss_of_fast (by decide +kernel)
theorem zip_no_hint : typeLookup (.type "zip") "__length_hint__" = pure none := am_miss_of_fast (by decide +kernel)
section
variable {S z TI TO i1 i2 i3 l1 l2 l3 : Addr} {xs ys us : Array Value} {prog : Program} {w : World} {A : Around} {E : Value → Shared → Prop} {s : Shared} {n : Nat}
theorem z3_extend {R : Result → Shared → Prop} (hh : A.handled = none) (ZS : ZipSep3 z TI TO i1 i2 i3 [i1, l1] [i2, l2] [i3, l3]) (D : Z3 z TI TO i1 i2 i3 l1 l2 l3) (L : ZLow S z TI TO i1 i2 i3 l1 l2 l3) (nx : xs.size = n) (ny : ys.size = n) (nu : us.size = n) (hn : n ≤ sizeLine) (res : Value) (c₀ : Nat)
    (hz : IsZip s.heap z TI TO .none) (hst : Z3St S z TI TO i1 i2 i3 l1 l2 l3 xs ys us s.heap 0) (hS : s.heap.get? S = some { cls := .type "list", data := .seq #[] c₀ })
    (hR : ∀ h' tk acc c as, (∀ b o, b ≠ S → b ≠ z → b ≠ TO → b ≠ i1 → b ≠ i2 → b ≠ i3 → s.heap.get? b = some o → h'.get? b = some o) → h'.get? S = some { cls := .type "list", dict := none, data := .seq acc c, slots := #[] } → as.length = n → G3 xs ys us S h' as →
      acc.toList = as.map Value.ref → R (.ok (.ret res)) { s with heap := h', toks := tk }) :
    wpAny (model prog w) A.in1 (Builtin.List.listExtendWith (.ref S) (.ref z) res)
      (fun fin s' => match fin with | .done f => R (.ok f) s' | .again c' => c'.quiet = true ∧ codeAny (model prog w) A c' R s') (fun e s' => R (.error e) s') s := by
  have hT : s.TypeIs (.ref z) "zip" := ⟨_, hz, rfl⟩
  unfold Builtin.List.listExtendWith
  refine wpAny_bind (wpAny_typeOf (T := "zip") hT ?_)
  have h1 : Builtin.List.listSameRef (.ref S) (.ref z) = false := by simp [Builtin.List.listSameRef, Nat.ne_of_gt L.z]
  have h2 : (Value.type "zip" == Value.type "list") = false := by decide
  have h3 : (Value.type "zip" == Value.type "tuple") = false := by decide
  simp only [h1, h2, h3, Bool.or_false, Bool.false_eq_true, if_false]
  refine wpAny_bind (wpAny_pyIter_zip hz ?_)
  refine wpAny_bind (wpAny_holding ?_)
  unfold Builtin.List.listLengthHint
  refine wpAny_bind (wpAny_specialOf hT zip_no_len ?_)
  show wpAny _ A.in1 (specialOf (Value.ref z) (Str.ofString "__length_hint__") >>= _) _ _ _
  refine wpAny_bind (wpAny_specialOf hT zip_no_hint ?_)
  refine wpAny_pure ?_
  show wpAny _ A.in1 (rule "list.extend.makes-room" >>= fun _ => Builtin.List.listTouch (.ref S) >>= fun _ =>
    again (.builtin "list.extend.loop" ⟨[.ref S, .ref z, res], []⟩)) _ _ _
  refine wpAny_bind (wpAny_rule ?_)
  refine wpAny_bind ?_
  show wpAny _ A.in1 (updateSeq S (·.push .none) >>= fun _ => updateSeq S (·.pop)) _ _ _
  refine wpAny_bind (wpAny_updateSeq hS rfl ?_)
  have hS₂ := Heap.get?_update_self (Obj.mapSeq (·.push Value.none)) hS rfl
  refine wpAny_updateSeq (hz := by seq_fits) hS₂ rfl ?_
  have hS₃ := Heap.get?_update_self (Obj.mapSeq (·.pop)) hS₂ rfl
  have oth : ∀ b o, b ≠ S → s.heap.get? b = some o → ((s.heap.update S (Obj.mapSeq (·.push Value.none))).update S (Obj.mapSeq (·.pop))).get? b = some o :=
    fun b o hb e => (Heap.get?_update_other _ _ (Ne.symm hb)).trans ((Heap.get?_update_other _ _ (Ne.symm hb)).trans e)
  exact wpAny_pure ⟨plainId_quiet PySem.F.plain_extend_loop _, z3_loop (s := s) (h₁ := s.heap) hh ZS D L nx ny nu hn res hR n 0 _ _ _ #[] [] (Nat.sub_zero _) (Nat.zero_le _) (hst.keep oth L) (fun b o b0 _ _ _ _ _ e => oth b o b0 e) hS₃ rfl rfl
    ⟨List.Pairwise.nil, (fun _ ha => nomatch ha), (fun j a hj => by simp at hj)⟩⟩
theorem z3_init {R : Result → Shared → Prop} (hh : A.handled = none) (ZS : ZipSep3 z TI TO i1 i2 i3 [i1, l1] [i2, l2] [i3, l3]) (D : Z3 z TI TO i1 i2 i3 l1 l2 l3) (L : ZLow S z TI TO i1 i2 i3 l1 l2 l3) (nx : xs.size = n) (ny : ys.size = n) (nu : us.size = n) (hn : n ≤ sizeLine)
    (hz : IsZip s.heap z TI TO .none) (hst : Z3St S z TI TO i1 i2 i3 l1 l2 l3 xs ys us s.heap 0) (hS : s.heap.get? S = some { cls := .type "list", data := .seq #[] })
    (hR : ∀ h' tk acc c as, (∀ b o, b ≠ S → b ≠ z → b ≠ TO → b ≠ i1 → b ≠ i2 → b ≠ i3 → s.heap.get? b = some o → h'.get? b = some o) → h'.get? S = some { cls := .type "list", dict := none, data := .seq acc c, slots := #[] } → as.length = n → G3 xs ys us S h' as →
      acc.toList = as.map Value.ref → R (.ok (.ret .none)) { s with heap := h', toks := tk }) :
    wpAny (model prog w) A.in1 (Builtin.«list.__init__» ⟨[.ref S, .ref z], []⟩)
      (fun fin s' => match fin with | .done f => R (.ok f) s' | .again c' => c'.quiet = true ∧ codeAny (model prog w) A c' R s') (fun e s' => R (.error e) s') s := by
  show wpAny _ _ (do let old ← Builtin.List.listItems (.ref S); Builtin.List.listUpdate (.ref S) (fun _ => #[]); letGo old.toList.reverse; Builtin.List.listExtendWith (.ref S) (.ref z) .none) _ _ s
  refine wpAny_bind ?_
  unfold Builtin.List.listItems
  refine wpAny_bind (wpAny_seqItems hS rfl (wpAny_pure ?_))
  show wpAny _ _ (updateSeq S (fun _ => #[]) >>= fun _ => letGo (#[] : Array Value).toList.reverse >>= fun _ => Builtin.List.listExtendWith (.ref S) (.ref z) .none) _ _ s
  refine wpAny_bind (wpAny_updateSeq hS rfl ?_)
  have hS₂ := Heap.get?_update_self (Obj.mapSeq (fun _ => (#[] : Array Value))) hS rfl
  have oth : ∀ b o, b ≠ S → s.heap.get? b = some o → (s.heap.update S (Obj.mapSeq (fun _ => (#[] : Array Value)))).get? b = some o :=
    fun b o hb e => (Heap.get?_update_other _ _ (Ne.symm hb)).trans e
  refine wpAny_bind (wpAny_letGo ?_)
  refine z3_extend hh ZS D L nx ny nu hn .none _ (oth _ _ (Nat.ne_of_lt L.z) hz) (hst.keep oth L) hS₂ (fun h' tk acc c as hk hS' hl hG hacc => ?_)
  exact hR h' tk acc c as (fun b o b0 b1 b2 b3 b4 b5 e => hk b o b0 b1 b2 b3 b4 b5 (oth b o b0 e)) hS' hl hG hacc
theorem z3_call {Q : Value → Shared → Prop} (hh : A.handled = none) (ZS : ZipSep3 z TI TO i1 i2 i3 [i1, l1] [i2, l2] [i3, l3]) (D : Z3 z TI TO i1 i2 i3 l1 l2 l3) (L : ZLow s.heap.objs.size z TI TO i1 i2 i3 l1 l2 l3) (nx : xs.size = n) (ny : ys.size = n) (nu : us.size = n) (hn : n ≤ sizeLine)
    (hz : IsZip s.heap z TI TO .none) (hst : Z3St s.heap.objs.size z TI TO i1 i2 i3 l1 l2 l3 xs ys us s.heap 0)
    (hQ : ∀ h' tk acc c as, (∀ b o, b ≠ z → b ≠ TO → b ≠ i1 → b ≠ i2 → b ≠ i3 → s.heap.get? b = some o → h'.get? b = some o) → h'.get? s.heap.objs.size = some { cls := .type "list", dict := none, data := .seq acc c, slots := #[] } → as.length = n → G3 xs ys us s.heap.objs.size h' as →
      acc.toList = as.map Value.ref → Q (.ref s.heap.objs.size) { s with heap := h', toks := tk }) :
    wpAny (model prog w) A (call (.type "list") [.ref z]) Q E s := by
  refine callType_codes (Q₁ := fun obj s₁ => obj = .ref s.heap.objs.size ∧ s₁ = { s with heap := s.heap.push { cls := .type "list", data := .seq #[] } }) PySem.F.called_list (PySem.F.typeCall_list_1 _) PySem.F.entry_list_init
    (code_list_new _ ⟨rfl, rfl⟩) fun obj s₁ h₁ => ?_
  obtain ⟨rfl, rfl⟩ := h₁
  have hS : (s.heap.push { cls := .type "list", data := .seq #[] }).get? s.heap.objs.size = some { cls := .type "list", data := .seq #[] } := Heap.get?_push_size _ rfl
  have up : ∀ b o, s.heap.get? b = some o → (s.heap.push { cls := .type "list", data := .seq #[] }).get? b = some o := fun b o e => Heap.get?_push_of_some _ e
  refine ⟨⟨_, hS, rfl⟩, PySem.F.args_list_init_2 _ _, z3_init (A := A.in1) hh ZS D L nx ny nu hn (up _ _ hz) (hst.keep (fun b o _ e => up b o e) L) hS (fun h' tk acc c as hk hS' hl hG hacc => ?_)⟩
  exact ⟨rfl, hQ h' tk acc c as (fun b o b1 b2 b3 b4 b5 e => hk b o (Nat.ne_of_lt (Heap.lt_size e)) b1 b2 b3 b4 b5 (up b o e)) hS' hl hG hacc⟩
end
end PySem.W
namespace LiI
open PySem PySem.Spec PyProof.Rows L2
def putT3 : Hp → List Addr → List (V × V × V) → Hp
  | H, a :: as, q :: qs => putT3 (upd H a (.tup [q.1, q.2.1, q.2.2])) as qs
  | H, _, _ => H
theorem putT3_off {b : Addr} : ∀ (as : List Addr) (qs : List (V × V × V)) (H : Hp), b ∉ as → putT3 H as qs b = H b
  | [], _, _, _ => rfl
  | _ :: _, [], _, _ => rfl
  | a :: as, q :: qs, H, h => by
    show putT3 (upd H a (.tup [q.1, q.2.1, q.2.2])) as qs b = H b
    rw [putT3_off as qs _ (fun z => h (List.mem_cons_of_mem _ z)), upd_ne (fun z => h (by rw [z]; exact List.mem_cons_self))]
theorem putT3_at : ∀ (as : List Addr) (qs : List (V × V × V)) (H : Hp), as.Nodup → ∀ (j : Nat) (a : Addr) (q : V × V × V), as[j]? = some a → qs[j]? = some q → putT3 H as qs a = some (.tup [q.1, q.2.1, q.2.2])
  | [], _, _, _, _, _, _, h, _ => by simp at h
  | _ :: _, [], _, _, _, _, _, _, h => by simp at h
  | a :: as, q :: qs, H, hn, j, b, r, h1, h2 => by
    have hn' := List.nodup_cons.mp hn
    cases j with
    | zero =>
      cases h1
      cases h2
      show putT3 (upd H a (.tup [q.1, q.2.1, q.2.2])) as qs a = _
      rw [putT3_off as qs _ hn'.1, upd_same]
    | succ j => exact putT3_at as qs _ hn'.2 j b r (by simpa using h1) (by simpa using h2)
def tListZ3 (K : PySem.W.Frag) (t : TA) : TE := fun σ H Q => t σ H fun vs H1 => ∃ a b c xs ys zs, vs = [.ref a, .ref b, .ref c] ∧ SqL K H1 a xs ∧ SqL K H1 b ys ∧ SqL K H1 c zs ∧ xs.length = ys.length ∧ xs.length = zs.length ∧
  ∀ (p : Addr) (ts : List Addr), H1 p = none → (∀ t ∈ ts, H1 t = none) → p ∉ ts → ts.Nodup → ts.length = xs.length → Q (.ref p) (putT3 (upd H1 p (.lst (ts.map V.ref))) ts (xs.zip (ys.zip zs)))
section
variable {X : Cx}
theorem triples_laid {pins : List (Addr × Obj)} {σ : L2.St} {H : Hp} {s : Shared} {h' : Heap} {tk : Nat} {xs ys zs : List V} {ux uy uz : List Value} {acc : Array Value} {c : Nat} {p : Addr} {as : List Addr} (I : Inv X pins σ H s) (hp : s.heap.objs.size ≤ p) (hz : xs.length ≤ sizeLine) (l2 : xs.length = ys.length) (l3 : xs.length = zs.length) (rx : Vals xs ux) (ry : Vals ys uy) (rz : Vals zs uz)
    (hk : ∀ b o, s.heap.get? b = some o → h'.get? b = some o) (hS : h'.get? p = some { cls := .type "list", dict := none, data := .seq acc c, slots := #[] }) (hl : as.length = xs.length) (hG : PySem.W.G3 ux.toArray uy.toArray uz.toArray p h' as) (hacc : acc.toList = as.map Value.ref) :
    H p = none ∧ (∀ t ∈ as, H t = none) ∧ p ∉ as ∧ as.Nodup ∧ Inv X pins σ (putT3 (upd H p (.lst (as.map V.ref))) as (xs.zip (ys.zip zs))) { s with heap := h', toks := tk } := by
  have hSn : p ∉ as := fun z => Nat.lt_irrefl _ (hG.above _ z)
  have nd : as.Nodup := List.Pairwise.imp (fun {a b} (h : a < b) => Nat.ne_of_lt h) hG.rise
  have new : ∀ t ∈ as, H t = none := fun t ht => I.hok.fresh (Nat.le_trans hp (Nat.le_of_lt (hG.above t ht)))
  have newS : H p = none := I.hok.fresh hp
  have atP := putT3_at as (xs.zip (ys.zip zs)) (upd H p (.lst (as.map V.ref))) nd
  have off : ∀ b, b ∉ as → b ≠ p → putT3 (upd H p (.lst (as.map V.ref))) as (xs.zip (ys.zip zs)) b = H b := fun b h1 h2 => by rw [putT3_off as _ _ h1, upd_ne h2]
  have low : ∀ b o, s.heap.get? b = some o → b ∉ as ∧ b ≠ p := fun b o e => ⟨fun z => absurd (Heap.lt_size e) (Nat.not_lt.mpr (Nat.le_trans hp (Nat.le_of_lt (hG.above b z)))), Nat.ne_of_lt (Nat.lt_of_lt_of_le (Heap.lt_size e) hp)⟩
  have kp : ∀ b u, H b = some u → (putT3 (upd H p (.lst (as.map V.ref))) as (xs.zip (ys.zip zs))) b = some u := fun b u e => by
    rw [off b (fun z => by rw [new b z] at e; cases e) (fun z => by rw [z, newS] at e; cases e)]
    exact e
  have eS : putT3 (upd H p (.lst (as.map V.ref))) as (xs.zip (ys.zip zs)) p = some (.lst (as.map V.ref)) := by rw [putT3_off as _ _ hSn, upd_same]
  refine ⟨newS, new, hSn, nd, ?_⟩
  refine I.call' (ch := []) rfl ⟨fun b o q _ _ _ => hk b o q, fun b o q _ _ _ => ⟨o.slots, hk b o q⟩, fun b o q n _ => ?_, fun b o q _ => ⟨o, hk b o q⟩, fun b xs q => kp b _ q, fun b o u q => kp b _ q, fun b ps q => ⟨#[], by rw [kp b _ q]; simp⟩⟩ (fun b u q => ?_) I.bare fun b z => by simp at z
  · obtain ⟨z1, z2⟩ := low b o q
    rw [off b z1 z2]
    exact n
  · by_cases hb : b ∈ as
    · obtain ⟨j, hj⟩ := List.mem_iff_getElem?.mp hb
      obtain ⟨x, y, w, e1, e2, e3, e4⟩ := hG.tups j b hj
      have hjl : j < xs.length := by
        have : j < as.length := by
          rcases Nat.lt_or_ge j as.length with g | g
          · exact g
          · rw [List.getElem?_eq_none g] at hj; cases hj
        omega
      have e1 : ux[j]? = some x := by simpa using e1
      have e2 : uy[j]? = some y := by simpa using e2
      have e3 : uz[j]? = some w := by simpa using e3
      have vx : xs[j]? = some xs[j] := List.getElem?_eq_getElem hjl
      have vy : ys[j]? = some ys[j] := List.getElem?_eq_getElem (by omega)
      have vz : zs[j]? = some zs[j] := List.getElem?_eq_getElem (by omega)
      obtain ⟨x', hx', rx'⟩ := rx.get vx
      obtain ⟨y', hy', ry'⟩ := ry.get vy
      obtain ⟨w', hw', rw''⟩ := rz.get vz
      rw [e1] at hx'
      rw [e2] at hy'
      rw [e3] at hw'
      cases hx'
      cases hy'
      cases hw'
      have hq : (xs.zip (ys.zip zs))[j]? = some (xs[j], ys[j], zs[j]) := by
        rw [List.getElem?_zip_eq_some, List.getElem?_zip_eq_some]
        exact ⟨vx, vy, vz⟩
      rw [atP j b _ hj hq] at q
      cases q
      exact ⟨by show 3 ≤ sizeLine; decide, [x, y, w], .cons rx' (.cons ry' (.cons rw'' .nil)), ⟨_, e4, rfl, _, rfl⟩⟩
    · by_cases hb2 : b = p
      · rw [hb2] at q ⊢
        rw [eS] at q
        cases q
        refine ⟨by rw [List.length_map]; omega, acc.toList, c, by rw [hacc]; exact vals_refs as, ?_⟩
        rw [Array.toArray_toList]
        exact hS
      · rw [off b hb hb2] at q
        exact (I.hok b u q).stay (fun d v _ y => hk d v y) (fun d y => kp d _ y) fun d xs y => kp d _ y
theorem pe_listZ3 {e e2 e3 : Expr} {ta : TA} {p q pos pos2 : Pos} (hc : X.calm = true) (hgl : Gl X "list") (hml : X.mg "list" = none) (hg : Gl X "zip") (hm : X.mg "zip" = none) (ha : PA X [e, e2, e3] ta)
    (hs : starEach [e, e2, e3] X.env = (false, eval e X.env) :: starEach [e2, e3] X.env := by rfl) (hpl : (backTo pos2 (starEach [e2, e3] X.env)).any (·.1) = false := by rfl)
    (na : starEach [.Call (.Name "zip" q) [e, e2, e3] [] pos2] X.env = (false, eval (.Call (.Name "zip" q) [e, e2, e3] [] pos2) X.env) :: starEach [] X.env := by rfl) :
    PE X (.Call (.Name "list" p) [.Call (.Name "zip" q) [e, e2, e3] [] pos2] [] pos) (tListZ3 X.K ta) := by
  refine ⟨fun pins s σ H Q I h => ?_⟩
  refine Call_ (ld_blt I hgl hml boot_list (PyProof.Rows.callWith_type1 (args_cons (Call_ (ld_blt I hg hm PyProof.Rows.boot_zip (PyProof.Rows.callWith_type1 (thn (ha.run pos2 pins s σ H _ I h) fun us s1 ⟨vs, H1, I1, r1, q1⟩ => ?_) hs hpl))) na) na))
  obtain ⟨a, b, c, xs, ys, zs, ex, hqx, hqy, hqz, el2, el3, q⟩ := q1
  subst ex
  cases r1 with
  | cons ra r1 =>
  cases r1 with
  | cons rb r1 =>
  cases r1 with
  | cons rc r1 =>
  cases r1
  cases ra
  cases rb
  cases rc
  obtain ⟨its, rv, p1, hz1, la⟩ := Pl.invK (k := true) I1 hqx
  obtain ⟨its2, rv2, p2, _, lb⟩ := Pl.invK (k := true) I1 hqy
  obtain ⟨its3, rv3, p3, _, lc⟩ := Pl.invK (k := true) I1 hqz
  have n1 := rv.length
  have n2 := rv2.length
  have n3 := rv3.length
  refine zip_begins3 (Pl.beginsK true a its.toArray) (Pl.beginsK true b its2.toArray) (Pl.beginsK true c its3.toArray) p1 p2 p3 fun h' hz hTI hTO h1 h2 h3 hsz hk => args_nil ?_
  have sp : ZipSep3 (s1.heap.objs.size + 5) (s1.heap.objs.size + 3) (s1.heap.objs.size + 4) s1.heap.objs.size (s1.heap.objs.size + 1) (s1.heap.objs.size + 2) [s1.heap.objs.size, a] [s1.heap.objs.size + 1, b] [s1.heap.objs.size + 2, c] :=
    zip_sep3 (fp1 := [a]) (fp2 := [b]) (fp3 := [c]) (fun d hd => by rw [List.mem_singleton.mp hd]; exact la) (fun d hd => by rw [List.mem_singleton.mp hd]; exact lb) (fun d hd => by rw [List.mem_singleton.mp hd]; exact lc)
  generalize hN : s1.heap.objs.size = N at *
  have D : PySem.W.Z3 (N + 5) (N + 3) (N + 4) N (N + 1) (N + 2) a b c := by
    constructor <;> (intro z; revert z; simp only [Addr] at *; omega)
  have L : PySem.W.ZLow h'.objs.size (N + 5) (N + 3) (N + 4) N (N + 1) (N + 2) a b c := by
    rw [hsz]
    constructor <;> (simp only [Addr] at *; omega)
  have st : PySem.W.Z3St h'.objs.size (N + 5) (N + 3) (N + 4) N (N + 1) (N + 2) a b c its.toArray its2.toArray its3.toArray h' 0 :=
    ⟨hTI, Pl.itK_new (k := true) h1, Pl.itK_new (k := true) h2, Pl.itK_new (k := true) h3, PySem.W.isList_at p1 fun o e => hk _ o e, PySem.W.isList_at p2 fun o e => hk _ o e, PySem.W.isList_at p3 fun o e => hk _ o e, .inl ⟨rfl, hz, _, _, _, hTO⟩⟩
  refine PySem.W.z3_call (s := { s1 with heap := h' }) (n := xs.length) (I1.ok.hd hc) sp D L (by rw [List.size_toArray]; omega) (by rw [List.size_toArray]; omega) (by rw [List.size_toArray]; omega) hz1 hz st fun h2' tk acc cc as hk2 hS hl hG hacc => ?_
  have keep : ∀ b o, s1.heap.get? b = some o → h2'.get? b = some o := fun b o e => by
    have lt : b < N := by rw [← hN]; exact Heap.lt_size e
    refine hk2 b o ?_ ?_ ?_ ?_ ?_ (hk b o e) <;> (intro z; revert z lt; simp only [Addr] at *; omega)
  obtain ⟨k1, k2, k3, k4, J⟩ := triples_laid (tk := tk) I1 (p := h'.objs.size) (by rw [hN, hsz]; omega) hz1 el2 el3 rv rv2 rv3 keep hS hl hG hacc
  exact ⟨.ref _, _, J, rfl, q _ as k1 k2 k3 k4 hl⟩
end
end LiI
namespace Pl
open PySem PySem.Spec PyProof.Rows L2 LiI
variable [TJ]
def tri (xs ys zs : List D) : List D := (xs.zip (ys.zip zs)).map fun q => .tup [q.1, q.2.1, q.2.2]
theorem sim_put {K : PySem.W.Frag} {G : Hp} {σ : L2.St} {ρ : Ro} : ∀ (ts : List Addr) (qs : List (V × V × V)) (F H : Hp), Sim K G F H σ ρ → (∀ t ∈ ts, H t = none) → ts.Nodup → Up G F (putT3 F ts qs) ∧ Sim K G (putT3 F ts qs) (putT3 H ts qs) σ ρ
  | [], _, F, H, S, _, _ => ⟨.refl _ _, S⟩
  | _ :: _, [], F, H, S, _, _ => ⟨.refl _ _, S⟩
  | t :: ts, q :: qs, F, H, S, hf, hn => by
    have ht := hf t List.mem_cons_self
    have hn' := List.nodup_cons.mp hn
    obtain ⟨u, S2⟩ := sim_put ts qs (upd F t (.tup [q.1, q.2.1, q.2.2])) (upd H t (.tup [q.1, q.2.1, q.2.2])) (S.new ht) (fun x hx => by
      rw [upd_ne (fun e => hn'.1 (by rw [← e]; exact hx))]
      exact hf x (List.mem_cons_of_mem _ hx)) hn'.2
    exact ⟨(S.upNew ht).trans u, S2⟩
theorem reps_tri {K : PySem.W.Frag} {F : Hp} : ∀ {ts : List Addr} {vx vy vz : List V} {xs ys zs : List D}, Reps K F vx xs → Reps K F vy ys → Reps K F vz zs → vx.length = vy.length → vx.length = vz.length → ts.length = vx.length →
    (∀ (j : Nat) (t : Addr) (q : V × V × V), ts[j]? = some t → (vx.zip (vy.zip vz))[j]? = some q → F t = some (.tup [q.1, q.2.1, q.2.2])) → Reps K F (ts.map V.ref) (tri xs ys zs)
  | [], _, _, _, _, _, _, .nil, _, _, _, _, _, _ => .nil
  | [], _, _, _, _, _, _, .cons _ _, _, _, _, _, hl, _ => by cases hl
  | _ :: _, _, _, _, _, _, _, .nil, _, _, _, _, hl, _ => by cases hl
  | t :: ts, _, _, _, _, _, _, .cons rx tx, ry, rz, h2, h3, hl, h => by
    cases ry with
    | nil => cases h2
    | cons ry ty =>
      cases rz with
      | nil => cases h3
      | cons rz tz =>
        refine .cons (.tup (h 0 t _ rfl rfl) (.cons rx (.cons ry (.cons rz .nil)))) (reps_tri tx ty tz (Nat.succ.inj h2) (Nat.succ.inj h3) (Nat.succ.inj hl) fun j t' q e1 e2 => h (j + 1) t' q (by simpa using e1) (by simpa using e2))
section
variable {X : Cx} {e e2 e3 : Expr} {ta : TA} {Ta : TAp} {p q pos pos2 : Pos}
def pLstZ3 (T : TAp) : TEp := fun ρ Q => T ρ fun ds ρ1 => match ds with
  | [.lst xs, .lst ys, .lst zs] => xs.length = ys.length ∧ xs.length = zs.length ∧ Q (.lst (tri xs ys zs)) ρ1
  | _ => False
theorem ppe_listZ3 (hc : X.calm = true) (hgl : Gl X "list") (hml : X.mg "list" = none) (hg : Gl X "zip") (hm : X.mg "zip" = none) (ha : PPA X [e, e2, e3] ta Ta)
    (hs : starEach [e, e2, e3] X.env = (false, eval e X.env) :: starEach [e2, e3] X.env := by rfl) (hpl : (backTo pos2 (starEach [e2, e3] X.env)).any (·.1) = false := by rfl)
    (na : starEach [.Call (.Name "zip" q) [e, e2, e3] [] pos2] X.env = (false, eval (.Call (.Name "zip" q) [e, e2, e3] [] pos2) X.env) :: starEach [] X.env := by rfl) :
    PPE X (.Call (.Name "list" p) [.Call (.Name "zip" q) [e, e2, e3] [] pos2] [] pos) (tListZ3 X.K ta) (pLstZ3 Ta) := ⟨pe_listZ3 hc hgl hml hg hm ha.pa hs hpl na, fun G F H σ ρ Q R S hT k =>
  ha.snd G F H σ ρ _ _ S hT fun vs ds F1 H1 ρ1 u1 S1 r1 q1 => by
    match ds, r1, q1 with
    | [.lst xs, .lst ys, .lst zs], r1, q1 =>
      cases r1 with
      | cons ra r1 =>
        cases r1 with
        | cons rb r1 =>
          cases r1 with
          | cons rc r1 =>
            cases r1
            cases ra with
            | @lst a vx _ fa rx =>
              cases rb with
              | @lst b vy _ fb ry =>
                cases rc with
                | @lst c vz _ fc rz =>
                  obtain ⟨l2, l3, qq⟩ := q1
                  have m2 : vx.length = vy.length := by rw [rx.length, ry.length, l2]
                  have m3 : vx.length = vz.length := by rw [rx.length, rz.length, l3]
                  refine ⟨a, b, c, vx, vy, vz, rfl, SqL.of (S1.hF _ _ fa), SqL.of (S1.hF _ _ fb), SqL.of (S1.hF _ _ fc), m2, m3, fun pp ts hp ht hpt hn hl => ?_⟩
                  have S2 := S1.new (o := .lst (ts.map V.ref)) hp
                  have u2 := S1.upNew (o := .lst (ts.map V.ref)) hp
                  obtain ⟨u3, S3⟩ := sim_put ts (vx.zip (vy.zip vz)) _ _ S2 (fun t h => by rw [upd_ne (fun e => hpt (by rw [← e]; exact h))]; exact ht t h) hn
                  have mo : Same F1 (putT3 (upd F1 pp (.lst (ts.map V.ref))) ts (vx.zip (vy.zip vz))) := u2.ex.trans u3.ex
                  refine k _ _ _ _ ρ1 ((u1.trans u2).trans u3) S3 (.lst (vs := ts.map V.ref) ?_ (reps_tri (rx.mono mo) (ry.mono mo) (rz.mono mo) m2 m3 hl fun j t q e1 e2 => putT3_at ts _ _ hn j t q e1 e2)) qq
                  rw [putT3_off ts _ _ hpt, upd_same]⟩
end
end Pl
namespace Pl
open PySem PySem.Spec PyProof.Rows L2
variable [TJ]
def NEl (K : PySem.W.Frag) (G F H : Hp) (ρ : Ro) (p : Addr) (xs : List D) : Prop := F p = none ∧ G p = none ∧ NotOwn ρ p ∧ ∃ us, H p = some (.lst us) ∧ Reps K F us xs
structure Nst (K : PySem.W.Frag) (G F H : Hp) (σ : L2.St) (ρ : Ro) (i : Nat) (q : Addr) (es : List (Addr × List D)) : Prop where
  sl : σ[i]? = some (some (.ref q))
  z : ρ[i]? = some none
  nf : F q = none
  ng : G q = none
  no : NotOwn ρ q
  hq : H q = some (.lst (es.map fun e => V.ref e.1))
  el : ∀ e ∈ es, NEl K G F H ρ e.1 e.2
  nd : (q :: es.map (·.1)).Nodup
open Classical in
noncomputable def plusG (G H : Hp) (as : List Addr) : Hp := fun b => if b ∈ as then H b else G b
theorem plus_in {G H : Hp} {as : List Addr} {b : Addr} (h : b ∈ as) : plusG G H as b = H b := by unfold plusG; rw [if_pos h]
theorem plus_out {G H : Hp} {as : List Addr} {b : Addr} (h : b ∉ as) : plusG G H as b = G b := by unfold plusG; rw [if_neg h]
section
variable {K : PySem.W.Frag} {G F H F1 H1 : Hp} {σ : L2.St} {ρ ρ1 : Ro} {i : Nat} {q : Addr} {es : List (Addr × List D)}
theorem Sim.rebase (S : Sim K G F H σ ρ) (hF : Same F H1) (hG : SameJ G F H1) (ho : ∀ b, isOwn ρ b ∨ InBox ρ b → H1 b = H b) : Sim K G F H1 σ ρ :=
  ⟨hF, hG, S.len, S.val, fun i a xs e => by
    obtain ⟨h1, h2, h3, vs, h4, h5⟩ := S.own i a xs e
    exact ⟨h1, h2, h3, vs, by rw [ho a (.inl ⟨i, xs, e⟩)]; exact h4, h5⟩, S.ne, S.bx.heap (.refl _) fun p m => ⟨(S.bx.free m).1, (S.bx.free m).2.1, ho p (.inr m)⟩⟩
abbrev adrs (q : Addr) (es : List (Addr × List D)) : List Addr := q :: es.map (·.1)
theorem Nst.free (N : Nst K G F H σ ρ i q es) {b : Addr} (h : b ∈ adrs q es) : F b = none ∧ G b = none ∧ NotOwn ρ b ∧ ∃ us, H b = some (.lst us) := by
  rcases List.mem_cons.mp h with e | h
  · subst e; exact ⟨N.nf, N.ng, N.no, _, N.hq⟩
  · obtain ⟨e, he, rfl⟩ := List.mem_map.mp h
    obtain ⟨h1, h2, h3, us, h4, _⟩ := N.el e he
    exact ⟨h1, h2, h3, us, h4⟩
theorem Nst.same {A : Hp} (N : Nst K G F H σ ρ i q es) (h : ∀ b ∈ adrs q es, A b = none) : Same A (plusG A H (adrs q es)) := fun b o e => by
  rw [plus_out fun z => by rw [h b z] at e; cases e]; exact e
theorem Nst.guard (S : Sim K G F H σ ρ) (N : Nst K G F H σ ρ i q es) : Sim K (plusG G H (adrs q es)) F H σ ρ :=
  ⟨S.hF, ⟨fun b o e => by
    by_cases h : b ∈ adrs q es
    · rw [plus_in h] at e; exact e
    · rw [plus_out h] at e; exact S.hG b o e, TJ.frame S.hG.tj fun b o e => by
    by_cases h : b ∈ adrs q es
    · obtain ⟨_, _, _, us, h4⟩ := N.free h
      exact .inr ⟨_, h4, trivial⟩
    · rw [plus_out h] at e; exact .inl e⟩, S.len, S.val, fun j a xs e => by
    obtain ⟨h1, h2, h3, h4⟩ := S.own j a xs e
    exact ⟨h1, h2, by rw [plus_out fun z => (N.free z).2.2.1.1 j xs e]; exact h3, h4⟩, S.ne, S.bx.heap (.refl _) fun p m => ⟨(S.bx.free m).1, by rw [plus_out fun z => (N.free z).2.2.1.2 m]; exact (S.bx.free m).2.1, rfl⟩⟩
theorem Nst.back (N : Nst K G F H σ ρ i q es) (u : Up (plusG G H (adrs q es)) F F1) (S1 : Sim K (plusG G H (adrs q es)) F1 H1 σ ρ1) (hz : ρ1[i]? = some none) : Up G F F1 ∧ Sim K G F1 H1 σ ρ1 ∧ Nst K G F1 H1 σ ρ1 i q es := by
  have sm : Same G (plusG G H (adrs q es)) := N.same fun b h => (N.free h).2.1
  have hH : ∀ b ∈ adrs q es, H1 b = H b := fun b h => by
    obtain ⟨_, _, _, us, h4⟩ := N.free h
    rw [h4]; exact S1.hG b _ (by rw [plus_in h]; exact h4)
  have hF1 : ∀ b ∈ adrs q es, F1 b = none := fun b h => by
    obtain ⟨h1, _, _, us, h4⟩ := N.free h
    exact u.isNone h1 (by rw [plus_in h]; exact h4)
  have hn : ∀ b ∈ adrs q es, NotOwn ρ1 b := fun b h => by
    obtain ⟨_, _, _, us, h4⟩ := N.free h
    exact ⟨fun j ys e => (by
      have := (S1.own j b ys e).2.2.1
      rw [plus_in h, h4] at this; cases this), S1.bx.notG (by rw [plus_in h]; exact h4)⟩
  have mq : q ∈ adrs q es := by simp
  have me : ∀ e ∈ es, e.1 ∈ adrs q es := fun e he => List.mem_cons_of_mem _ (List.mem_map.mpr ⟨e, he, rfl⟩)
  refine ⟨u.less sm, ⟨S1.hF, S1.hG.less sm, S1.len, S1.val, fun j a xs e => ?_, S1.ne, S1.bx.unguard sm⟩, ⟨N.sl, hz, hF1 q mq, N.ng, hn q mq, by rw [hH q mq]; exact N.hq, fun e he => ?_, N.nd⟩⟩
  · obtain ⟨h1, h2, h3, h4⟩ := S1.own j a xs e
    exact ⟨h1, h2, sm.free h3, h4⟩
  · obtain ⟨h1, h2, h3, us, h4, h5⟩ := N.el e he
    exact ⟨hF1 _ (me e he), h2, hn _ (me e he), us, by rw [hH _ (me e he)]; exact h4, h5.mono u.ex⟩
theorem Nst.mut (S : Sim K G F H σ ρ) (N : Nst K G F H σ ρ i q es) {j : Nat} {e : Addr × List D} {vs : List V} {ys : List D} (he : es[j]? = some e) (r : Reps K F vs ys) :
    Sim K G F (upd H e.1 (.lst vs)) σ ρ ∧ Nst K G F (upd H e.1 (.lst vs)) σ ρ i q (es.set j (e.1, ys)) := by
  have hm : e ∈ es := List.mem_of_getElem? he
  obtain ⟨h1, h2, h3, us, h4, h5⟩ := N.el e hm
  have hj : j < es.length := by
    rcases Nat.lt_or_ge j es.length with h | h
    · exact h
    · rw [List.getElem?_eq_none h] at he; cases he
  have nq : q ≠ e.1 := fun z => (List.nodup_cons.mp N.nd).1 (z ▸ List.mem_map.mpr ⟨e, hm, rfl⟩)
  have em : (es.set j (e.1, ys)).map (fun x => x.1) = es.map (fun x => x.1) := by
    rw [List.map_set]
    refine List.ext_getElem? fun k => ?_
    by_cases hk : j = k
    · subst hk
      rw [List.getElem?_set_self (by rw [List.length_map]; exact hj), List.getElem?_map, he]; rfl
    · rw [List.getElem?_set_ne hk]
  refine ⟨S.rebase (fun b o z => ?_) (S.hG.mut h2 h4) (fun b hb => ?_), ⟨N.sl, N.z, N.nf, N.ng, N.no, ?_, fun x hx => ?_, by rw [em]; exact N.nd⟩⟩
  · rw [upd_ne fun y => by subst y; rw [h1] at z; cases z]; exact S.hF b o z
  · rcases hb with ⟨k, xs, z⟩ | hb
    · rw [upd_ne fun y => by subst y; exact h3.1 k xs z]
    · rw [upd_ne fun y => by subst y; exact h3.2 hb]
  · rw [upd_ne nq, N.hq]
    have : (es.set j (e.1, ys)).map (fun x => V.ref x.1) = es.map (fun x => V.ref x.1) := by
      have := congrArg (List.map V.ref) em
      rw [List.map_map, List.map_map] at this; exact this
    rw [this]
  · rcases List.mem_or_eq_of_mem_set hx with hx' | hx'
    · by_cases hxe : x.1 = e.1
      ·
        obtain ⟨k, hk⟩ := List.getElem?_of_mem hx
        by_cases hjk : j = k
        · subst hjk
          rw [List.getElem?_set_self hj] at hk
          cases hk
          exact ⟨h1, h2, h3, vs, upd_same, r⟩
        · rw [List.getElem?_set_ne hjk] at hk
          have nd := (List.nodup_cons.mp N.nd).2
          have a1 : (es.map (·.1))[j]? = some e.1 := by rw [List.getElem?_map, he]; rfl
          have a2 : (es.map (·.1))[k]? = some x.1 := by rw [List.getElem?_map, hk]; rfl
          have hkl : k < (es.map (·.1)).length := by
            rcases Nat.lt_or_ge k (es.map (·.1)).length with h | h
            · exact h
            · rw [List.getElem?_eq_none h] at a2; cases a2
          exact absurd ((List.getElem?_inj (by rw [List.length_map]; exact hj) nd).mp (by rw [a1, a2, hxe])) hjk
      · obtain ⟨g1, g2, g3, ws, g4, g5⟩ := N.el x hx'
        exact ⟨g1, g2, g3, ws, by rw [upd_ne hxe]; exact g4, g5⟩
    · subst hx'
      exact ⟨h1, h2, h3, vs, upd_same, r⟩
theorem reps_refs {A : Hp} : ∀ {es : List (Addr × List D)}, (∀ e ∈ es, ∃ us, A e.1 = some (.lst us) ∧ Reps K A us e.2) → Reps K A (es.map fun e => V.ref e.1) ((es.map (·.2)).map D.lst)
  | [], _ => .nil
  | e :: es, h => by
    obtain ⟨us, h1, h2⟩ := h e (by simp)
    exact .cons (.lst h1 h2) (reps_refs fun x hx => h x (by simp [hx]))
theorem Nst.look (S : Sim K G F H σ ρ) (N : Nst K G F H σ ρ i q es) : Up G F (plusG F H (adrs q es)) ∧ Sim K G (plusG F H (adrs q es)) H σ (ρ.set i (some (.val (.lst ((es.map (·.2)).map D.lst))))) := by
  have sm : Same F (plusG F H (adrs q es)) := N.same fun b h => (N.free h).1
  have hi : i < ρ.length := by
    rcases Nat.lt_or_ge i ρ.length with h | h
    · exact h
    · have := N.z; rw [List.getElem?_eq_none h] at this; cases this
  have mq : q ∈ adrs q es := by simp
  have me : ∀ e ∈ es, e.1 ∈ adrs q es := fun e he => List.mem_cons_of_mem _ (List.mem_map.mpr ⟨e, he, rfl⟩)
  have S1 : Sim K G (plusG F H (adrs q es)) H σ ρ := ⟨fun b o e => by
      by_cases h : b ∈ adrs q es
      · rw [plus_in h] at e; exact e
      · rw [plus_out h] at e; exact S.hF b o e, S.hG.froz fun b o e => by
      by_cases h : b ∈ adrs q es
      · obtain ⟨_, _, _, us, h4⟩ := N.free h
        exact .inr ⟨us, h4⟩
      · rw [plus_out h] at e; exact .inl e, S.len, fun j d e => by
      obtain ⟨v, h1, h2⟩ := S.val j d e
      exact ⟨v, h1, h2.mono sm⟩, fun j a xs e => by
      obtain ⟨h1, h2, h3, vs, h4, h5⟩ := S.own j a xs e
      exact ⟨h1, by rw [plus_out fun z => (N.free z).2.2.1.1 j xs e]; exact h2, h3, vs, h4, h5.mono sm⟩, S.ne, S.bx.heap sm fun p m => ⟨by rw [plus_out fun z => (N.free z).2.2.1.2 m]; exact (S.bx.free m).1, (S.bx.free m).2.1, rfl⟩⟩
  refine ⟨⟨sm, fun b o e => ?_⟩, ?_⟩
  · by_cases h : b ∈ adrs q es
    · exact .inr (N.free h).2.1
    · rw [plus_out h] at e; exact .inl e
  · have S2 := S1.setVal i (v := .ref q) (d := .lst ((es.map (·.2)).map D.lst)) (.lst (by rw [plus_in mq]; exact N.hq) (reps_refs fun e he => by
      obtain ⟨h1, h2, h3, us, h4, h5⟩ := N.el e he
      exact ⟨us, by rw [plus_in (me e he)]; exact h4, h5.mono sm⟩))
    have : σ.set i (some (.ref q)) = σ := by
      refine List.ext_getElem? fun k => ?_
      by_cases hk : i = k
      · subst hk; rw [List.getElem?_set_self (by rw [S.len]; exact hi), N.sl]
      · rw [List.getElem?_set_ne hk]
    rw [this] at S2; exact S2
end
section
variable {X : Cx} {i : Nat} {st a rest : List Stmt} {t u : TS} {T : TSp} {U : List (List D) → TSp} {e : Expr} {es : List Expr} {te : TE} {ta : TA} {Te : TEp} {Tc : TCs} {pos : Pos}
theorem NEl.more {K : PySem.W.Frag} {G F H : Hp} {ρ : Ro} {p r : Addr} {xs : List D} {o : HO} {i : Nat} (h : NEl K G F H ρ p xs) (hr : H r = none) : NEl K G F (upd H r o) (ρ.set i none) p xs := by
  obtain ⟨h1, h2, h3, us, h4, h5⟩ := h
  refine ⟨h1, h2, ⟨fun j ys e => ?_, fun m => h3.2 (set_inbox (by simp) m)⟩, us, by rw [upd_ne (ne_of_none h4 hr)]; exact h4, h5⟩
  by_cases hj : i = j
  · subst hj
    by_cases hi : i < ρ.length
    · rw [List.getElem?_set_self hi] at e; cases e
    · rw [List.getElem?_eq_none (by simpa using hi)] at e; cases e
  · rw [List.getElem?_set_ne hj] at e; exact h3.1 j ys e
end
end Pl
namespace Pl
open PySem PySem.Spec PyProof.Rows L2
section
variable {X : Cx}
def rInT (K : PySem.W.Frag) : R2 := fun x y H Q => ∃ d ds, Dp K H x d ∧ Dp K H y (.tuple ds) ∧ SeqAt.shaped d = true ∧ SeqAt.shaped (.tuple ds) = true ∧ Q (.bl (ds.any fun z => PyData.eqv z d)) H
theorem op_inT (hu : X.A.units + 65 < cLine) : OpR X (compareOp .In) (rInT X.K) := by
  intro pins s σ H x y v u Q I rx ry h
  obtain ⟨d, ds, hd, he, sd, se, q⟩ := h
  obtain ⟨as, r1⟩ := Dp.reads I d x v hd rx
  obtain ⟨bs, r2⟩ := Dp.reads I (.tuple ds) y u he ry
  exact SeqAt.in_tuple_reads r2 r1 (SeqAt.canLay_of_shaped se) (SeqAt.canLay_of_shaped sd) (room_in_shaped sd hu) ⟨.bl _, H, I, rfl, q⟩
def fInT : F2 := fun x y Q => match y with
  | .tup ys => x.sh ∧ (D.tup ys).sh ∧ Q (.bl (ys.any fun z => z.eqv x))
  | _ => False
theorem cm_inT (hu : X.A.units + 65 < cLine) : Cmp X .In (rInT X.K) fInT := ⟨op_inT hu, fun F H x y dx dy Q R hs rx ry hf k => by
  cases ry with
  | @tup a vs ys h r =>
    obtain ⟨h1, h2, q⟩ := hf
    refine ⟨toPy dx, toPys ys, rx.dp hs h1, ?_, h1, ?_, ?_⟩
    · have := (Rep.tup h r).dp hs h2; rw [toPy] at this; exact this
    · unfold D.sh at h2; rw [toPy] at h2; exact h2
    · rw [any_toPys]; exact k _ _ _ _ (.old (.bl _)) q
  | _ => exact hf.elim⟩
end
end Pl
namespace Pl
open PySem PySem.Spec PyProof.Rows L2
variable [TJ]
def lookD (ps : List (L2.Key × D)) (k : L2.Key) : Option D := (ps.find? fun p => decide (p.1 = k)).map (·.2)
def putD (ps : List (L2.Key × D)) (k : L2.Key) (y : D) : List (L2.Key × D) :=
  if (ps.any fun p => decide (p.1 = k)) = true then ps.map (fun p => if p.1 = k then (p.1, y) else p) else ps ++ [(k, y)]
section
variable {K : PySem.W.Frag} {F : Hp}
theorem KvR.len : ∀ {kvs : List (L2.Key × V)} {ps : List (L2.Key × D)}, KvR K F kvs ps → kvs.length = ps.length
  | [], [], _ => rfl
  | _ :: _, _ :: _, h => congrArg (· + 1) (KvR.len h.2.2)
  | [], _ :: _, h => h.elim
  | _ :: _, [], h => h.elim
theorem KvR.look (k : L2.Key) : ∀ {kvs : List (L2.Key × V)} {ps : List (L2.Key × D)}, KvR K F kvs ps → (valV kvs k = none ∧ lookD ps k = none) ∨ ∃ v y, valV kvs k = some v ∧ lookD ps k = some y ∧ Rep K F v y
  | [], [], _ => .inl ⟨rfl, rfl⟩
  | p :: kvs, q :: ps, h => by
    by_cases e : p.1 = k
    · exact .inr ⟨p.2, q.2, valV_pos e, by unfold lookD; rw [List.find?_cons_of_pos (by rw [← h.1]; exact decide_eq_true e)]; rfl, h.2.1⟩
    · have e2 : lookD (q :: ps) k = lookD ps k := by unfold lookD; rw [List.find?_cons_of_neg (by rw [← h.1]; simp [e])]
      rw [valV_neg e, e2]
      exact KvR.look k h.2.2
  | [], _ :: _, h => h.elim
  | _ :: _, [], h => h.elim
theorem KvR.any (k : L2.Key) : ∀ {kvs : List (L2.Key × V)} {ps : List (L2.Key × D)}, KvR K F kvs ps → (kvs.any fun p => decide (p.1 = k)) = (ps.any fun p => decide (p.1 = k))
  | [], [], _ => rfl
  | p :: kvs, q :: ps, h => by rw [List.any_cons, List.any_cons, h.1, KvR.any k h.2.2]
  | [], _ :: _, h => h.elim
  | _ :: _, [], h => h.elim
theorem KvR.repl {k : L2.Key} {v : V} {y : D} (r : Rep K F v y) : ∀ {kvs : List (L2.Key × V)} {ps : List (L2.Key × D)}, KvR K F kvs ps → KvR K F (kvs.map fun p => if p.1 = k then (p.1, v) else p) (ps.map fun p => if p.1 = k then (p.1, y) else p)
  | [], [], _ => trivial
  | p :: kvs, q :: ps, h => by
    have t := KvR.repl (k := k) r h.2.2
    by_cases e : p.1 = k
    · have e2 : q.1 = k := h.1 ▸ e
      show KvR K F ((if p.1 = k then (p.1, v) else p) :: _) ((if q.1 = k then (q.1, y) else q) :: _)
      rw [if_pos e, if_pos e2]
      exact ⟨h.1, r, t⟩
    · have e2 : ¬ q.1 = k := fun z => e (h.1 ▸ z)
      show KvR K F ((if p.1 = k then (p.1, v) else p) :: _) ((if q.1 = k then (q.1, y) else q) :: _)
      rw [if_neg e, if_neg e2]
      exact ⟨h.1, h.2.1, t⟩
  | [], _ :: _, h => h.elim
  | _ :: _, [], h => h.elim
theorem KvR.snoc {k : L2.Key} {v : V} {y : D} (r : Rep K F v y) : ∀ {kvs : List (L2.Key × V)} {ps : List (L2.Key × D)}, KvR K F kvs ps → KvR K F (kvs ++ [(k, v)]) (ps ++ [(k, y)])
  | [], [], _ => ⟨rfl, r, trivial⟩
  | p :: kvs, q :: ps, h => ⟨h.1, h.2.1, KvR.snoc r h.2.2⟩
  | [], _ :: _, h => h.elim
  | _ :: _, [], h => h.elim
theorem KvR.put {k : L2.Key} {v : V} {y : D} (r : Rep K F v y) {kvs : List (L2.Key × V)} {ps : List (L2.Key × D)} (h : KvR K F kvs ps) : KvR K F (putK kvs k v) (putD ps k y) := by
  unfold putK putD
  rw [h.any k]
  split
  · exact h.repl r
  · exact h.snoc r
end
def Sh.pairs : Sh → Option (List (L2.Key × D))
  | .dic _ ps => some ps
  | .dicL _ _ _ ps => some ps
  | .ins .. => none
  | .gen _ => none
theorem Sh.At.look {K : PySem.W.Frag} {F H : Hp} {s : Sh} (h : s.At K F H) {ps : List (L2.Key × D)} (e : s.pairs = some ps) (k : L2.Key) : ∃ o, DGet H s.root (kV k) o ∧ o.isSome = (lookD ps k).isSome ∧ ∀ y, lookD ps k = some y → ∃ v, o = some v ∧ Rep K F v y := by
  have fin : ∀ (a : Addr) (kvs : List (L2.Key × V)), Rd H a (.dK kvs) → KvR K F kvs ps → ∃ o, DGet H a (kV k) o ∧ o.isSome = (lookD ps k).isSome ∧ ∀ y, lookD ps k = some y → ∃ v, o = some v ∧ Rep K F v y := fun a kvs rd r => by
    refine ⟨valV kvs k, .inl ⟨kvs, k, rd, rfl, rfl⟩, ?_⟩
    rcases r.look k with ⟨h1, h2⟩ | ⟨v, y, h1, h2, h3⟩
    · rw [h1, h2]; exact ⟨rfl, fun y z => by cases z⟩
    · rw [h1, h2]; exact ⟨rfl, fun y' z => by cases z; exact ⟨v, rfl, h3⟩⟩
  cases s with
  | dic a ps' =>
    cases e
    obtain ⟨kvs, h1, h2⟩ := h
    exact fin a kvs (.inl h1) h2
  | dicL a o kvs ps' =>
    cases e
    exact fin a kvs (.inr ⟨o, h.1⟩) h.2
  | ins a C dx fs => cases e
  | gen g => cases e
theorem Sim.mutBox {K : PySem.W.Frag} {G F H H' : Hp} {σ : L2.St} {ρ : Ro} (S : Sim K G F H σ ρ) {i : Nat} {s s' : Sh} (e : ρ[i]? = some (some (.box s))) (hr : s'.root = s.root) (hf : ∀ p ∈ s'.foot, p ∈ s.foot) (ho : ∀ p, p ∉ s.foot → H' p = H p) (hG : SameJ G F H') (ha : s'.At K F H') :
    Sim K G F H' σ (ρ.set i (some (.box s'))) := by
  obtain ⟨b1, b2, b3⟩ := S.bx.box i s e
  have hi := at_lt e
  have cut : ∀ {j : Nat} {x : Cell}, (ρ.set i (some (.box s')))[j]? = some (some x) → (ρ[j]? = some (some x) ∧ i ≠ j) ∨ (j = i ∧ x = .box s') := fun {j x} h => by
    by_cases hj : i = j
    · subst hj
      rw [List.getElem?_set_self hi] at h
      cases h
      exact .inr ⟨rfl, rfl⟩
    · rw [List.getElem?_set_ne hj] at h; exact .inl ⟨h, hj⟩
  refine ⟨fun b o q => ?_, hG, by simpa using S.len, fun j d' h => ?_, fun j b ys h => ?_, fun j k b ys zs h1 h2 => ?_, fun j t h => ?_, fun j k t u p h1 h2 m1 m2 => ?_, fun j a xs h ⟨k, t, h1, m⟩ => ?_⟩
  · rw [ho b fun m => by rw [(b2 b m).1] at q; cases q]; exact S.hF b o q
  · rcases cut h with ⟨h, q⟩ | ⟨_, z⟩
    · exact S.val j d' h
    · cases z
  · rcases cut h with ⟨h, q⟩ | ⟨_, z⟩
    · obtain ⟨g1, g2, g3, vs, g4, g5⟩ := S.own j b ys h
      exact ⟨g1, g2, g3, vs, by rw [ho b fun m => S.bx.bo j b ys h ⟨i, s, e, m⟩]; exact g4, g5⟩
    · cases z
  · rcases cut h1 with ⟨h1, _⟩ | ⟨_, z⟩
    · rcases cut h2 with ⟨h2, _⟩ | ⟨_, z⟩
      · exact S.ne j k b ys zs h1 h2
      · cases z
    · cases z
  · rcases cut h with ⟨h, q⟩ | ⟨rfl, z⟩
    · obtain ⟨g1, g2, g3⟩ := S.bx.box j t h
      exact ⟨g1, g2, g3.mono (.refl _) fun p m => ho p fun m2 => q (S.bx.bb i j s t p e h m2 m)⟩
    · cases z
      exact ⟨by rw [hr]; exact b1, fun p m => b2 p (hf p m), ha⟩
  · rcases cut h1 with ⟨h1, q1⟩ | ⟨e1, z⟩
    · rcases cut h2 with ⟨h2, _⟩ | ⟨e2, z⟩
      · exact S.bx.bb j k t u p h1 h2 m1 m2
      · cases z
        exact absurd (S.bx.bb i j s t p e h1 (hf p m2) m1) q1
    · cases z
      rcases cut h2 with ⟨h2, q2⟩ | ⟨e2, _⟩
      · exact absurd (S.bx.bb i k s u p e h2 (hf p m1) m2) q2
      · omega
  · rcases cut h with ⟨h, _⟩ | ⟨_, z⟩
    · rcases cut h1 with ⟨h1, _⟩ | ⟨_, z⟩
      · exact S.bx.bo j a xs h ⟨k, t, h1, m⟩
      · cases z
        exact S.bx.bo j a xs h ⟨i, s, e, hf a m⟩
    · cases z
end Pl
namespace Pl
open PySem PySem.Spec PyProof.Rows L2
abbrev Fds := List (Str × Fd)
abbrev FM := Fds → List D → (Cell → Fds → Prop) → Prop
def hideF (H : Hp) (as : List Addr) : Hp := fun b => if b ∈ as then none else H b
theorem hideF_ne {H : Hp} {as : List Addr} {b : Addr} (h : b ∉ as) : hideF H as b = H b := by unfold hideF; rw [if_neg h]
theorem hideF_at {H : Hp} {as : List Addr} {b : Addr} (h : b ∈ as) : hideF H as b = none := by unfold hideF; rw [if_pos h]
theorem hideF_same (H : Hp) (as : List Addr) : Same (hideF H as) H := fun b o e => by
  by_cases h : b ∈ as
  · rw [hideF_at h] at e; cases e
  · rw [hideF_ne h] at e; exact e
def spM (K : PySem.W.Frag) (n : Nat) (C : Addr) (g : FM) : Sp := fun vs H Q _ => ∃ (F : Hp) (a dx : Addr) (fs : Fds) (ws : List V) (ds : List D) (Cn : Cell → Fds → Prop), vs = .ref a :: ws ∧ vs.length = n ∧ Same F H ∧ (∀ p ∈ (Sh.ins a C dx fs).foot, F p = none) ∧ (Sh.ins a C dx fs).At K F H ∧ Reps K F ws ds ∧ g fs ds Cn ∧
  ∀ v c fs' F' H', Up (hideF H (Sh.ins a C dx fs).foot) F F' → SimR K (hideF H (Sh.ins a C dx fs).foot) F' H' [some (.ref a), some v] [some (.box (.ins a C dx fs')), some c] → Cn c fs' → Q v H'
section
variable [TJ] {K : PySem.W.Frag} {G F H F' H' : Hp} {σ : L2.St} {ρ : Ro} {v : V} {c : Cell} {s s' : Sh} {i : Nat}
theorem Sim.only2M (S : Sim K G F H (σ ++ [some v]) (ρ ++ [some c])) (e : ρ[i]? = some (some (.box s))) : SimR K G F H [some (.ref s.root), some v] [some (.box s), some c] := by
  obtain ⟨h1, h2, h3⟩ := S.drop.bx.box i s e
  have hi := at_lt e
  have el : (ρ ++ [some c])[ρ.length]? = some (some c) := by simp
  have ei : (ρ ++ [some c])[i]? = some (some (.box s)) := by rw [List.getElem?_append_left hi]; exact e
  refine ⟨S.hF, S.hG.same, rfl, fun j d h => ?_, fun j b ys h => ?_, fun j k b ys zs q1 q2 => ?_, fun j t h => ?_, fun j k t u p q1 q2 m1 m2 => ?_, fun j b ys q ⟨k, t, e2, m⟩ => ?_⟩
  · match j, h with
    | 1, h => have e' : c = .val d := Option.some.inj (Option.some.inj h); subst e'; exact ⟨v, rfl, S.lastVal⟩
  · match j, h with
    | 1, h =>
      have e' : c = .own b ys := Option.some.inj (Option.some.inj h)
      subst e'
      obtain ⟨rfl, g2, g3, g4, g5⟩ := S.lastOwn
      exact ⟨rfl, g2, g3, g5⟩
  · match j, k, q1, q2 with
    | 1, 1, _, _ => rfl
  · match j, h with
    | 0, h => cases h; exact ⟨rfl, h2, h3⟩
    | 1, h =>
      have e' : c = .box t := Option.some.inj (Option.some.inj h)
      subst e'
      obtain ⟨rfl, g2, g3, g4⟩ := S.lastBox
      exact ⟨rfl, g2, g3⟩
  · match j, k, q1, q2 with
    | 0, 0, _, _ => rfl
    | 1, 1, _, _ => rfl
    | 0, 1, q1, q2 =>
      cases q1
      have e' : c = .box u := Option.some.inj (Option.some.inj q2)
      subst e'
      exact absurd (S.bx.bb i ρ.length s u p ei el m1 m2) (by omega)
    | 1, 0, q1, q2 =>
      cases q2
      have e' : c = .box t := Option.some.inj (Option.some.inj q1)
      subst e'
      exact absurd (S.bx.bb ρ.length i t s p el ei m1 m2) (by omega)
  · match j, q with
    | 1, q =>
      have e' : c = .own b ys := Option.some.inj (Option.some.inj q)
      subst e'
      match k, e2 with
      | 0, e2 => cases e2; exact S.bx.bo ρ.length b ys el ⟨i, s, ei, m⟩
      | 1, e2 => cases e2
theorem Sim.cons_box (S : Sim K G F H σ ρ) (hf : ∀ p ∈ s.foot, F p = none ∧ G p = none) (ha : s.At K F H) (hn : ∀ p ∈ s.foot, NotOwn ρ p) : Sim K G F H (some (.ref s.root) :: σ) (some (.box s) :: ρ) := by
  refine ⟨S.hF, S.hG, by simp [S.len], fun j d h => ?_, fun j b ys h => ?_, fun j k b ys zs h1 h2 => ?_, fun j t h => ?_, fun j k t u p h1 h2 m1 m2 => ?_, fun j b ys h ⟨k, t, e, m⟩ => ?_⟩
  · cases j with
    | zero => cases h
    | succ j => exact S.val j d h
  · cases j with
    | zero => cases h
    | succ j => exact S.own j b ys h
  · cases j with
    | zero => cases h1
    | succ j =>
      cases k with
      | zero => cases h2
      | succ k => rw [S.ne j k b ys zs h1 h2]
  · cases j with
    | zero => cases h; exact ⟨rfl, hf, ha⟩
    | succ j => exact S.bx.box j t h
  · cases j with
    | zero =>
      cases k with
      | zero => rfl
      | succ k => cases h1; exact absurd ⟨k, u, h2, m2⟩ (hn p m1).2
    | succ j =>
      cases k with
      | zero => cases h2; exact absurd ⟨j, t, h1, m1⟩ (hn p m2).2
      | succ k => rw [S.bx.bb j k t u p h1 h2 m1 m2]
  · cases j with
    | zero => cases h
    | succ j =>
      cases k with
      | zero => cases e; exact (hn b m).1 j ys h
      | succ k => exact S.bx.bo j b ys h ⟨k, t, e, m⟩
theorem Sim.afterM (S : Sim K G F H σ ρ) (e : ρ[i]? = some (some (.box s))) (hr : s'.root = s.root) (u : Up (hideF H s.foot) F F') (S' : SimR K (hideF H s.foot) F' H' [some (.ref s.root), some v] [some (.box s'), some c]) : Sim K G F' H' (σ ++ [some v]) (ρ.set i (some (.box s')) ++ [some c]) := by
  obtain ⟨h1, h2, h3⟩ := S.bx.box i s e
  have hi := at_lt e
  obtain ⟨_, g2, g3⟩ := S'.bx.box 0 s' rfl
  have far : ∀ {j : Nat} {x : Cell}, (ρ.set i (some (.box s')))[j]? = some (some x) → (ρ[j]? = some (some x) ∧ i ≠ j) ∨ (j = i ∧ x = .box s') := fun {j x} h => by
    by_cases hj : i = j
    · subst hj
      rw [List.getElem?_set_self hi] at h
      cases h
      exact .inr ⟨rfl, rfl⟩
    · rw [List.getElem?_set_ne hj] at h; exact .inl ⟨h, hj⟩
  have keep : ∀ {p : Addr} {o : HO}, p ∉ s.foot → H p = some o → H' p = some o := fun {p o} n q => S'.hG p o (by rw [hideF_ne n]; exact q)
  have newG : ∀ {p : Addr}, hideF H s.foot p = none → G p = none := fun {p} q => by
    by_cases m : p ∈ s.foot
    · exact (h2 p m).2
    · rw [hideF_ne m] at q; exact S.hG.free q
  have still : ∀ {p : Addr} {o : HO}, p ∉ s.foot → F p = none → H p = some o → F' p = none := fun {p o} n f q => u.isNone f (show hideF H s.foot p = some o by rw [hideF_ne n]; exact q)
  have ownOut : ∀ {j : Nat} {b : Addr} {ys : List D}, ρ[j]? = some (some (.own b ys)) → b ∉ s.foot := fun {j b ys} q m => S.bx.bo j b ys q ⟨i, s, e, m⟩
  have freshOut : ∀ {p : Addr}, p ∈ s'.foot → ∀ {j : Nat} {t : Sh}, ρ[j]? = some (some (.box t)) → i ≠ j → p ∉ t.foot := fun {p} m {j t} q hj mt => by
    have z := (g2 p m).2
    by_cases ms : p ∈ s.foot
    · exact hj (S.bx.bb i j s t p e q ms mt)
    · rw [hideF_ne ms] at z
      obtain ⟨o, ho⟩ := (S.bx.box j t q).2.2.live mt
      rw [z] at ho; cases ho
  have base : Sim K G F' H' σ (ρ.set i (some (.box s'))) := by
    refine ⟨S'.hF, ⟨fun b o q => ?_, TJ.step S.hG.tj (fun b o q ne => ?_) fun b o q => ?_⟩, by simpa using S.len, fun j d h => ?_, fun j b ys h => ?_, fun j k b ys zs q1 q2 => ?_, fun j t h => ?_, fun j k t w p q1 q2 m1 m2 => ?_, fun j b ys q ⟨k, t, q2, m⟩ => ?_⟩
    · exact keep (fun m => by rw [(h2 b m).2] at q; cases q) (S.hG b o q)
    · refine keep (fun m => ?_) q
      obtain ⟨o', ho, mo⟩ := h3.mut m
      rw [q] at ho; cases ho
      exact ne mo
    · rcases u.out b o q with z | z
      · exact .inl z
      · by_cases m : b ∈ s.foot
        · obtain ⟨o', ho, mo⟩ := h3.mut m
          exact .inr (.inr ⟨o', ho, mo⟩)
        · rw [hideF_ne m] at z; exact .inr (.inl z)
    · rcases far h with ⟨h, _⟩ | ⟨_, z⟩
      · obtain ⟨w, k1, k2⟩ := S.val j d h
        exact ⟨w, k1, k2.mono u.ex⟩
      · cases z
    · rcases far h with ⟨h, _⟩ | ⟨_, z⟩
      · obtain ⟨k1, k2, k3, us, k4, k5⟩ := S.own j b ys h
        exact ⟨k1, still (ownOut h) k2 k4, k3, us, keep (ownOut h) k4, k5.mono u.ex⟩
      · cases z
    · rcases far q1 with ⟨q1, _⟩ | ⟨_, z⟩
      · rcases far q2 with ⟨q2, _⟩ | ⟨_, z⟩
        · exact S.ne j k b ys zs q1 q2
        · cases z
      · cases z
    · rcases far h with ⟨h, hj⟩ | ⟨rfl, z⟩
      · obtain ⟨k1, k2, k3⟩ := S.bx.box j t h
        have out : ∀ p ∈ t.foot, p ∉ s.foot := fun p m m2 => hj (S.bx.bb i j s t p e h m2 m)
        refine ⟨k1, fun p m => ?_, k3.mono u.ex fun p m => ?_⟩
        · obtain ⟨o, ho⟩ := k3.live m
          exact ⟨still (out p m) (k2 p m).1 ho, (k2 p m).2⟩
        · obtain ⟨o, ho⟩ := k3.live m
          rw [keep (out p m) ho, ho]
      · cases z
        exact ⟨by rw [hr]; exact h1, fun p m => ⟨(g2 p m).1, newG (g2 p m).2⟩, g3⟩
    · rcases far q1 with ⟨q1, n1⟩ | ⟨e1, z⟩
      · rcases far q2 with ⟨q2, _⟩ | ⟨e2, z⟩
        · exact S.bx.bb j k t w p q1 q2 m1 m2
        · cases z
          exact absurd m1 (freshOut m2 q1 n1)
      · cases z
        rcases far q2 with ⟨q2, n2⟩ | ⟨e2, _⟩
        · exact absurd m2 (freshOut m1 q2 n2)
        · omega
    · rcases far q with ⟨q, _⟩ | ⟨_, z⟩
      · rcases far q2 with ⟨q2, _⟩ | ⟨_, z⟩
        · exact S.bx.bo j b ys q ⟨k, t, q2, m⟩
        · cases z
          have w := (g2 b m).2
          rw [hideF_ne (ownOut q)] at w
          obtain ⟨_, _, _, us, k4, _⟩ := S.own j b ys q
          rw [w] at k4; cases k4
      · cases z
  have hn : ∀ {p : Addr}, hideF H s.foot p = none → p ∉ s'.foot → NotOwn (ρ.set i (some (.box s'))) p := fun {p} q ns => ⟨fun j zs h => (by
    rcases far h with ⟨h, _⟩ | ⟨_, z⟩
    · rw [hideF_ne (ownOut h)] at q
      obtain ⟨_, _, _, us, k4, _⟩ := S.own j p zs h
      rw [q] at k4; cases k4
    · cases z), fun ⟨k, t, h, m⟩ => by
    rcases far h with ⟨h, hj⟩ | ⟨_, z⟩
    · by_cases ms : p ∈ s.foot
      · exact hj (S.bx.bb i k s t p e h ms m)
      · rw [hideF_ne ms] at q
        obtain ⟨o, ho⟩ := (S.bx.box k t h).2.2.live m
        rw [q] at ho; cases ho
    · cases z; exact ns m⟩
  cases c with
  | val d =>
    obtain ⟨w, k1, k2⟩ := S'.val 1 d rfl
    cases k1
    exact base.pushVal k2
  | own b ys =>
    obtain ⟨k1, k2, k3, us, k4, k5⟩ := S'.own 1 b ys rfl
    cases k1
    exact base.pushOwn k4 k2 (newG k3) (hn k3 fun m => S'.bx.bo 1 b ys rfl ⟨0, s', rfl, m⟩) k5
  | box t =>
    obtain ⟨k1, k2, k3⟩ := S'.bx.box 1 t rfl
    cases k1
    exact base.pushBox (fun p m => ⟨(k2 p m).1, newG (k2 p m).2⟩) k3 fun p m => hn (k2 p m).2 fun m2 => absurd (S'.bx.bb 0 1 s' t p rfl rfl m2 m) (by decide)
end
end Pl
namespace Pl
open PySem PySem.Spec PyProof.Rows L2
def startM (N : List Str) (s : Sh) (ds : List D) : Ro := some (.box s) :: (ds.map (fun d => some (.val d)) ++ List.replicate (N.length - (ds.length + 1)) none)
abbrev EM (a C dx : Addr) (Cn : Cell → Fds → Prop) : PEnds := { nx := fun ρ => ∃ fs, ρ[0]? = some (some (.box (.ins a C dx fs))) ∧ Cn (.val .non) fs, rt := fun c ρ => ∃ fs, ρ[0]? = some (some (.box (.ins a C dx fs))) ∧ Cn c fs }
section
variable {P : Program} {w : World} {K : PySem.W.Frag} {mg : Str → Option Value} {base : Heap} {x qual : Str} {st : Stmt} {f C : Addr} {fd : FuncData} {N ps : List Str} {k : Nat}
theorem okM {g : FM} {T : TSp} (Fn : Fun K x qual st f fd) (S : FnScope N ps (defScope st))
    (hb : ∀ (cdv : Value) (A : Around) (outer : List Env) (s : Shared) (H : Hp) (E : XK), Room k (A.deeper (envOfC qual (defScope st) s.heap.objs.size f cdv)) → ∃ t, PPSs (cxOf CX0 P w K mg base N qual (defScope st) f cdv A outer s H E).nox (defBody st) t T)
    (hT : ∀ a dx fs ds Cn, ds.length + 1 = ps.length → g fs ds Cn → T (EM a C dx Cn) (startM N (.ins a C dx fs) ds)) : FnOk P w K mg base CX0 (k + 1) f fd ps (spM K ps.length C g) := by
  refine Fn.ok S (fun vs H Q E h => ?_) (fun cdv A outer s H vs Q E hr h => ?_)
  · obtain ⟨F, a, dx, fs, ws, ds, Cn, _, hl, _⟩ := h
    exact hl
  · obtain ⟨F, a, dx, fs, ws, ds, Cn, rfl, hl, hF, hf, ha, r2, hg, hQ⟩ := h
    obtain ⟨t, ht⟩ := hb cdv A outer s H E hr
    refine ⟨t, ht.ps, ?_⟩
    have S0 : Sim K (hideF H (Sh.ins a C dx fs).foot) F H (L2.start N (.ref a :: ws)) (startM N (.ins a C dx fs) ds) := by
      unfold L2.start startM
      rw [List.length_cons, r2.length]
      exact (sim_vals hF (.of (hideF_same H _)) r2 _).cons_box (s := .ins a C dx fs) (fun p m => ⟨hf p m, hideF_at m⟩) ha fun p m => notOwn_vals
    refine ht.snd (hideF H (Sh.ins a C dx fs).foot) F H _ _ _ _ S0 (hT a dx fs ds Cn (by rw [← r2.length]; exact hl) hg) ⟨fun F' H' σ' ρ' u S' q => ?_, fun F' H' σ' ρ' v c u S' q => ?_, fun _ _ _ _ _ _ q => q, fun _ _ _ _ _ _ q => q⟩
    · obtain ⟨ys, e, q⟩ := q
      exact hQ .non (.val .non) ys F' H' u ((S'.pushVal .non).only2M e) q
    · obtain ⟨ys, e, q⟩ := q
      exact hQ v c ys F' H' u (S'.only2M e) q
end
section
variable {K : PySem.W.Frag} {F H : Hp}
theorem FsR.look : ∀ {vs : List (Str × V)} {fs : Fds} (m : Str), FsR K F H vs fs → (vs.lookup m = none ∧ fs.lookup m = none) ∨ ∃ v d, vs.lookup m = some v ∧ fs.lookup m = some d ∧ d.At K F H v
  | [], [], m, _ => .inl ⟨rfl, rfl⟩
  | (x, v) :: vs, (y, d) :: fs, m, h => by
    obtain ⟨rfl, h2, h3⟩ := h
    rw [List.lookup_cons, List.lookup_cons]
    by_cases e : (m == x) = true
    · rw [e]; exact .inr ⟨v, d, rfl, rfl, h2⟩
    · have e : (m == x) = false := by simpa using e
      rw [e]; exact FsR.look m h3
  | [], _ :: _, _, h => h.elim
  | _ :: _, [], _, h => h.elim
theorem FsR.lookNone {vs : List (Str × V)} {fs : Fds} {m : Str} (h : FsR K F H vs fs) (e : fs.lookup m = none) : vs.lookup m = none := by
  rcases h.look m with ⟨h1, _⟩ | ⟨v, d, _, h2, _⟩
  · exact h1
  · rw [e] at h2; cases h2
theorem FsR.lookSome {vs : List (Str × V)} {fs : Fds} {m : Str} {d : Fd} (h : FsR K F H vs fs) (e : fs.lookup m = some d) : ∃ v, vs.lookup m = some v ∧ d.At K F H v := by
  rcases h.look m with ⟨_, h1⟩ | ⟨v, d', h1, h2, h3⟩
  · rw [e] at h1; cases h1
  · rw [e] at h2; cases h2; exact ⟨v, h1, h3⟩
end
section
variable [TJ] {X : Cx} {k : Nat} {f C : Addr} {fd : FuncData} {ps : List Str} {m y : Str} {py apos pos : Pos} {e : Expr} {es : List Expr} {t : TA} {T : TAp} {n : Nat}
def pCallM (i : Nat) (C : Addr) (m : Str) (n : Nat) (g : FM) (T : TAp) : TCp := fun ρ Q => ∃ a dx fs, ρ[i]? = some (some (.box (.ins a C dx fs))) ∧ fs.lookup m = none ∧ T ρ fun ds ρ1 => ∃ dx1 fs1, ρ1[i]? = some (some (.box (.ins a C dx1 fs1))) ∧ ds.length + 1 = n ∧ g fs1 ds fun c fs2 => Q c (ρ1.set i (some (.box (.ins a C dx1 fs2))))
theorem snd_callM {g : FM} (i : Nat) (ha : SndA X.K t T) : SndC X.K (tMeth C m (spM X.K n C g) [] (fun _ _ _ => False) (tVar i) t) (pCallM i C m n g T) := fun G F H σ ρ Q R S hT k => by
  obtain ⟨a, dx, fs, e0, el, hT⟩ := hT
  obtain ⟨b1, b2, b3⟩ := S.bx.box i _ e0
  obtain ⟨_, vs, b4, b5, b6⟩ := b3
  refine ⟨.ref a, b1, a, dx, vs, rfl, b4, b6.lookNone el, ha G F H σ ρ _ _ S hT fun ws ds F1 H1 ρ1 u1 S1 r1 q1 => ?_⟩
  obtain ⟨dx1, fs1, e1, hn, hg⟩ := q1
  obtain ⟨c1, c2, c3⟩ := S1.bx.box i _ e1
  show spM X.K n C g (.ref a :: (ws ++ [])) H1 R _
  rw [List.append_nil]
  refine ⟨F1, a, dx1, fs1, ws, ds, _, rfl, by rw [List.length_cons, r1.length]; exact hn, S1.hF, fun p hp => (c2 p hp).1, c3, r1, hg, fun v c fs' F' H' u S' q => ?_⟩
  have hGh : Same G (hideF H1 (Sh.ins a C dx1 fs1).foot) := fun b o qq => by
    by_cases nb : b ∈ (Sh.ins a C dx1 fs1).foot
    · rw [(c2 b nb).2] at qq; cases qq
    · rw [hideF_ne nb]; exact S1.hG b o qq
  exact k v c F' H' _ (u1.trans (u.less hGh)) (S1.afterM (s := .ins a C dx1 fs1) (s' := .ins a C dx1 fs') e1 rfl u S') q
theorem ppc_callM (i : Nat) {g : FM} {pl : Sem Bool} (c : Cls X.K C) (hm : Meth X.K C m f) (Fn : FnOk X.prog X.w X.K X.mg X.base CX0 k f fd ps (spM X.K n C g)) (hr : Room k X.A) (hb : Binds X.K fd ps []) (ha : PPA X (e :: es) t T)
    (hN : X.N[i]? = some y := by rfl) (hv : Vis X.env.scope y := by first | exact Or.inl rfl | exact Or.inr (Or.inl rfl) | exact Or.inr (Or.inr rfl)) (hd : (y == ("__debug__" : Str)) = false := by decide) (hcd : (y == ("__classdict__" : Str)) = false := by decide)
    (hst : starEach (e :: es) X.env = (false, eval e X.env) :: starEach es X.env := by rfl) (hpl : (backTo pos (starEach es X.env)).any (·.1) = false := by rfl)
    (ht : eval (.Call (.Attribute (.Name y py) m apos) (e :: es) [] pos) X.env = (do
      let ov ← eval (.Name y py) X.env
      standAt apos.atName
      let (f, first) ← holding [ov] (getMethod ov m pl)
      callWith pos f first (backTo pos (starEach (e :: es) X.env)) (backToKw pos (keywordEach [] X.env))) := by rfl) :
    PPC X (.Call (.Attribute (.Name y py) m apos) (e :: es) [] pos) (tMeth C m (spM X.K n C g) [] (fun _ _ _ => False) (tVar i) t) (pCallM i C m n g T) :=
  ⟨pe_meth (pl := pl) (pe_var hN hv hd hcd) c hm Fn hr hb .nil pass0 ha.pa hst hpl ht, snd_callM i ha.snd⟩
theorem ppc_callM0 (i : Nat) {g : FM} {pl : Sem Bool} (c : Cls X.K C) (hm : Meth X.K C m f) (Fn : FnOk X.prog X.w X.K X.mg X.base CX0 k f fd ps (spM X.K n C g)) (hr : Room k X.A) (hb : Binds X.K fd ps [])
    (hN : X.N[i]? = some y := by rfl) (hv : Vis X.env.scope y := by first | exact Or.inl rfl | exact Or.inr (Or.inl rfl) | exact Or.inr (Or.inr rfl)) (hd : (y == ("__debug__" : Str)) = false := by decide) (hcd : (y == ("__classdict__" : Str)) = false := by decide)
    (ht : eval (.Call (.Attribute (.Name y py) m apos) [] [] pos) X.env = (do
      let ov ← eval (.Name y py) X.env
      standAt apos.atName
      let (f, first) ← holding [ov] (getMethod ov m pl)
      callWith pos f first (backTo pos (starEach [] X.env)) (backToKw pos (keywordEach [] X.env))) := by rfl) :
    PPC X (.Call (.Attribute (.Name y py) m apos) [] [] pos) (tMeth C m (spM X.K n C g) [] (fun _ _ _ => False) (tVar i) tNil) (pCallM i C m n g pNil) :=
  ⟨pe_meth0 (pl := pl) (pe_var hN hv hd hcd) c hm Fn hr hb .nil pass0 ht, snd_callM i ppa_nil.snd⟩
end
end Pl
namespace Pl
open PySem PySem.Spec PyProof.Rows L2
def putFd (f : Str) (d : Fd) : Fds → Fds
  | [] => [(f, d)]
  | (g, x) :: r => if g = f then (g, d) :: r else (g, x) :: putFd f d r
section
variable {K : PySem.W.Frag} {F H H' : Hp}
theorem look_mem {f : Str} {p : Addr} {xs : List D} : ∀ {fs : Fds}, fs.lookup f = some (.own p xs) → p ∈ fsFoot fs
  | (g, x) :: r, h => by
    rw [List.lookup_cons] at h
    unfold fsFoot
    rw [List.flatMap_cons]
    cases e : (f == g) with
    | true => rw [e] at h; cases h; exact List.mem_append_left _ List.mem_cons_self
    | false => rw [e] at h; exact List.mem_append_right _ (look_mem h)
theorem FsR.ownPut {f : Str} {p : Addr} {xs xs' : List D} {us : List V} (ho : ∀ b, b ≠ p → H' b = H b) (hp : H' p = some (.lst us)) (hr : Reps K F us xs') : ∀ {vs : List (Str × V)} {fs : Fds}, FsR K F H vs fs → (fsFoot fs).Nodup → fs.lookup f = some (.own p xs) → FsR K F H' vs (putFd f (.own p xs') fs) ∧ fsFoot (putFd f (.own p xs') fs) = fsFoot fs
  | [], [], _, _, l => by cases l
  | (x, v) :: vs, (g, d) :: fs, h, nd, l => by
    obtain ⟨rfl, h2, h3⟩ := h
    have h2 : d.At K F H v := h2
    have nd : (d.foot ++ fsFoot fs).Nodup := nd
    obtain ⟨n1, n2, n3⟩ := List.nodup_append.mp nd
    rw [List.lookup_cons] at l
    unfold putFd
    by_cases e : x = f
    · subst e
      rw [beq_self_eq_true] at l
      cases l
      rw [if_pos rfl]
      refine ⟨⟨rfl, ⟨h2.1, us, hp, hr⟩, h3.mono (.refl _) fun q m => ho q fun z => n3 p (List.mem_singleton.mpr rfl) q m z.symm⟩, rfl⟩
    · rw [if_neg e]
      have e2 : (f == x) = false := beq_eq_false_iff_ne.mpr fun z => e z.symm
      rw [e2] at l
      obtain ⟨k1, k2⟩ := FsR.ownPut ho hp hr h3 n2 l
      have mp := look_mem l
      refine ⟨⟨rfl, ?_, k1⟩, ?_⟩
      · cases d with
        | val y => exact h2
        | own b ys =>
          obtain ⟨z1, ws, z2, z3⟩ := h2
          exact ⟨z1, ws, by rw [ho b fun z => n3 b (List.mem_singleton.mpr rfl) p mp z]; exact z2, z3⟩
      · show d.foot ++ fsFoot (putFd f (.own p xs') fs) = d.foot ++ fsFoot fs
        rw [k2]
  | [], _ :: _, h, _, _ => h.elim
  | _ :: _, [], h, _, _ => h.elim
theorem FsR.put {f : Str} {v : V} {d : Fd} (hd : d.At K F H v) : ∀ {vs : List (Str × V)} {fs : Fds}, FsR K F H vs fs → FsR K F H (putF f v vs) (putFd f d fs)
  | [], [], _ => ⟨rfl, hd, trivial⟩
  | (x, w) :: vs, (g, y) :: fs, h => by
    obtain ⟨rfl, h2, h3⟩ := h
    unfold putF putFd
    by_cases e : x = f
    · rw [if_pos e, if_pos e]; exact ⟨rfl, hd, h3⟩
    · rw [if_neg e, if_neg e]; exact ⟨rfl, h2, FsR.put hd h3⟩
  | [], _ :: _, h => h.elim
  | _ :: _, [], h => h.elim
theorem FsR.len : ∀ {vs : List (Str × V)} {fs : Fds}, FsR K F H vs fs → vs.length = fs.length
  | [], [], _ => rfl
  | _ :: _, _ :: _, h => congrArg (· + 1) (FsR.len h.2.2)
  | [], _ :: _, h => h.elim
  | _ :: _, [], h => h.elim
theorem foot_put {f : Str} {d : Fd} : ∀ {fs : Fds} {q : Addr}, q ∈ fsFoot (putFd f d fs) → q ∈ fsFoot fs ∨ q ∈ d.foot
  | [], q, h => by
    have h : q ∈ d.foot ++ [] := h
    rw [List.append_nil] at h; exact .inr h
  | (g, x) :: r, q, h => by
    unfold putFd at h
    by_cases e : g = f
    · rw [if_pos e] at h
      rcases List.mem_append.mp (show q ∈ d.foot ++ fsFoot r from h) with h | h
      · exact .inr h
      · exact .inl (List.mem_append_right _ h)
    · rw [if_neg e] at h
      rcases List.mem_append.mp (show q ∈ x.foot ++ fsFoot (putFd f d r) from h) with h | h
      · exact .inl (List.mem_append_left _ h)
      · exact (foot_put h).imp (List.mem_append_right _) id
theorem nodup_put {f : Str} {d : Fd} (h1 : d.foot.Nodup) : ∀ {fs : Fds}, (fsFoot fs).Nodup → (∀ q ∈ d.foot, q ∉ fsFoot fs) → (fsFoot (putFd f d fs)).Nodup
  | [], _, _ => by
    show (d.foot ++ []).Nodup
    rw [List.append_nil]; exact h1
  | (g, x) :: r, nd, hn => by
    have nd : (x.foot ++ fsFoot r).Nodup := nd
    obtain ⟨n1, n2, n3⟩ := List.nodup_append.mp nd
    unfold putFd
    by_cases e : g = f
    · rw [if_pos e]
      show (d.foot ++ fsFoot r).Nodup
      exact List.nodup_append.mpr ⟨h1, n2, fun a ma b mb z => hn a ma (List.mem_append_right _ (by rw [z]; exact mb))⟩
    · rw [if_neg e]
      show (x.foot ++ fsFoot (putFd f d r)).Nodup
      refine List.nodup_append.mpr ⟨n1, nodup_put h1 n2 fun q m z => hn q m (List.mem_append_right _ z), fun a ma b mb z => ?_⟩
      rcases foot_put mb with h | h
      · exact n3 a ma b h z
      · exact hn b h (List.mem_append_left _ (by rw [← z]; exact ma))
end
section
variable [TJ] {K : PySem.W.Frag} {G F H H' : Hp} {σ : L2.St} {ρ : Ro} {i : Nat}
theorem Sim.mutFld (S : Sim K G F H σ ρ) {a C dx p : Addr} {fs : Fds} {f : Str} {xs xs' : List D} {us : List V} (e : ρ[i]? = some (some (.box (.ins a C dx fs)))) (l : fs.lookup f = some (.own p xs)) (r : Reps K F us xs') :
    Sim K G F (upd H p (.lst us)) σ (ρ.set i (some (.box (.ins a C dx (putFd f (.own p xs') fs))))) := by
  obtain ⟨b1, b2, b3⟩ := S.bx.box i _ e
  obtain ⟨nd, vs, h1, h2, h3⟩ := b3
  have hm := look_mem l
  have mf : p ∈ (Sh.ins a C dx fs).foot := List.mem_cons_of_mem _ (List.mem_cons_of_mem _ hm)
  obtain ⟨v, lv, z1, ws, z2, z3⟩ := h3.lookSome l
  obtain ⟨k1, k2⟩ := FsR.ownPut (H' := upd H p (.lst us)) (xs' := xs') (fun b nb => upd_ne nb) upd_same r h3 nd l
  have na : a ≠ p := fun z => by subst z; rw [h1] at z2; cases z2
  have nx : dx ≠ p := fun z => by subst z; rw [h2] at z2; cases z2
  refine S.mutBox (s' := .ins a C dx (putFd f (.own p xs') fs)) e rfl (fun q m => ?_) (fun q m => upd_ne fun z => m (by subst z; exact mf)) (S.hG.mut (b2 p mf).2 z2) ⟨by rw [k2]; exact nd, vs, by rw [upd_ne na]; exact h1, by rw [upd_ne nx]; exact h2, k1⟩
  have m : q ∈ a :: dx :: fsFoot (putFd f (.own p xs') fs) := m
  rw [k2] at m
  exact m
theorem Sim.setFld (S : Sim K G F H σ ρ) {a C dx : Addr} {fs : Fds} {f : Str} {v : V} {d : D} (e : ρ[i]? = some (some (.box (.ins a C dx fs)))) (r : Rep K F v d) :
    ∃ vs, H a = some (.ins C dx vs) ∧ vs.length = fs.length ∧ Sim K G F (upd H a (.ins C dx (putF f v vs))) σ (ρ.set i (some (.box (.ins a C dx (putFd f (.val d) fs))))) := by
  obtain ⟨b1, b2, b3⟩ := S.bx.box i _ e
  obtain ⟨nd, vs, h1, h2, h3⟩ := b3
  have ma : a ∈ (Sh.ins a C dx fs).foot := List.mem_cons_self
  have nx : dx ≠ a := fun z => by subst z; rw [h1] at h2; cases h2
  have own_ne : ∀ q ∈ fsFoot fs, q ≠ a := fun q m z => by
    subst z
    obtain ⟨o, ho⟩ := FsR.live h3 q m
    have key : ∀ {vs : List (Str × V)} {fs : Fds}, FsR K F H vs fs → ∀ q ∈ fsFoot fs, ∃ us, H q = some (.lst us) := by
      intro vs fs
      induction fs generalizing vs with
      | nil => intro _ q m; cases m
      | cons y r ih =>
        intro h q m
        match vs, y, h with
        | (x, v) :: vs, (g, .val d), h => exact ih h.2.2 q m
        | (x, v) :: vs, (g, .own b ys), h =>
          rcases List.mem_cons.mp (show q ∈ b :: fsFoot r from m) with rfl | m
          · obtain ⟨_, ws, z2, _⟩ := h.2.1
            exact ⟨ws, z2⟩
          · exact ih h.2.2 q m
        | [], _, h => exact h.elim
    obtain ⟨us, hu⟩ := key h3 q m
    rw [h1] at hu; cases hu
  refine ⟨vs, h1, h3.len, S.mutBox (s' := .ins a C dx (putFd f (.val d) fs)) e rfl (fun q m => ?_) (fun q m => upd_ne fun z => m (by subst z; exact ma)) (S.hG.mut (b2 a ma).2 h1) ⟨nodup_put (d := .val d) List.nodup_nil nd (fun q m => by cases m), _, upd_same, by rw [upd_ne nx]; exact h2, FsR.put (d := .val d) r (h3.mono (.refl _) fun q m => upd_ne (own_ne q m))⟩⟩
  have m : q ∈ a :: dx :: fsFoot (putFd f (.val d) fs) := m
  rcases List.mem_cons.mp m with rfl | m
  · exact List.mem_cons_self
  rcases List.mem_cons.mp m with rfl | m
  · exact List.mem_cons_of_mem _ List.mem_cons_self
  rcases foot_put m with m | m
  · exact List.mem_cons_of_mem _ (List.mem_cons_of_mem _ m)
  · cases m
end
end Pl
namespace Pl
open PySem PySem.Spec PyProof.Rows L2
section
variable [TJ] {X : Cx} {C : Addr} {f y : Str} {py fp ap cp pos pos' : Pos} {e : Expr} {te : TE} {Te : TEp}
def pFldV (i : Nat) (C : Addr) (f : Str) : TEp := fun ρ Q => ∃ a dx fs d, ρ[i]? = some (some (.box (.ins a C dx fs))) ∧ fs.lookup f = some (.val d) ∧ Q d ρ
theorem ppe_fldV (i : Nat) (c : Cls X.K C) (na : NoAttr X.K C f) (hN : X.N[i]? = some y := by rfl) (hv : Vis X.env.scope y := by first | exact Or.inl rfl | exact Or.inr (Or.inl rfl) | exact Or.inr (Or.inr rfl)) (hd : (y == ("__debug__" : Str)) = false := by decide) (hcd : (y == ("__classdict__" : Str)) = false := by decide)
    (hb : attributeBase (.Name y py) f X.env (eval (.Name y py) X.env) = eval (.Name y py) X.env := by rfl) : PPE X (.Attribute (.Name y py) f pos) (tFld X.K (tVar i) f) (pFldV i C f) :=
  ⟨pe_fld (pe_var hN hv hd hcd) hb, fun G F H σ ρ Q R S hT k => by
    obtain ⟨a, dx, fs, d, e0, l, q⟩ := hT
    obtain ⟨b1, b2, _, vs, h1, h2, h3⟩ := S.bx.box i _ e0
    obtain ⟨v, lv, r⟩ := h3.lookSome l
    exact ⟨.ref a, b1, a, C, dx, vs, v, rfl, h1, c, na, lv, k v d F H ρ (.refl _ _) S r q⟩⟩
def pFldApp (i : Nat) (C : Addr) (f : Str) (Te : TEp) : TSp := fun P ρ => ∃ a dx fs p xs, ρ[i]? = some (some (.box (.ins a C dx fs))) ∧ fs.lookup f = some (.own p xs) ∧ Te ρ fun z ρ1 => ∃ dx1 fs1 xs1, ρ1[i]? = some (some (.box (.ins a C dx1 fs1))) ∧ fs1.lookup f = some (.own p xs1) ∧ xs1.length < sizeLine ∧ P.nx (ρ1.set i (some (.box (.ins a C dx1 (putFd f (.own p (xs1 ++ [z])) fs1)))))
theorem pps_fldApp (i : Nat) (c : Cls X.K C) (na : NoAttr X.K C f) (he : PPE X e te Te) (hN : X.N[i]? = some y := by rfl) (hv : Vis X.env.scope y := by first | exact Or.inl rfl | exact Or.inr (Or.inl rfl) | exact Or.inr (Or.inr rfl)) (hd : (y == ("__debug__" : Str)) = false := by decide) (hcd : (y == ("__classdict__" : Str)) = false := by decide)
    (hb : attributeBase (.Name y py) f X.env (eval (.Name y py) X.env) = eval (.Name y py) X.env := by rfl)
    (hbase : attributeBase (.Attribute (.Name y py) f fp) "append" X.env (eval (.Attribute (.Name y py) f fp) X.env) = eval (.Attribute (.Name y py) f fp) X.env := by rfl)
    (hfew : ((backTo cp (starEach [e] X.env)).all (fun x => !x.1) && (backToKw cp (keywordEach [] X.env)).all (fun x => x.1.isSome)
      && decide ([e].length + ([] : List Keyword).length + (if ([] : List Keyword).isEmpty then 0 else 1) < 30)) = true := by rfl)
    (hline : (ap.endLine == cp.line) = true := by rfl) (hs : starEach [e] X.env = (false, eval e X.env) :: starEach [] X.env := by rfl)
    (hsw : swapsWith (.Call (.Attribute (.Attribute (.Name y py) f fp) "append" ap) [e] [] cp) none pos.line X.env = pure false := by rfl) :
    PPS X (.Expr (.Call (.Attribute (.Attribute (.Name y py) f fp) "append" ap) [e] [] cp) pos) (tDrop (tBM X.K "list" rAppend (tFld X.K (tVar i) f) (tCons te tNil))) (pFldApp i C f Te) :=
  ⟨ps_expr (pe_bm PySem.F.plainAttrs_list PySem.F.slot_list_append PySem.F.type_list_append mt_append (pe_fld (pe_var hN hv hd hcd) hb) (pa_cons he.pe pa_nil hs) hbase hfew hline hs rfl) hsw, fun G F H σ ρ P D S hT r => by
    obtain ⟨a, dx, fs, p, xs, e0, l, hT⟩ := hT
    obtain ⟨b1, b2, _, vs, h1, h2, h3⟩ := S.bx.box i _ e0
    obtain ⟨v, lv, rfl, ws, z2, z3⟩ := h3.lookSome l
    refine ⟨.ref a, b1, a, C, dx, vs, .ref p, rfl, h1, c, na, lv, .inl ⟨rfl, _, SqL.of z2⟩, he.snd G F H σ ρ _ _ S hT fun w dw F1 H1 ρ1 u1 S1 r1 q1 => ?_⟩
    obtain ⟨dx1, fs1, xs1, e1, l1, hz, q⟩ := q1
    obtain ⟨_, _, _, vs1, k1, k2, k3⟩ := S1.bx.box i _ e1
    obtain ⟨_, _, rfl, ws1, g4, g5⟩ := k3.lookSome l1
    exact ⟨p, ws1, w, rfl, rfl, g4, by rw [g5.length]; exact hz, r.nx F1 _ _ _ u1 (S1.mutFld e1 l1 (g5.append (.one r1))) q⟩⟩
def pFldLen (i : Nat) (C : Addr) (f : Str) : TEp := fun ρ Q => ∃ a dx fs p xs, ρ[i]? = some (some (.box (.ins a C dx fs))) ∧ fs.lookup f = some (.own p xs) ∧ Q (.int xs.length) ρ
theorem ppe_fldLen (i : Nat) {lp : Pos} (c : Cls X.K C) (na : NoAttr X.K C f) (hg : Gl X "len") (hm : X.mg "len" = none) (hN : X.N[i]? = some y := by rfl) (hv : Vis X.env.scope y := by first | exact Or.inl rfl | exact Or.inr (Or.inl rfl) | exact Or.inr (Or.inr rfl)) (hd : (y == ("__debug__" : Str)) = false := by decide) (hcd : (y == ("__classdict__" : Str)) = false := by decide)
    (hb : attributeBase (.Name y py) f X.env (eval (.Name y py) X.env) = eval (.Name y py) X.env := by rfl)
    (he : starEach [.Attribute (.Name y py) f fp] X.env = [(false, eval (.Attribute (.Name y py) f fp) X.env)] := by rfl) :
    PPE X (.Call (.Name "len" lp) [.Attribute (.Name y py) f fp] [] pos) (tCB (rLenA X.K) (tCons (tFld X.K (tVar i) f) tNil)) (pFldLen i C f) :=
  ⟨pe_callB cr_lenA hg hm PySem.boot_len (pa_cons (pe_fld (pe_var hN hv hd hcd) hb) pa_nil (by rw [he]; rfl)) (by decide) (by decide) (by rw [he]; rfl) rfl, fun G F H σ ρ Q R S hT k => by
    obtain ⟨a, dx, fs, p, xs, e0, l, q⟩ := hT
    obtain ⟨b1, b2, _, vs, h1, h2, h3⟩ := S.bx.box i _ e0
    obtain ⟨v, lv, rfl, ws, z2, z3⟩ := h3.lookSome l
    exact ⟨.ref a, b1, a, C, dx, vs, .ref p, rfl, h1, c, na, lv, .inl ⟨p, ws, rfl, .inl (SqL.of z2), by rw [z3.length]; exact k _ _ F H ρ (.refl _ _) S (.int _) q⟩⟩⟩
def pFldPop (i : Nat) (C : Addr) (f : Str) : TEp := fun ρ Q => ∃ a dx fs p xs v, ρ[i]? = some (some (.box (.ins a C dx fs))) ∧ fs.lookup f = some (.own p xs) ∧ xs[xs.length - 1]? = some v ∧ Q v (ρ.set i (some (.box (.ins a C dx (putFd f (.own p xs.dropLast) fs)))))
theorem ppe_fldPop (i : Nat) (c : Cls X.K C) (na : NoAttr X.K C f) (hN : X.N[i]? = some y := by rfl) (hv : Vis X.env.scope y := by first | exact Or.inl rfl | exact Or.inr (Or.inl rfl) | exact Or.inr (Or.inr rfl)) (hd : (y == ("__debug__" : Str)) = false := by decide) (hcd : (y == ("__classdict__" : Str)) = false := by decide)
    (hb : attributeBase (.Name y py) f X.env (eval (.Name y py) X.env) = eval (.Name y py) X.env := by rfl)
    (hbase : attributeBase (.Attribute (.Name y py) f fp) "pop" X.env (eval (.Attribute (.Name y py) f fp) X.env) = eval (.Attribute (.Name y py) f fp) X.env := by rfl)
    (hline : (ap.endLine == cp.line) = true := by rfl) :
    PPE X (.Call (.Attribute (.Attribute (.Name y py) f fp) "pop" ap) [] [] cp) (tBM0 X.K "list" rPop (tFld X.K (tVar i) f)) (pFldPop i C f) :=
  ⟨pe_bm0 PySem.F.plainAttrs_list PySem.F.slot_list_pop PySem.F.type_list_pop mt_pop (pe_fld (pe_var hN hv hd hcd) hb) hbase hline, fun G F H σ ρ Q R S hT k => by
    obtain ⟨a, dx, fs, p, xs, v, e0, l, ev, q⟩ := hT
    obtain ⟨b1, b2, _, vs, h1, h2, h3⟩ := S.bx.box i _ e0
    obtain ⟨_, lv, rfl, ws, z2, z3⟩ := h3.lookSome l
    obtain ⟨w, hw, rw'⟩ := z3.get ev
    exact ⟨.ref a, b1, a, C, dx, vs, .ref p, rfl, h1, c, na, lv, .inl ⟨rfl, _, SqL.of z2⟩, p, ws, w, rfl, rfl, z2, by rw [z3.length]; exact hw, k w v F _ _ (.refl _ _) (S.mutFld e0 l z3.dropLast) rw' q⟩⟩
def pFldSet (i : Nat) (C : Addr) (f : Str) (Te : TEp) : TSp := fun P ρ => Te ρ fun d ρ1 => ∃ a dx fs, ρ1[i]? = some (some (.box (.ins a C dx fs))) ∧ fs.length < 1000 ∧ P.nx (ρ1.set i (some (.box (.ins a C dx (putFd f (.val d) fs)))))
theorem pps_fldSet (i : Nat) (c : Cls X.K C) (na : NoAttr X.K C f) (he : PPE X e te Te) (hN : X.N[i]? = some y := by rfl) (hv : Vis X.env.scope y := by first | exact Or.inl rfl | exact Or.inr (Or.inl rfl) | exact Or.inr (Or.inr rfl)) (hd : (y == ("__debug__" : Str)) = false := by decide) (hcd : (y == ("__classdict__" : Str)) = false := by decide)
    (hs : swapsWith e (some (.Attribute (.Name y py) f pos')) pos.line X.env = pure false := by rfl) : PPS X (.Assign [.Attribute (.Name y py) f pos'] e pos) (sFld X.K (tVar i) te f) (pFldSet i C f Te) :=
  ⟨ps_fld (pe_var hN hv hd hcd) he.pe hs, fun G F H σ ρ P D S hT r => he.snd G F H σ ρ _ _ S hT fun v d F1 H1 ρ1 u1 S1 r1 q1 => by
    obtain ⟨a, dx, fs, e0, hl, q⟩ := q1
    obtain ⟨vs, h1, h2, S2⟩ := S1.setFld (f := f) e0 r1
    exact ⟨.ref a, (S1.bx.box i _ e0).1, a, C, dx, vs, rfl, h1, c, na, by omega, r.nx F1 _ _ _ u1 S2 q⟩⟩
end
end Pl
namespace Pl
open PySem PySem.Spec PyProof.Rows L2
section
variable [TJ] {K : PySem.W.Frag} {G F H H' : Hp} {σ : L2.St} {ρ : Ro} {i : Nat}
theorem Sim.mutBoxN (S : Sim K G F H σ ρ) {s s' : Sh} (e : ρ[i]? = some (some (.box s))) (hr : s'.root = s.root) (hf : ∀ p ∈ s'.foot, p ∈ s.foot ∨ (F p = none ∧ G p = none ∧ NotOwn ρ p)) (ho : ∀ p, p ∉ s.foot → H' p = H p) (hG : SameJ G F H') (ha : s'.At K F H') :
    Sim K G F H' σ (ρ.set i (some (.box s'))) := by
  obtain ⟨b1, b2, b3⟩ := S.bx.box i s e
  have hi := at_lt e
  have cut : ∀ {j : Nat} {x : Cell}, (ρ.set i (some (.box s')))[j]? = some (some x) → (ρ[j]? = some (some x) ∧ i ≠ j) ∨ (j = i ∧ x = .box s') := fun {j x} h => by
    by_cases hj : i = j
    · subst hj
      rw [List.getElem?_set_self hi] at h
      cases h
      exact .inr ⟨rfl, rfl⟩
    · rw [List.getElem?_set_ne hj] at h; exact .inl ⟨h, hj⟩
  have out : ∀ {p : Addr}, p ∈ s'.foot → ∀ {j : Nat} {t : Sh}, ρ[j]? = some (some (.box t)) → i ≠ j → p ∉ t.foot := fun {p} m {j t} q hj mt => by
    rcases hf p m with h | ⟨_, _, h⟩
    · exact hj (S.bx.bb i j s t p e q h mt)
    · exact h.2 ⟨j, t, q, mt⟩
  refine ⟨fun b o q => ?_, hG, by simpa using S.len, fun j d' h => ?_, fun j b ys h => ?_, fun j k b ys zs h1 h2 => ?_, fun j t h => ?_, fun j k t u p h1 h2 m1 m2 => ?_, fun j a xs h ⟨k, t, h1, m⟩ => ?_⟩
  · rw [ho b fun m => by rw [(b2 b m).1] at q; cases q]; exact S.hF b o q
  · rcases cut h with ⟨h, q⟩ | ⟨_, z⟩
    · exact S.val j d' h
    · cases z
  · rcases cut h with ⟨h, q⟩ | ⟨_, z⟩
    · obtain ⟨g1, g2, g3, vs, g4, g5⟩ := S.own j b ys h
      exact ⟨g1, g2, g3, vs, by rw [ho b fun m => S.bx.bo j b ys h ⟨i, s, e, m⟩]; exact g4, g5⟩
    · cases z
  · rcases cut h1 with ⟨h1, _⟩ | ⟨_, z⟩
    · rcases cut h2 with ⟨h2, _⟩ | ⟨_, z⟩
      · exact S.ne j k b ys zs h1 h2
      · cases z
    · cases z
  · rcases cut h with ⟨h, q⟩ | ⟨rfl, z⟩
    · obtain ⟨g1, g2, g3⟩ := S.bx.box j t h
      exact ⟨g1, g2, g3.mono (.refl _) fun p m => ho p fun m2 => q (S.bx.bb i j s t p e h m2 m)⟩
    · cases z
      refine ⟨by rw [hr]; exact b1, fun p m => ?_, ha⟩
      rcases hf p m with h | ⟨h1, h2, _⟩
      · exact b2 p h
      · exact ⟨h1, h2⟩
  · rcases cut h1 with ⟨h1, q1⟩ | ⟨e1, z⟩
    · rcases cut h2 with ⟨h2, _⟩ | ⟨e2, z⟩
      · exact S.bx.bb j k t u p h1 h2 m1 m2
      · cases z
        exact absurd m1 (out m2 h1 q1)
    · cases z
      rcases cut h2 with ⟨h2, q2⟩ | ⟨e2, _⟩
      · exact absurd m2 (out m1 h2 q2)
      · omega
  · rcases cut h with ⟨h, _⟩ | ⟨_, z⟩
    · rcases cut h1 with ⟨h1, _⟩ | ⟨_, z⟩
      · exact S.bx.bo j a xs h ⟨k, t, h1, m⟩
      · cases z
        rcases hf a m with h2 | ⟨_, _, h2⟩
        · exact S.bx.bo j a xs h ⟨i, s, e, h2⟩
        · exact h2.1 j xs h
    · cases z
theorem FsR.lists : ∀ {vs : List (Str × V)} {fs : Fds}, FsR K F H vs fs → ∀ q ∈ fsFoot fs, ∃ us, H q = some (.lst us)
  | [], [], _, q, m => by cases m
  | (x, v) :: vs, (g, .val d) :: fs, h, q, m => FsR.lists h.2.2 q m
  | (x, v) :: vs, (g, .own b ys) :: fs, h, q, m => by
    rcases List.mem_cons.mp (show q ∈ b :: fsFoot fs from m) with rfl | m
    · obtain ⟨_, ws, z2, _⟩ := h.2.1
      exact ⟨ws, z2⟩
    · exact FsR.lists h.2.2 q m
  | [], _ :: _, h, _, _ => h.elim
  | _ :: _, [], h, _, _ => h.elim
theorem Sim.takeFld {a C dx p : Addr} {fs : Fds} {f : Str} {v : V} {xs : List D} (S1 : Sim K G F H (σ ++ [some v]) (ρ ++ [some (.own p xs)])) (e : ρ[i]? = some (some (.box (.ins a C dx fs)))) :
    ∃ vs, H a = some (.ins C dx vs) ∧ vs.length = fs.length ∧ Sim K G F (upd H a (.ins C dx (putF f v vs))) σ (ρ.set i (some (.box (.ins a C dx (putFd f (.own p xs) fs))))) := by
  obtain ⟨rfl, fp, gp, np, us, hp, rp⟩ := S1.lastOwn
  have S := S1.drop
  obtain ⟨b1, b2, b3⟩ := S.bx.box i _ e
  obtain ⟨nd, vs, h1, h2, h3⟩ := b3
  have ma : a ∈ (Sh.ins a C dx fs).foot := List.mem_cons_self
  have nx : dx ≠ a := fun z => by subst z; rw [h1] at h2; cases h2
  have pa : p ≠ a := fun z => by subst z; rw [h1] at hp; cases hp
  have own_ne : ∀ q ∈ fsFoot fs, q ≠ a := fun q m z => by
    subst z
    obtain ⟨us, hu⟩ := FsR.lists h3 q m
    rw [h1] at hu; cases hu
  have pf : p ∉ fsFoot fs := fun m => np.2 ⟨i, _, e, List.mem_cons_of_mem _ (List.mem_cons_of_mem _ m)⟩
  refine ⟨vs, h1, h3.len, S.mutBoxN (s' := .ins a C dx (putFd f (.own p xs) fs)) e rfl (fun q m => ?_) (fun q m => upd_ne fun z => m (by subst z; exact ma)) (S.hG.mut (b2 a ma).2 h1) ⟨nodup_put (d := .own p xs) (List.nodup_cons.mpr ⟨List.not_mem_nil, List.nodup_nil⟩) nd (fun q m => by rw [List.mem_singleton.mp m]; exact pf), _, upd_same, by rw [upd_ne nx]; exact h2, FsR.put (d := .own p xs) ⟨rfl, us, by rw [upd_ne pa]; exact hp, rp⟩ (h3.mono (.refl _) fun q m => upd_ne (own_ne q m))⟩⟩
  have m : q ∈ a :: dx :: fsFoot (putFd f (.own p xs) fs) := m
  rcases List.mem_cons.mp m with rfl | m
  · exact .inl List.mem_cons_self
  rcases List.mem_cons.mp m with rfl | m
  · exact .inl (List.mem_cons_of_mem _ List.mem_cons_self)
  rcases foot_put m with m | m
  · exact .inl (List.mem_cons_of_mem _ (List.mem_cons_of_mem _ m))
  · rw [List.mem_singleton.mp m]; exact .inr ⟨fp, gp, np⟩
end
section
variable [TJ] {X : Cx} {C : Addr} {f y : Str} {py fp pos pos' : Pos} {e : Expr} {te : TE} {Tc : TCp}
def pFldSetC (i : Nat) (C : Addr) (f : Str) (Tc : TCp) : TSp := fun P ρ => Tc ρ fun c ρ1 => ∃ a dx fs, ρ1[i]? = some (some (.box (.ins a C dx fs))) ∧ fs.length < 1000 ∧ match c with
  | .own p xs => P.nx (ρ1.set i (some (.box (.ins a C dx (putFd f (.own p xs) fs)))))
  | .val d => P.nx (ρ1.set i (some (.box (.ins a C dx (putFd f (.val d) fs)))))
  | .box _ => False
theorem pps_fldSetC (i : Nat) (c : Cls X.K C) (na : NoAttr X.K C f) (he : PPC X e te Tc) (hN : X.N[i]? = some y := by rfl) (hv : Vis X.env.scope y := by first | exact Or.inl rfl | exact Or.inr (Or.inl rfl) | exact Or.inr (Or.inr rfl)) (hd : (y == ("__debug__" : Str)) = false := by decide) (hcd : (y == ("__classdict__" : Str)) = false := by decide)
    (hs : swapsWith e (some (.Attribute (.Name y py) f pos')) pos.line X.env = pure false := by rfl) : PPS X (.Assign [.Attribute (.Name y py) f pos'] e pos) (sFld X.K (tVar i) te f) (pFldSetC i C f Tc) :=
  ⟨ps_fld (pe_var hN hv hd hcd) he.pe hs, fun G F H σ ρ P D S hT r => he.snd G F H σ ρ _ _ S hT fun v cl F1 H1 ρ1 u1 S1 q1 => by
    obtain ⟨a, dx, fs, e0, hl, q⟩ := q1
    have b1 := (S1.drop.bx.box i _ e0).1
    cases cl with
    | own p xs =>
      obtain ⟨vs, h1, h2, S2⟩ := S1.takeFld (f := f) e0
      exact ⟨.ref a, b1, a, C, dx, vs, rfl, h1, c, na, by omega, r.nx F1 _ _ _ u1 S2 q⟩
    | val d =>
      obtain ⟨vs, h1, h2, S2⟩ := S1.drop.setFld (f := f) e0 S1.lastVal
      exact ⟨.ref a, b1, a, C, dx, vs, rfl, h1, c, na, by omega, r.nx F1 _ _ _ u1 S2 q⟩
    | box t => exact q.elim⟩
end
end Pl
namespace L2
open PySem PySem.Spec PyProof.Rows
structure AskX (K : PySem.W.Frag) (C : Addr) : Prop where
  ga : PySem.W.findIn K (.ref C) "__getattribute__" = some (some (.builtin "BaseException.__getattribute__"))
  gg : PySem.W.findIn K (.ref C) "__getattr__" = some none
  ca : PySem.W.findIn K (.ref C) "__class__" = some (some (.builtin "object.__class__"))
  hn : PySem.W.specialIn K (.builtin "object.__class__") "__get__" = some (some (.builtin "getset_descriptor.__get__"))
  ht : PySem.W.takesIn K (.builtin "object.__class__") = some true
section
variable {K : PySem.W.Frag} {C : Addr} {nw : String} {tl : List Value}
theorem OwnX.cd (T : OwnX K C nw tl) : ∃ cd, PySem.W.clsIn K C = some cd ∧ cd.mro = .ref C :: tl ∧ cd.hasDict = true := by
  obtain ⟨nm, q, N, bs, sn, sub, ab, col, dd, k0, k1, k2, k3, k5, hC⟩ := T.cls
  exact ⟨{ name := nm, bases := bs, mro := .ref C :: tl, ns := N, qualname := q, hasDict := true, slotNames := sn, subclasses := sub, abstract := ab, collection := col, hasDel := false }, by unfold PySem.W.clsIn; rw [hC] <;> rfl, rfl, rfl⟩
theorem OwnX.mro (T : OwnX K C nw tl) (b : Value) : PySem.W.mroIn K C b = some ((.ref C == b) || tl.contains b) := by
  obtain ⟨cd, h1, h2, _⟩ := T.cd
  unfold PySem.W.mroIn
  rw [h1, Option.bind_some, h2, if_neg (by simp), List.contains_cons]
  cases h : (Value.ref C == b) with
  | true => rw [beq_iff_eq.mp h]; simp
  | false =>
    have : (b == Value.ref C) = false := by
      cases q : (b == Value.ref C) with
      | false => rfl
      | true => rw [← beq_iff_eq.mp q] at h; simp at h
    rw [this]
end
end L2
namespace Pl
open PySem PySem.Spec PyProof.Rows L2
section
variable [TJ]
structure XD where
  c : Str
  y : D
abbrev unl : Str := "Unlike 0"
def XRep (K : PySem.W.Frag) (F : Hp) (cls : Value) (d : Option Addr) (x : XD) : Prop := ∃ C : Addr, cls = .ref C ∧
  ((x.c ≠ unl ∧ PySem.W.nsIn K mainGlobals x.c = some (some (.ref C)) ∧ ∃ (dd : Addr) (v : V), d = some dd ∧ F dd = some (.xd [(xfield x.c, v)]) ∧ Rep K F v x.y) ∨ (x.c = unl ∧ PySem.W.nsIn K mainGlobals "Unlike" = some (some (.ref C)) ∧ d = none))
theorem XRep.mono {K : PySem.W.Frag} {F F' : Hp} {cls : Value} {d : Option Addr} {x : XD} (e : Same F F') (h : XRep K F cls d x) : XRep K F' cls d x := by
  obtain ⟨C, h2, ⟨hc, h1, dd, v, h3, h4, h5⟩ | h3⟩ := h
  · exact ⟨C, h2, .inl ⟨hc, h1, dd, v, h3, e _ _ h4, h5.mono e⟩⟩
  · exact ⟨C, h2, .inr h3⟩
abbrev XP := XD → Ro → Prop
def XRel (K : PySem.W.Frag) (W : WX) (G F : Hp) (xx : XP) : Prop := ∀ F' H' σ' ρ' cls d x, Up G F F' → Sim K G F' H' σ' ρ' → XRep K F' cls d x → xx x ρ' → W cls d σ' H'
theorem XRel.mono {K : PySem.W.Frag} {W : WX} {G F F1 : Hp} {xx : XP} (h : XRel K W G F xx) (u : Up G F F1) : XRel K W G F1 xx := fun F' H' σ' ρ' cls d x v => h F' H' σ' ρ' cls d x (u.trans v)
theorem Sim.grow {K : PySem.W.Frag} {G F H F' H' : Hp} {σ : L2.St} {ρ : Ro} (S : Sim K G F H σ ρ) (u : Up G F F') (hF : Same F' H') (hH : Same H H') (fr : ∀ a o, H a = some o → Mut o → F a = none → F' a = none) (nw : ∀ b o, F' b = some o → F b = some o ∨ H b = none) : Sim K G F' H' σ ρ :=
  ⟨hF, S.hG.up hH nw, S.len, fun i d h => by
    obtain ⟨w, h1, h2⟩ := S.val i d h
    exact ⟨w, h1, h2.mono u.ex⟩, fun i a xs h => by
    obtain ⟨h1, h2, h3, vs, h4, h5⟩ := S.own i a xs h
    exact ⟨h1, fr a _ h4 trivial h2, h3, vs, hH _ _ h4, h5.mono u.ex⟩, S.ne, S.bx.heap u.ex fun p m => let ⟨f, g, _⟩ := S.bx.free m; let ⟨o, e, mo⟩ := S.bx.mut m; ⟨fr p o e mo f, g, (hH _ _ e).trans e.symm⟩⟩
abbrev TXe := Ro → XP → Prop
def SndX (K : PySem.W.Frag) (W : WX) (t : TE) (T : TXe) : Prop := ∀ (G F H : Hp) (σ : L2.St) (ρ : Ro) (xx : XP) (R : VK), Sim K G F H σ ρ → T ρ xx → XRel K W G F xx → t σ H R
structure PXE (X : Cx) (W : WX) (e : Expr) (t : TE) (T : TXe) : Prop where
  pe : PE X e t
  snd : SndX X.K W t T
abbrev TXs := PEnds → XP → Ro → Prop
def SndXS (K : PySem.W.Frag) (W : WX) (t : TS) (T : TXs) : Prop := ∀ (G F H : Hp) (σ : L2.St) (ρ : Ro) (P : PEnds) (D : Ends) (xx : XP), Sim K G F H σ ρ → T P xx ρ → ERel K G F P D → XRel K W G F xx → t D σ H
structure PXSs (X : Cx) (W : WX) (st : List Stmt) (t : TS) (T : TXs) : Prop where
  ps : PSs X st t
  snd : SndXS X.K W t T
def liftXS (K : PySem.W.Frag) (W : WX) (T : TXs) : TS := fun D σ H => ∃ (G F : Hp) (ρ : Ro) (P : PEnds) (xx : XP), Sim K G F H σ ρ ∧ T P xx ρ ∧ ERel K G F P D ∧ XRel K W G F xx
section
variable {X : Cx} {W : WX} {st : Stmt} {rest : List Stmt} {t u : TS} {T : TSp} {U V' : TXs} {e : Expr} {te : TE} {Te : TEp} {Xe : TXe} {pos : Pos}
theorem PXSs.lift (h : PXSs X W rest t U) : PXSs X W rest (liftXS X.K W U) U :=
  ⟨⟨fun pins s σ H D I ⟨G, F, ρ, P, xx, S, hT, r, hx⟩ => h.ps.run pins s σ H D I (h.snd G F H σ ρ P D xx S hT r hx)⟩, fun G F H σ ρ P D xx S hT r hx => ⟨G, F, ρ, P, xx, S, hT, r, hx⟩⟩
end
end
end Pl
namespace Pl
open PySem PySem.Spec PyProof.Rows L2
section
variable [TJ] {X : Cx} {k : Nat} {f C : Addr} {fd : FuncData} {ps : List Str} {x : Str} {p pos : Pos} {e : Expr} {es : List Expr} {t : TA} {T : TAp} {n : Nat}
def pMake (C : Addr) (n : Nat) (g : FM) (T : TAp) : TCp := fun ρ Q => T ρ fun ds ρ1 => ds.length + 1 = n ∧ ∀ a dx, g [] ds fun c fs => c = .val .non ∧ Q (.box (.ins a C dx fs)) ρ1
theorem snd_make {g : FM} (ha : SndA X.K t T) : SndC X.K (tMake C (spM X.K n C g) [] (fun _ _ _ => False) t) (pMake C n g T) := fun G F H σ ρ Q R S hT k => by
  refine ha G F H σ ρ _ _ S hT fun ws ds F1 H1 ρ1 u1 S1 r1 q1 => ?_
  obtain ⟨hn, hg⟩ := q1
  intro a dx na nd ne
  show spM X.K n C g (.ref a :: (ws ++ [])) (upd (upd H1 dx (.own a)) a (.ins C dx [])) _ _
  rw [List.append_nil]
  have Ha : ∀ {b : Addr} {o : HO}, H1 b = some o → upd (upd H1 dx (.own a)) a (.ins C dx []) b = some o := fun {b o} q => by rw [upd_ne (ne_of_none q na), upd_ne (ne_of_none q nd)]; exact q
  have ft : ∀ {b : Addr}, b ∈ (Sh.ins a C dx []).foot → H1 b = none := fun {b} m => by
    rcases List.mem_cons.mp (show b ∈ a :: dx :: fsFoot [] from m) with rfl | m
    · exact na
    rcases List.mem_cons.mp m with rfl | m
    · exact nd
    · cases m
  have hid : ∀ {b : Addr} {o : HO}, H1 b = some o → hideF (upd (upd H1 dx (.own a)) a (.ins C dx [])) (Sh.ins a C dx []).foot b = some o := fun {b o} q => by
    rw [hideF_ne fun m => by rw [ft m] at q; cases q]; exact Ha q
  have back : ∀ {b : Addr}, hideF (upd (upd H1 dx (.own a)) a (.ins C dx [])) (Sh.ins a C dx []).foot b = none → H1 b = none := fun {b} q => by
    cases z : H1 b with
    | none => rfl
    | some o => rw [hid z] at q; cases q
  refine ⟨F1, a, dx, [], ws, ds, _, rfl, by rw [List.length_cons, r1.length]; exact hn, fun b o q => Ha (S1.hF b o q), fun q m => S1.freshF (ft m), ⟨List.nodup_nil, [], upd_same, by rw [upd_ne ne]; exact upd_same, trivial⟩, r1, hg a dx, fun v c fs' F' H' u S' q => ?_⟩
  obtain ⟨rfl, q⟩ := q
  obtain ⟨w, k1, k2⟩ := S'.val 1 .non rfl
  cases k1
  have ev : v = .non := by cases k2; rfl
  subst ev
  refine ⟨rfl, ?_⟩
  have base : Sim X.K G F' H' σ ρ1 := S1.grow (u.less fun b o z => hid (S1.hG b o z)) S'.hF (fun b o z => S'.hG b o (hid z)) (fun b o z _ fz => u.isNone fz (hid z)) fun b o z => (u.out b o z).imp id back
  obtain ⟨_, g2, g3⟩ := S'.bx.box 0 _ rfl
  exact k (.ref a) (.box (.ins a C dx fs')) F' H' ρ1 (u1.trans (u.less fun b o z => hid (S1.hG b o z))) (base.pushBox (s := .ins a C dx fs') (fun b m => ⟨(g2 b m).1, S1.freshG (back (g2 b m).2)⟩) g3 fun b m => by
    have hb := back (g2 b m).2
    exact S1.notOwn hb) q
theorem ppc_make {g : FM} (M : Mk X.K C f) (Fn : FnOk X.prog X.w X.K X.mg X.base CX0 k f fd ps (spM X.K n C g)) (hr : Room (k + 1) X.A) (hg : Gl X x) (hm : X.mg x = some (.ref C)) (hb : Binds X.K fd ps []) (ha : PPA X (e :: es) t T)
    (hdb : (x == ("__debug__" : Str)) = false := by decide) (he : starEach (e :: es) X.env = (false, eval e X.env) :: starEach es X.env := by rfl) (hpl : (backTo pos (starEach es X.env)).any (·.1) = false := by rfl) :
    PPC X (.Call (.Name x p) (e :: es) [] pos) (tMake C (spM X.K n C g) [] (fun _ _ _ => False) t) (pMake C n g T) :=
  ⟨pe_make M Fn hr hg hm hb .nil pass0 ha.pa hdb he hpl, snd_make ha.snd⟩
end
end Pl
namespace Pl
open PySem PySem.Spec PyProof.Rows L2
variable [TJ]
def lc2In (vs1 : List Nat) (g1 : TGp) (tt1 : TTp) (te : TEp) (Kn : List D → Ro → Prop) : List D → List D → Ro → Prop
  | [], acc, ρ => Kn acc ρ
  | d :: ds, acc, ρ => g1 d (wipeP ρ vs1) fun ρ2 => tt1 ρ2 fun b ρ3 => if b = true then te ρ3 fun y ρ4 => acc.length < sizeLine ∧ lc2In vs1 g1 tt1 te Kn ds (acc ++ [y]) (restore ρ ρ4 vs1) else lc2In vs1 g1 tt1 te Kn ds acc (restore ρ ρ3 vs1)
def lc2W (vs : List Nat) (g : TGp) (tt : TTp) (Ti1 : TAp) (vs1 : List Nat) (g1 : TGp) (tt1 : TTp) (te : TEp) (Q : List D → Ro → Prop) : List D → List D → Ro → Prop
  | [], acc, ρ => Q acc ρ
  | d :: ds, acc, ρ => g d (wipeP ρ vs) fun ρ2 => tt ρ2 fun b ρ3 => if b = true then Ti1 ρ3 fun ds1 ρ4 => lc2In vs1 g1 tt1 te (fun acc' ρ5 => lc2W vs g tt Ti1 vs1 g1 tt1 te Q ds acc' (restore ρ ρ5 vs)) ds1 acc ρ4 else lc2W vs g tt Ti1 vs1 g1 tt1 te Q ds acc (restore ρ ρ3 vs)
theorem lc2_at {K : PySem.W.Frag} {wi wi1 : TI} {Ti1 : TAp} {g g1 : TG} {Gp Gp1 : TGp} {is is1 : List Nat} {tt tt1 : TT} {Tt Tt1 : TTp} {te : TE} {Te : TEp} {vs vs1 : List Nat} {G F H : Hp} {σ : L2.St} {Q : Cell → Ro → Prop} {R : VK} (hi0 : ∀ R' : It → Hp → Prop, (∀ J ds F' H' ρ', Up G F F' → Sim K G F' H' σ ρ' → ItRep K J F' ds → lc2W vs Gp Tt Ti1 vs1 Gp1 Tt1 Te (fun acc ρ2 => ∀ a, Q (.own a acc) ρ2) ds [] ρ' → R' J H') → wi σ H R') (hg : SndG K g Gp is) (ht : SndT K tt Tt) (hi1 : SndI K wi1 Ti1) (hg1 : SndG K g1 Gp1 is1) (ht1 : SndT K tt1 Tt1) (he : SndE K te Te) (hsub : ∀ i ∈ is, i ∈ vs) (hsub1 : ∀ i ∈ is1, i ∈ vs1)
    (k : ∀ v c F' H' ρ', Up G F F' → Sim K G F' H' (σ ++ [some v]) (ρ' ++ [some c]) → Q c ρ' → R v H') : tLc2 wi g tt wi1 g1 tt1 te vs vs1 σ H R :=
  hi0 _ fun J ds F1 H1 ρ1 u1 S1 J1 w1 => fun D hD => by
    refine ⟨fun i m H' => m + i = ds.length ∧ ∃ F' ρ' acc, Up G F1 F' ∧ Sim K G F' H' (σ ++ [some (.ref D)]) (ρ' ++ [some (.own D acc)]) ∧ lc2W vs Gp Tt Ti1 vs1 Gp1 Tt1 Te (fun acc ρ2 => ∀ a, Q (.own a acc) ρ2) (ds.drop i) acc ρ', ⟨ds.length, by omega, F1, ρ1, [], .refl _ _, S1.newOwn hD .nil, w1⟩, fun i m H' hW => ?_⟩
    obtain ⟨hm, F', ρ', acc, u', S0, w'⟩ := hW
    have S' := S0.drop
    obtain ⟨_, hFD, hGD, hnD, av, hHD, rD⟩ := S0.lastOwn
    have J' := J1 F' H' u'.ex S'.hF
    by_cases hlt : i < ds.length
    · refine .inr ⟨(J'.1 i ds[i] (List.getElem?_eq_getElem hlt)).1, fun H'' => ∃ F'' ρ'' acc, Up G F1 F'' ∧ Sim K G F'' H'' (σ ++ [some (.ref D)]) (ρ'' ++ [some (.own D acc)]) ∧ lc2W vs Gp Tt Ti1 vs1 Gp1 Tt1 Te (fun acc ρ2 => ∀ a, Q (.own a acc) ρ2) (ds.drop (i + 1)) acc ρ'', fun H'' q => ⟨m - 1, by omega, by omega, q⟩, fun x H'' hy => ?_⟩
      obtain ⟨F2, res⟩ := (J'.1 i ds[i] (List.getElem?_eq_getElem hlt)).2 x H'' hy
      have Sg : Sim K (upd G D (.lst av)) F' H' σ ρ' := S'.guard hHD hnD
      obtain ⟨u2, S2, r2⟩ := Sg.res res
      have hGG : Same G (upd G D (.lst av)) := same_new hGD
      rw [List.drop_eq_getElem_cons hlt] at w'
      refine hg (upd G D (.lst av)) F2 H'' (wipe σ vs) (wipeP ρ' vs) _ _ x _ (S2.wipe vs) r2 w' fun F3 H3 σ3 ρ3 u3 S3 o3 l3 q3 => ?_
      have hl3 : σ3.length = σ.length := by rw [l3, wipe_length]
      have ho3 : ∀ j, j ∉ vs → σ3[j]? = (wipe σ vs)[j]? := fun j hj => o3 j fun z => hj (hsub j z)
      have hoσ : ∀ j, j ∉ vs → σ3[j]? = σ[j]? := fun j hj => by rw [ho3 j hj, wipe_get, if_neg (fun q => hj q.1)]
      refine ⟨wipe_eq hl3 ho3, ht (upd G D (.lst av)) F3 H3 σ3 ρ3 _ _ S3 q3 fun b F4 H4 ρ4 u4 S4 q4 => ?_⟩
      cases b with
      | true =>
        refine ite_ti (hi1 (upd G D (.lst av)) F4 H4 σ3 ρ4 _ _ S4 (ite_t q4) fun Jn dn F5 H5 ρ5 u5 S5 Jn1 w5 => ?_)
        have up5 := ((u2.trans u3).trans u4).trans u5
        have hH5 : H5 D = some (.lst av) := S5.hG D _ upd_same
        have hF5 : F5 D = none := up5.isNone hFD upd_same
        have hn5 : NotOwn ρ5 D := ⟨fun j xs e => (by
          have := (S5.own j D xs e).2.2.1
          rw [upd_same] at this; cases this), S5.bx.notG upd_same⟩
        have T5 : Sim K G F5 H5 (σ3 ++ [some (.ref D)]) (ρ5 ++ [some (.own D acc)]) := (S5.unguard hGG).pushOwn hH5 hF5 hGD hn5 (rD.mono up5.ex)
        refine ⟨fun j k H6 => k + j = dn.length ∧ ∃ F6 ρ6 acc6, Up G F5 F6 ∧ Sim K G F6 H6 (σ3 ++ [some (.ref D)]) (ρ6 ++ [some (.own D acc6)]) ∧ lc2In vs1 Gp1 Tt1 Te (fun acc' ρ5 => lc2W vs Gp Tt Ti1 vs1 Gp1 Tt1 Te (fun acc ρ2 => ∀ a, Q (.own a acc) ρ2) (ds.drop (i + 1)) acc' (Pl.restore ρ' ρ5 vs)) (dn.drop j) acc6 ρ6, ⟨dn.length, by omega, F5, ρ5, acc, .refl _ _, T5, w5⟩, fun j k H6 hW => ?_⟩
        obtain ⟨hk, F6, ρ6, acc6, u6, T6, w6⟩ := hW
        have S6 := T6.drop
        obtain ⟨_, hFD6, _, hnD6, av6, hHD6, rD6⟩ := T6.lastOwn
        have Jn6 := Jn1 F6 H6 u6.ex S6.hF
        by_cases hlj : j < dn.length
        · refine .inr ⟨(Jn6.1 j dn[j] (List.getElem?_eq_getElem hlj)).1, fun H'' => ∃ F'' ρ'' acc6, Up G F5 F'' ∧ Sim K G F'' H'' (σ3 ++ [some (.ref D)]) (ρ'' ++ [some (.own D acc6)]) ∧ lc2In vs1 Gp1 Tt1 Te (fun acc' ρ5 => lc2W vs Gp Tt Ti1 vs1 Gp1 Tt1 Te (fun acc ρ2 => ∀ a, Q (.own a acc) ρ2) (ds.drop (i + 1)) acc' (Pl.restore ρ' ρ5 vs)) (dn.drop (j + 1)) acc6 ρ'', fun H'' q => ⟨k - 1, by omega, by omega, q⟩, fun x H7 hy => ?_⟩
          obtain ⟨F7, res7⟩ := (Jn6.1 j dn[j] (List.getElem?_eq_getElem hlj)).2 x H7 hy
          have Sg6 : Sim K (upd G D (.lst av6)) F6 H6 σ3 ρ6 := S6.guard hHD6 hnD6
          obtain ⟨u7, S7, r7⟩ := Sg6.res res7
          have hGG6 : Same G (upd G D (.lst av6)) := same_new hGD
          rw [List.drop_eq_getElem_cons hlj] at w6
          refine hg1 (upd G D (.lst av6)) F7 H7 (wipe σ3 vs1) (wipeP ρ6 vs1) _ _ x _ (S7.wipe vs1) r7 w6 fun F8 H8 σ8 ρ8 u8 S8 o8 l8 q8 => ?_
          have hl8 : σ8.length = σ3.length := by rw [l8, wipe_length]
          have ho8 : ∀ j, j ∉ vs1 → σ8[j]? = (wipe σ3 vs1)[j]? := fun j hj => o8 j fun z => hj (hsub1 j z)
          have hoσ8 : ∀ j, j ∉ vs1 → σ8[j]? = σ3[j]? := fun j hj => by rw [ho8 j hj, wipe_get, if_neg (fun q => hj q.1)]
          refine ⟨wipe_eq hl8 ho8, ht1 (upd G D (.lst av6)) F8 H8 σ8 ρ8 _ _ S8 q8 fun b F9 H9 ρ9 u9 S9 q9 => ?_⟩
          cases b with
          | true =>
            refine ite_ti (he (upd G D (.lst av6)) F9 H9 σ8 ρ9 _ _ S9 (ite_t q9) fun y dy F10 H10 ρ10 u10 S10 r10 q10 => ?_)
            have up := ((u7.trans u8).trans u9).trans u10
            have hH10 : H10 D = some (.lst av6) := S10.hG D _ upd_same
            have hF10 : F10 D = none := up.isNone hFD6 upd_same
            have S11 : Sim K G F10 H10 σ3 (Pl.restore ρ6 ρ10 vs1) := S6.restore S10 hGG6 up.ex hl8 hoσ8
            have hn11 : NotOwn (Pl.restore ρ6 ρ10 vs1) D := ⟨fun j xs e => (by
              rcases restore_get e with ⟨_, _, e', _⟩ | ⟨_, r⟩
              · cases e'
              · have := (S10.own j D xs r).2.2.1
                rw [upd_same] at this; cases this), fun m => S10.bx.notG upd_same (restore_box m)⟩
            have r11 : Reps K F10 (av6 ++ [y]) (acc6 ++ [dy]) := (rD6.mono up.ex).append (.one r10)
            refine ⟨av6, hH10, by rw [rD6.length]; exact q10.1, F10, _, acc6 ++ [dy], u6.trans (up.less hGG6), ?_, q10.2⟩
            exact (S11.updFree hH10 hF10 hGD hn11).pushOwn upd_same hF10 hGD hn11 r11
          | false =>
            refine ite_fi ⟨F9, _, acc6, u6.trans (((u7.trans u8).trans u9).less hGG6), ?_, ite_f q9⟩
            have up := (u7.trans u8).trans u9
            have hH9 : H9 D = some (.lst av6) := S9.hG D _ upd_same
            have hF9 : F9 D = none := up.isNone hFD6 upd_same
            have S11 : Sim K G F9 H9 σ3 (Pl.restore ρ6 ρ9 vs1) := S6.restore S9 hGG6 up.ex hl8 hoσ8
            have hn11 : NotOwn (Pl.restore ρ6 ρ9 vs1) D := ⟨fun j xs e => (by
              rcases restore_get e with ⟨_, _, e', _⟩ | ⟨_, r⟩
              · cases e'
              · have := (S9.own j D xs r).2.2.1
                rw [upd_same] at this; cases this), fun m => S9.bx.notG upd_same (restore_box m)⟩
            exact S11.pushOwn hH9 hF9 hGD hn11 (rD6.mono up.ex)
        · have e : j = dn.length := by omega
          subst e
          rw [List.drop_length] at w6
          have up : Up G F' F6 := (up5.less hGG).trans u6
          have S11 : Sim K G F6 H6 σ (Pl.restore ρ' ρ6 vs) := S'.restore S6 (.refl _) up.ex hl3 hoσ
          have hn11 : NotOwn (Pl.restore ρ' ρ6 vs) D := ⟨fun j xs e => (by
            rcases restore_get e with ⟨_, _, e', _⟩ | ⟨_, r⟩
            · cases e'
            · exact hnD6.1 j xs r), fun m => hnD6.2 (restore_box m)⟩
          exact .inl ⟨Jn6.2, F6, _, acc6, u'.trans up, S11.pushOwn hHD6 hFD6 hGD hn11 rD6, w6⟩
      | false =>
        refine ite_fi ⟨F4, _, acc, u'.trans (((u2.trans u3).trans u4).less hGG), ?_, ite_f q4⟩
        have up := (u2.trans u3).trans u4
        have hH4 : H4 D = some (.lst av) := S4.hG D _ upd_same
        have hF4 : F4 D = none := up.isNone hFD upd_same
        have S6 : Sim K G F4 H4 σ (Pl.restore ρ' ρ4 vs) := S'.restore S4 hGG up.ex hl3 hoσ
        have hn6 : NotOwn (Pl.restore ρ' ρ4 vs) D := ⟨fun j xs e => (by
          rcases restore_get e with ⟨_, _, e', _⟩ | ⟨_, r⟩
          · cases e'
          · have := (S4.own j D xs r).2.2.1
            rw [upd_same] at this; cases this), fun m => S4.bx.notG upd_same (restore_box m)⟩
        exact S6.pushOwn hH4 hF4 hGD hn6 (rD.mono up.ex)
    · have e : i = ds.length := by omega
      subst e
      rw [List.drop_length] at w'
      exact .inl ⟨J'.2, k _ _ F' H' ρ' (u1.trans u') S0 (w' D)⟩
def liftI (K : PySem.W.Frag) (T : TAp) : TI := fun σ H R => ∃ (G F : Hp) (ρ : Ro) (Q : List D → Ro → Prop), Sim K G F H σ ρ ∧ T ρ Q ∧ ∀ J ds F' H' ρ', Up G F F' → Sim K G F' H' σ ρ' → ItRep K J F' ds → Q ds ρ' → R J H'
theorem PPI.lift {X : Cx} {tg iter : Expr} {wi : TI} {T : TAp} (h : PPI X tg iter wi T) : PPI X tg iter (liftI X.K T) T :=
  ⟨⟨fun pins s σ H R I ⟨G, F, ρ, Q', S, hT, k⟩ => h.pi.run pins s σ H R I (h.snd G F H σ ρ Q' R S hT k)⟩, fun G F H σ ρ Q R S hT k => ⟨G, F, ρ, Q, S, hT, k⟩⟩
end Pl
namespace Pl
open PySem PySem.Spec PyProof.Rows L2
mutual
def noL : D → Bool
  | .non => true
  | .bl _ => true
  | .int _ => true
  | .str _ => true
  | .tup xs => noLs xs
  | _ => false
def noLs : List D → Bool
  | [] => true
  | x :: xs => noL x && noLs xs
end
section
variable {K : PySem.W.Frag} {F F' : Hp}
mutual
theorem Rep.noDrop (e : ∀ b xs, F b = some (.tup xs) → F' b = some (.tup xs)) : ∀ {v : V} {d : D}, Rep K F v d → noL d = true → Rep K F' v d
  | _, _, .non, _ => .non
  | _, _, .bl b, _ => .bl b
  | _, _, .int i, _ => .int i
  | _, _, .str x, _ => .str x
  | _, _, .tup h r, n => .tup (e _ _ h) (Reps.noDrop e r n)
  | _, _, .lst _ _, n => by cases n
  | _, _, .scr _, n => by cases n
  | _, _, .adr _, n => by cases n
  | _, _, .exc _ _ _ _, n => by cases n
theorem Reps.noDrop (e : ∀ b xs, F b = some (.tup xs) → F' b = some (.tup xs)) : ∀ {vs : List V} {ds : List D}, Reps K F vs ds → noLs ds = true → Reps K F' vs ds
  | _, _, .nil, _ => .nil
  | _, _, .cons h r, n => by
    rw [noLs, Bool.and_eq_true] at n
    exact .cons (Rep.noDrop e h n.1) (Reps.noDrop e r n.2)
end
end
section
variable [TJ] {X : Cx} {C : Addr} {f : Str}
def pLc2F (i : Nat) (C : Addr) (f : Str) (g : TGp) (tt : TTp) (Ti1 : TAp) (g1 : TGp) (tt1 : TTp) (te : TEp) (vs vs1 : List Nat) : TCp := fun ρ Q => ∃ a dx fs p xs, ρ[i]? = some (some (.box (.ins a C dx fs))) ∧ (∀ (j : Nat) (c : Cell), ρ[j]? = some (some c) → j = i) ∧ fs.lookup f = some (.own p xs) ∧
  lc2W vs g tt Ti1 vs1 g1 tt1 te (fun acc ρ2 => noLs acc = true ∧ ∀ r, Q (.own r acc) ρ) xs [] (ρ.set i none)
theorem snd_lc2F (i : Nat) (c : Cls X.K C) (na : NoAttr X.K C f) {wi1 : TI} {Ti1 : TAp} {g g1 : TG} {Gp Gp1 : TGp} {is is1 : List Nat} {tt tt1 : TT} {Tt Tt1 : TTp} {te : TE} {Te : TEp} {vs vs1 : List Nat} (hg : SndG X.K g Gp is) (ht : SndT X.K tt Tt) (hi1 : SndI X.K wi1 Ti1) (hg1 : SndG X.K g1 Gp1 is1) (ht1 : SndT X.K tt1 Tt1) (he : SndE X.K te Te) (hsub : ∀ i ∈ is, i ∈ vs) (hsub1 : ∀ i ∈ is1, i ∈ vs1) :
    SndC X.K (tLc2 (iAny X.K (tFld X.K (tVar i) f)) g tt wi1 g1 tt1 te vs vs1) (pLc2F i C f Gp Tt Ti1 Gp1 Tt1 Te vs vs1) := fun G F H σ ρ Q R S hT k => by
  obtain ⟨a, dx, fs, p, xs, e0, hal, l, hw⟩ := hT
  have hi := at_lt e0
  obtain ⟨b1, b2, b3⟩ := S.bx.box i _ e0
  obtain ⟨nd, ws, h1, h2, h3⟩ := b3
  obtain ⟨_, lv, rfl, us, z2, z3⟩ := h3.lookSome l
  have mp : p ∈ (Sh.ins a C dx fs).foot := List.mem_cons_of_mem _ (List.mem_cons_of_mem _ (look_mem l))
  have fp : F p = none := (b2 p mp).1
  generalize hft : (Sh.ins a C dx fs).foot.filter (fun b => decide (b ≠ p)) = as
  have inA : ∀ {b : Addr}, b ∈ as ↔ b ∈ (Sh.ins a C dx fs).foot ∧ b ≠ p := fun {b} => by rw [← hft, List.mem_filter, decide_eq_true_eq]
  have live : ∀ {b : Addr}, b ∈ (Sh.ins a C dx fs).foot → ∃ o, H b = some o ∧ Mut o := fun {b} m => Sh.At.mut (s := .ins a C dx fs) ⟨nd, ws, h1, h2, h3⟩ m
  have sG : Same G (plusG G H as) := fun b o q => by
    rw [plus_out fun z => by rw [(b2 b (inA.mp z).1).2] at q; cases q]; exact q
  have none0 : ∀ (j : Nat) (x : Cell), (ρ.set i none)[j]? ≠ some (some x) := fun j x h => by
    by_cases hj : i = j
    · subst hj; rw [List.getElem?_set_self hi] at h; cases h
    · rw [List.getElem?_set_ne hj] at h; exact hj (hal j x h).symm
  have S1 : Sim X.K (plusG G H as) (upd F p (.lst us)) H σ (ρ.set i none) := by
    refine ⟨fun b o q => ?_, ⟨fun b o q => ?_, TJ.frame (TJ.step S.hG.tj (fun b o q _ => q) fun b o q => ?_) fun b o q => ?_⟩, by simpa using S.len, fun j d h => absurd h (none0 j _), fun j b ys h => absurd h (none0 j _), fun j k b ys zs h => absurd h (none0 j _), .nil fun j t h => none0 j _ h⟩
    · by_cases hb : b = p
      · subst hb; rw [upd_same] at q; cases q; exact z2
      · rw [upd_ne hb] at q; exact S.hF b o q
    · by_cases hb : b ∈ as
      · rw [plus_in hb] at q; exact q
      · rw [plus_out hb] at q; exact S.hG b o q
    · by_cases hb : b = p
      · subst hb; exact .inr (.inr ⟨_, z2, trivial⟩)
      · rw [upd_ne hb] at q; exact .inl q
    · by_cases hb : b ∈ as
      · exact .inr (live (inA.mp hb).1)
      · rw [plus_out hb] at q; exact .inl q
  refine lc2_at (K := X.K) (G := plusG G H as) (F := upd F p (.lst us)) (H := H) (σ := σ) (Q := fun c ρ' => ∃ r acc, c = .own r acc ∧ noLs acc = true ∧ Q (.own r acc) ρ) (R := R) (Ti1 := Ti1) (Gp := Gp) (Gp1 := Gp1) (Tt := Tt) (Tt1 := Tt1) (Te := Te) (fun R' kk => ?_) hg ht hi1 hg1 ht1 he hsub hsub1 fun v cl F' H' ρ' u S' q => ?_
  · refine ⟨.ref a, b1, a, C, dx, ws, .ref p, rfl, h1, c, na, lv, p, rfl, .inl ⟨⟨_, SqL.of z2⟩, kk (Itl X.K p) xs (upd F p (.lst us)) H (ρ.set i none) (.refl _ _) S1 (itrep_list upd_same (z3.mono (same_new fp))) ?_⟩⟩
    have mono : ∀ (P1 P2 : List D → Ro → Prop), (∀ acc ρ, P1 acc ρ → P2 acc ρ) → P1 = P2 ∨ True := fun _ _ _ => .inr trivial
    have e : (fun acc (ρ2 : Ro) => ∀ r, (fun (c : Cell) (ρ' : Ro) => ∃ r acc, c = .own r acc ∧ noLs acc = true ∧ Q (.own r acc) ρ) (.own r acc) ρ2) = fun acc (ρ2 : Ro) => noLs acc = true ∧ ∀ r, Q (.own r acc) ρ := by
      funext acc ρ2
      refine propext ⟨fun h => ?_, fun h r => ⟨r, acc, rfl, h.1, h.2 r⟩⟩
      refine ⟨?_, fun r => ?_⟩
      · obtain ⟨r, acc', e, n, _⟩ := h 0
        cases e; exact n
      · obtain ⟨r', acc', e, n, q⟩ := h r
        cases e; exact q
    rw [e]
    exact hw
  obtain ⟨r, acc, rfl, nl, q⟩ := q
  obtain ⟨rfl, fr, gr, nr, vs', hr, rr⟩ := S'.lastOwn
  have f1 : ∀ {b : Addr} {o : HO}, F b = some o → F' b = some o ∧ b ≠ p := fun {b o} q => by
    have nb : b ≠ p := fun z => by subst z; rw [fp] at q; cases q
    exact ⟨u.ex b o (by rw [upd_ne nb]; exact q), nb⟩
  have hp' : H' p = some (.lst us) := S'.hF p _ (u.ex p _ upd_same)
  have hold : ∀ {b : Addr}, b ∈ (Sh.ins a C dx fs).foot → H' b = H b := fun {b} m => by
    by_cases hb : b = p
    · subst hb; rw [hp', z2]
    · obtain ⟨o, ho, _⟩ := live m
      rw [ho]; exact S'.hG b o (by rw [plus_in (inA.mpr ⟨m, hb⟩)]; exact ho)
  have F2none : ∀ {b : Addr}, b ∈ (Sh.ins a C dx fs).foot → hide F' p b = none := fun {b} m => by
    by_cases hb : b = p
    · subst hb; exact hide_at
    · rw [hide_ne hb]
      obtain ⟨o, ho, _⟩ := live m
      exact u.isNone (by rw [upd_ne hb]; exact (b2 b m).1) (show plusG G H as b = some o by rw [plus_in (inA.mpr ⟨m, hb⟩)]; exact ho)
  have u2 : Up G F (hide F' p) := ⟨fun b o q => by rw [hide_ne (f1 q).2]; exact (f1 q).1, fun b o q => by
    by_cases hb : b = p
    · subst hb; rw [hide_at] at q; cases q
    · rw [hide_ne hb] at q
      rcases u.out b o q with z | z
      · rw [upd_ne hb] at z; exact .inl z
      · exact .inr (sG.free z)⟩
  have base : Sim X.K G (hide F' p) H' σ ρ := by
    refine ⟨fun b o q => S'.hF b o (hide_same F' p b o q), ⟨fun b o q => S'.hG b o (sG b o q), TJ.step (TJ.frame S'.hG.tj fun b o q => .inl (sG b o q)) (fun b o q _ => q) fun b o q => .inl (hide_same F' p b o q)⟩, S.len, fun j d h => ?_, fun j b ys h => ?_, fun j k b ys zs h => ?_, fun j t h => ?_, fun j k t w b h1' h2' _ _ => ?_, fun j b ys h => ?_⟩
    · have := hal j _ h
      subst this; rw [e0] at h; cases h
    · have := hal j _ h
      subst this; rw [e0] at h; cases h
    · have := hal j _ h
      subst this; rw [e0] at h; cases h
    · have := hal j _ h
      subst this; rw [e0] at h; cases h
      exact ⟨b1, fun b m => ⟨F2none m, (b2 b m).2⟩, Sh.At.mono (s := .ins a C dx fs) ⟨nd, ws, h1, h2, h3⟩ u2.ex fun b m => hold m⟩
    · rw [hal j _ h1', hal k _ h2']
    · have := hal j _ h
      subst this; rw [e0] at h; cases h
  have np : r ∉ (Sh.ins a C dx fs).foot := fun m => by
    by_cases hb : r = p
    · subst hb; rw [u.ex r _ upd_same] at fr; cases fr
    · obtain ⟨o, ho, _⟩ := live m
      rw [plus_in (inA.mpr ⟨m, hb⟩), ho] at gr; cases gr
  have rp : r ≠ p := fun z => np (by rw [z]; exact mp)
  refine k (.ref r) (.own r acc) (hide F' p) H' ρ u2 (base.pushOwn hr (by rw [hide_ne rp]; exact fr) (sG.free gr) ⟨fun j ys h => ?_, fun ⟨j, t, h, m⟩ => ?_⟩ (Reps.noDrop (fun b ys q => ?_) rr nl)) q
  · have := hal j _ h
    subst this; rw [e0] at h; cases h
  · have := hal j _ h
    subst this; rw [e0] at h; cases h
    exact np m
  · by_cases hb : b = p
    · subst hb
      have := u.ex b _ upd_same
      rw [q] at this; cases this
    · rw [hide_ne hb]; exact q
end
end Pl
namespace L2
open PySem PySem.Spec PyProof.Rows
def tTryFin (tb tf : TS) : TS := fun D σ H => tb { nx := fun σ1 H1 => tf D σ1 H1, rt := fun _ _ => False } σ H
section
variable {X : Cx} {body : List Stmt} {f₀ : Stmt} {fs : List Stmt} {pos : Pos} {tb tf : TS}
theorem ps_tryFin (hb : PSs X.nox body tb) (hf : PSs X.nox (f₀ :: fs) tf) : PS X (.Try body [] [] (f₀ :: fs) pos) (tTryFin tb tf) := by
  refine ⟨fun pins s σ H D I h => ?_⟩
  refine wpAny_Try_finally (wpAny_mono (hb.run pins s σ H _ (I.wish _) h) (fun f s1 z => ?_) fun _ _ z => False.elim z)
  have z' : SP X pins { nx := fun σ1 H1 => tf D σ1 H1, rt := fun _ _ => False } f s1 := z.unwish
  cases f with
  | next =>
    obtain ⟨σ1, H1, I1, q1⟩ := z'
    refine wpAny_execs_nil (wpAny_mono (hf.run pins s1 σ1 H1 D (I1.wish _) q1) (fun g s2 q => ?_) fun _ _ z => False.elim z)
    have q' : SP X pins D g s2 := q.unwish
    cases g with
    | next => exact q'
    | ret w2 => exact q'
    | brk => exact q'
    | cont => exact q'
  | ret u => obtain ⟨_, _, _, _, _, q⟩ := z'; exact q.elim
  | brk => obtain ⟨_, _, _, q⟩ := z'; exact q.elim
  | cont => obtain ⟨_, _, _, q⟩ := z'; exact q.elim
end
end L2
namespace Pl
open PySem PySem.Spec PyProof.Rows L2
section
variable [TJ] {X : Cx} {body : List Stmt} {f₀ : Stmt} {fs : List Stmt} {rp pos : Pos} {tb tf : TS} {Tb Tf : TSp} {e : Expr} {te : TE} {Te : TEp}
def pTryFin (Tb Tf : TSp) : TSp := fun P ρ => Tb { nx := fun ρ1 => Tf P ρ1, rt := fun _ _ => False } ρ
theorem pps_tryFin (hb : PPSs X.nox body tb Tb) (hf : PPSs X.nox (f₀ :: fs) tf Tf) : PPS X (.Try body [] [] (f₀ :: fs) pos) (tTryFin tb tf) (pTryFin Tb Tf) := ⟨ps_tryFin hb.ps hf.ps, fun G F H σ ρ P D S hT r =>
  hb.snd G F H σ ρ _ _ S hT ⟨fun F' H' σ' ρ' u S' q => hf.snd G F' H' σ' ρ' P D S' q (r.mono u), fun _ _ _ _ _ _ _ _ q => q.elim, fun _ _ _ _ _ _ q => q.elim, fun _ _ _ _ _ _ q => q.elim⟩⟩
end
section
variable {X : Cx} {elt tg tg1 iter1 : Expr} {ifs ifs1 : List Expr} {scope : Scope} {own : List (Str × Nat)} {vs1 : List Nat} {pos py fp : Pos} {Ti1 : TAp} {Gp Gp1 : TGp} {is is1 : List Nat} {Tt Tt1 : TTp} {Te : TEp} {C : Addr} {f y : Str}
theorem ppc_lc2F (i : Nat) (c : Cls X.K C) (na : NoAttr X.K C f) (hc : X.calm = true) (hN : X.N.Nodup) (ok : BlkOk X.N X.env.scope scope own) (hv : ∀ i ∈ vs1, i ∈ own.map (·.2))
    (hg : ∀ (s : Shared) (H : Hp) (C : Addr) (cl : List (Str × Addr)) (fp : List Addr), PTg (X.blk s H scope (compEnvC scope cl C X.env) fp) tg (liftG X.K Gp is) Gp is) (ht : ∀ (s : Shared) (H : Hp) (C : Addr) (cl : List (Str × Addr)) (fp : List Addr), PPTs (X.blk s H scope (compEnvC scope cl C X.env) fp) ifs (liftT X.K Tt) Tt)
    (hi1 : ∀ (s : Shared) (H : Hp) (C : Addr) (cl : List (Str × Addr)) (fp : List Addr), PPI (X.blk s H scope (compEnvC scope cl C X.env) fp) tg1 iter1 (liftI X.K Ti1) Ti1)
    (hg1 : ∀ (s : Shared) (H : Hp) (C : Addr) (cl : List (Str × Addr)) (fp : List Addr), PTg (X.blk s H scope (compEnvC scope cl C X.env) fp) tg1 (liftG X.K Gp1 is1) Gp1 is1) (ht1 : ∀ (s : Shared) (H : Hp) (C : Addr) (cl : List (Str × Addr)) (fp : List Addr), PPTs (X.blk s H scope (compEnvC scope cl C X.env) fp) ifs1 (liftT X.K Tt1) Tt1)
    (he : ∀ (s : Shared) (H : Hp) (C : Addr) (cl : List (Str × Addr)) (fp : List Addr), PPE (X.blk s H scope (compEnvC scope cl C X.env) fp) elt (liftE X.K Te) Te)
    (hNy : X.N[i]? = some y := by rfl) (hvy : Vis X.env.scope y := by first | exact Or.inl rfl | exact Or.inr (Or.inl rfl) | exact Or.inr (Or.inr rfl)) (hd : (y == ("__debug__" : Str)) = false := by decide) (hcd : (y == ("__classdict__" : Str)) = false := by decide)
    (hb : attributeBase (.Name y py) f X.env (eval (.Name y py) X.env) = eval (.Name y py) X.env := by rfl)
    (hs : ∀ x, foldedSetIterable (.Attribute (.Name y py) f fp) X.env x = pure x := by intro _; rfl) (hs1 : ∀ env x, foldedSetIterable iter1 env x = pure x := by intro _ _; rfl)
    (hsub : ∀ i ∈ is, i ∈ own.map (·.2) := by decide) (hsub1 : ∀ i ∈ is1, i ∈ vs1 := by decide) :
    PPC X (.ListComp elt [⟨tg, .Attribute (.Name y py) f fp, ifs, 0⟩, ⟨tg1, iter1, ifs1, 0⟩] scope pos) (tLc2 (iAny X.K (tFld X.K (tVar i) f)) (liftG X.K Gp is) (liftT X.K Tt) (liftI X.K Ti1) (liftG X.K Gp1 is1) (liftT X.K Tt1) (liftE X.K Te) (own.map (·.2)) vs1) (pLc2F i C f Gp Tt Ti1 Gp1 Tt1 Te (own.map (·.2)) vs1) :=
  ⟨pe_lc2 hc hN (pi_any (pe_fld (pe_var hNy hvy hd hcd) hb)) ok hv (fun s H C cl fp => (hg s H C cl fp).pg) (fun s H C cl fp => (ht s H C cl fp).pt) (fun s H C cl fp => (hi1 s H C cl fp).pi) (fun s H C cl fp => (hg1 s H C cl fp).pg) (fun s H C cl fp => (ht1 s H C cl fp).pt) (fun s H C cl fp => (he s H C cl fp).pe) hs hs1,
    snd_lc2F i c na (hg X.s_0 (fun _ => none) 0 [] []).snd (ht X.s_0 (fun _ => none) 0 [] []).snd (hi1 X.s_0 (fun _ => none) 0 [] []).snd (hg1 X.s_0 (fun _ => none) 0 [] []).snd (ht1 X.s_0 (fun _ => none) 0 [] []).snd (he X.s_0 (fun _ => none) 0 [] []).snd hsub hsub1⟩
end
end Pl
namespace Pl
open PySem PySem.Spec PyProof.Rows L2
section
variable [TJ] {X : Cx} {W : WX} {body : List Stmt} {f₀ : Stmt} {fs : List Stmt} {rp pos : Pos} {tf tfs : TS} {Ub : TXs} {Tf : TSp} {e : Expr} {Xe : TXe}
def xFin (Tf : TSp) (xx : XP) : XP := fun x ρ => Tf { nx := fun ρ2 => xx x ρ2, rt := fun _ _ => False } ρ
theorem XRel.fin {G F : Hp} {K : PySem.W.Frag} {xx : XP} (hx : XRel K W G F xx) (hs : SndS K tfs Tf) : XRel K (wFin tfs W) G F (xFin Tf xx) := fun F' H' σ' ρ' cls d x u S' xr q =>
  hs G F' H' σ' ρ' _ _ S' q ⟨fun F2 H2 σ2 ρ2 u2 S2 q2 => hx F2 H2 σ2 ρ2 cls d x (u.trans u2) S2 (xr.mono u2.ex) q2, fun _ _ _ _ _ _ _ _ q => q.elim, fun _ _ _ _ _ _ q => q.elim, fun _ _ _ _ _ _ q => q.elim⟩
def liftXE (K : PySem.W.Frag) (W : WX) (T : TXe) : TE := fun σ H R => ∃ (G F : Hp) (ρ : Ro) (xx : XP), Sim K G F H σ ρ ∧ T ρ xx ∧ XRel K W G F xx
theorem PXE.lift {t : TE} (h : PXE X W e t Xe) : PXE X W e (liftXE X.K W Xe) Xe :=
  ⟨⟨fun pins s σ H Q I ⟨G, F, ρ, xx, S, hT, hx⟩ => h.pe.run pins s σ H Q I (h.snd G F H σ ρ xx Q S hT hx)⟩, fun G F H σ ρ xx R S hT hx => ⟨G, F, ρ, xx, S, hT, hx⟩⟩
end
end Pl
namespace Pl
open PySem PySem.Spec PyProof.Rows L2
section
variable [TJ] {X : Cx} {e : Expr} {te : TE} {Te : TEp} {pos : Pos}
inductive PPJ (X : Cx) : List Expr → List TE → List TEp → Prop where
  | nil : PPJ X [] [] []
  | cons {e : Expr} {t : TE} {T : TEp} {es : List Expr} {ts : List TE} {Ts : List TEp} (h : PPE X e t T) (r : PPJ X es ts Ts) : PPJ X (e :: es) (t :: ts) (T :: Ts)
theorem PPJ.pj {es : List Expr} {ts : List TE} {Ts : List TEp} (h : PPJ X es ts Ts) : PJ X es ts := by
  induction h with
  | nil => exact .nil
  | cons h _ ih => exact .cons h.pe ih
end
end Pl
namespace Pl
open PySem PySem.Spec PyProof.Rows L2
def noLF : List (Str × Fd) → Bool
  | [] => true
  | (_, .val d) :: fs => noL d && noLF fs
  | (_, .own _ xs) :: fs => noLs xs && noLF fs
def noLC : Cell → Bool
  | .val d => noL d
  | .own _ xs => noLs xs
  | .box (.ins _ _ _ fs) => noLF fs
  | .box (.gen g) => g.nl
  | .box _ => false
theorem FsR.noDrop {K : PySem.W.Frag} {F F' H : Hp} (e : ∀ b xs, F b = some (.tup xs) → F' b = some (.tup xs)) : ∀ {vs : List (Str × V)} {fs : List (Str × Fd)}, FsR K F H vs fs → noLF fs = true → FsR K F' H vs fs
  | [], [], _, _ => trivial
  | p :: ps, (x, .val d) :: fs, h, n => by
    rw [noLF, Bool.and_eq_true] at n
    exact ⟨h.1, Rep.noDrop e h.2.1 n.1, FsR.noDrop e h.2.2 n.2⟩
  | p :: ps, (x, .own b xs) :: fs, h, n => by
    rw [noLF, Bool.and_eq_true] at n
    obtain ⟨h1, ⟨h2, vs, h3, h4⟩, h5⟩ := h
    exact ⟨h1, ⟨h2, vs, h3, Reps.noDrop e h4 n.1⟩, FsR.noDrop e h5 n.2⟩
  | [], _ :: _, h, _ => h.elim
  | _ :: _, [], h, _ => h.elim
theorem Sh.At.noDrop {K : PySem.W.Frag} {F F' H : Hp} (e : ∀ b xs, F b = some (.tup xs) → F' b = some (.tup xs)) {s : Sh} (n : noLC (.box s) = true) (h : s.At K F H) : s.At K F' H := by
  cases s with
  | ins a C dx fs =>
    obtain ⟨nd, vs, h1, h2, h3⟩ := h
    exact ⟨nd, vs, h1, h2, FsR.noDrop e h3 n⟩
  | dic a ps => exact absurd n (by simp [noLC])
  | dicL a o kvs ps => exact absurd n (by simp [noLC])
  | gen g => exact g.drop n e h
end Pl
namespace Pl
open PySem PySem.Spec PyProof.Rows L2
section
variable {X : Cx} {e : Expr} {te : TE} {Tc : TCp} {G F H : Hp} {σ : L2.St} {ρ : Ro}
theorem Sim.back {K : PySem.W.Frag} {a : Addr} {i : Nat} {us : List V} {xs : List D} {c : Cell} {v : V} {F' H' : Hp} {ρ1 : Ro} (S' : Sim K (upd G a (.lst us)) F' H' (σ ++ [some v]) (ρ1 ++ [some c])) (hi : i < ρ1.length) (hσ : σ[i]? = some (some (.ref a))) (ga : G a = none) (r : Reps K (hide F' a) us xs)
    (hc : noLC c = true) (hr : ∀ j x, j ≠ i → ρ1[j]? = some (some x) → noLC x = true) (tups : ∀ b ys, F' b = some (.tup ys) → hide F' a b = some (.tup ys)) : Sim K G (hide F' a) H' (σ ++ [some v]) (ρ1.set i (some (.own a xs)) ++ [some c]) := by
  have ha0 : hide F' a a = none := by unfold hide; rw [if_pos rfl]
  have none' : ∀ {p : Addr}, F' p = none → hide F' a p = none := fun {p} z => by
    by_cases n : p = a
    · subst n; exact ha0
    · unfold hide; rw [if_neg n]; exact z
  have gone : ∀ {p : Addr}, upd G a (.lst us) p = none → G p = none ∧ p ≠ a := fun {p} z => by
    by_cases n : p = a
    · subst n; rw [upd_same] at z; cases z
    · rw [upd_ne n] at z; exact ⟨z, n⟩
  have hσi : (σ ++ [some v])[i]? = some (some (.ref a)) := by
    rw [List.getElem?_append_left (by rcases Nat.lt_or_ge i σ.length with z | z; exact z; rw [List.getElem?_eq_none z] at hσ; cases hσ)]; exact hσ
  have far : ∀ {j : Nat} {x : Cell}, (ρ1.set i (some (.own a xs)) ++ [some c])[j]? = some (some x) → ((ρ1 ++ [some c])[j]? = some (some x) ∧ j ≠ i ∧ noLC x = true) ∨ (j = i ∧ x = .own a xs) := fun {j x} h => by
    by_cases hj : j = i
    · subst hj
      rw [List.getElem?_append_left (by simpa using hi), List.getElem?_set_self hi] at h
      cases h
      exact .inr ⟨rfl, rfl⟩
    · refine .inl ?_
      rcases Nat.lt_or_ge j ρ1.length with z | z
      · rw [List.getElem?_append_left (by simpa using z), List.getElem?_set_ne fun q => hj q.symm] at h
        exact ⟨by rw [List.getElem?_append_left z]; exact h, hj, hr j x hj h⟩
      · rw [List.getElem?_append_right (by simpa using z), List.length_set] at h
        refine ⟨by rw [List.getElem?_append_right z]; exact h, hj, ?_⟩
        cases k : j - ρ1.length with
        | zero => rw [k] at h; cases h; exact hc
        | succ m => rw [k] at h; cases h
  refine ⟨fun b o z => S'.hF b o (hide_same F' a b o z), ⟨fun b o z => S'.hG.same b o (by rw [upd_ne fun n => by subst n; rw [ga] at z; cases z]; exact z), trivial⟩, by simpa using S'.len, fun j d h => ?_, fun j b ys h => ?_, fun j k b ys zs q1 q2 => ?_, ⟨fun j t h => ?_, fun j k t w p q1 q2 m1 m2 => ?_, fun j b ys q m => ?_⟩⟩
  · rcases far h with ⟨h, _, n⟩ | ⟨_, z⟩
    · obtain ⟨w, k1, k2⟩ := S'.val j d h
      exact ⟨w, k1, Rep.noDrop tups k2 n⟩
    · cases z
  · rcases far h with ⟨h, _, n⟩ | ⟨rfl, z⟩
    · obtain ⟨k1, k2, k3, vs, k4, k5⟩ := S'.own j b ys h
      exact ⟨k1, none' k2, (gone k3).1, vs, k4, Reps.noDrop tups k5 n⟩
    · cases z
      exact ⟨hσi, ha0, ga, us, S'.hG.same a _ upd_same, r⟩
  · rcases far q1 with ⟨h1, _, _⟩ | ⟨rfl, z1⟩
    · rcases far q2 with ⟨h2, _, _⟩ | ⟨rfl, z2⟩
      · exact S'.ne j k b ys zs h1 h2
      · cases z2
        exact absurd rfl (gone (S'.own j _ _ h1).2.2.1).2
    · cases z1
      rcases far q2 with ⟨h2, _, _⟩ | ⟨rfl, z2⟩
      · exact absurd rfl (gone (S'.own k _ _ h2).2.2.1).2
      · rfl
  · rcases far h with ⟨h, _, n⟩ | ⟨_, z⟩
    · obtain ⟨k1, k2, k3⟩ := S'.bx.box j t h
      exact ⟨k1, fun p m => ⟨none' (k2 p m).1, (gone (k2 p m).2).1⟩, Sh.At.noDrop tups n k3⟩
    · cases z
  · rcases far q1 with ⟨h1, _, _⟩ | ⟨_, z⟩
    · rcases far q2 with ⟨h2, _, _⟩ | ⟨_, z⟩
      · exact S'.bx.bb j k t w p h1 h2 m1 m2
      · cases z
    · cases z
  · obtain ⟨k, t, q2, m2⟩ := m
    rcases far q2 with ⟨h2, _, _⟩ | ⟨_, z⟩
    · rcases far q with ⟨h1, _, _⟩ | ⟨_, z⟩
      · exact S'.bx.bo j b ys h1 ⟨k, t, h2, m2⟩
      · cases z
        exact (gone ((S'.bx.box k t h2).2.1 _ m2).2).2 rfl
    · cases z
end
end Pl
namespace Pl
open PySem PySem.Spec PyProof.Rows L2
variable [TJ]
def Cell.foot : Cell → List Addr
  | .val _ => []
  | .own p _ => [p]
  | .box s => s.foot
def CellB (K : PySem.W.Frag) (G F H : Hp) (ρ : Ro) (v : V) (c : Cell) : Prop := (match c with
  | .val d => Rep K F v d
  | .own p xs => v = .ref p ∧ ∃ us, H p = some (.lst us) ∧ Reps K F us xs
  | .box s => v = .ref s.root ∧ s.At K F H) ∧ ∀ p ∈ c.foot, F p = none ∧ G p = none ∧ NotOwn ρ p
def CellsB (K : PySem.W.Frag) (G F H : Hp) (ρ : Ro) : List V → List Cell → Prop
  | [], [] => True
  | v :: vs, c :: cs => CellB K G F H ρ v c ∧ CellsB K G F H ρ vs cs ∧ ∀ p ∈ c.foot, ∀ c' ∈ cs, p ∉ c'.foot
  | _, _ => False
section
variable {K : PySem.W.Frag} {G G' F F' H H' : Hp} {σ : L2.St} {ρ ρ' : Ro} {v : V} {c c' : Cell}
theorem CellB.live (h : CellB K G F H ρ v c) {p : Addr} (m : p ∈ c.foot) : ∃ o, H p = some o ∧ Mut o := by
  cases c with
  | val d => exact absurd m List.not_mem_nil
  | own q xs =>
    obtain ⟨⟨_, us, h1, _⟩, _⟩ := h
    rw [List.mem_singleton.mp m]
    exact ⟨_, h1, trivial⟩
  | box s => exact h.1.2.mut m
theorem CellB.to (h : CellB K G F H ρ v c) (hs : Same F F') (hp : ∀ p ∈ c.foot, F' p = none ∧ G' p = none ∧ NotOwn ρ' p ∧ H' p = H p) : CellB K G' F' H' ρ' v c := by
  refine ⟨?_, fun p m => ⟨(hp p m).1, (hp p m).2.1, (hp p m).2.2.1⟩⟩
  cases c with
  | val d => exact h.1.mono hs
  | own q xs =>
    obtain ⟨⟨h0, us, h1, h2⟩, _⟩ := h
    exact ⟨h0, us, by rw [(hp q (List.mem_singleton.mpr rfl)).2.2.2]; exact h1, h2.mono hs⟩
  | box s => exact ⟨h.1.1, h.1.2.mono hs fun p m => (hp p m).2.2.2⟩
theorem CellB.more {p : Addr} {o : HO} (h : CellB K G F H ρ v c) (hp : H p = none) : CellB K G F (upd H p o) ρ v c := h.to (.refl _) fun q m => by
  obtain ⟨x, hx, _⟩ := h.live m
  exact ⟨(h.2 q m).1, (h.2 q m).2.1, (h.2 q m).2.2, upd_ne (ne_of_none hx hp)⟩
theorem Sim.putB (S : Sim K G F H σ ρ) (i : Nat) (h : CellB K G F H ρ v c) : Sim K G F H (σ.set i (some v)) (ρ.set i (some c)) := by
  obtain ⟨h, hf⟩ := h
  cases c with
  | val d => exact S.setVal i h
  | own p xs =>
    obtain ⟨rfl, us, h5, h6⟩ := h
    obtain ⟨h2, h3, h4⟩ := hf p (List.mem_singleton.mpr rfl)
    exact S.setOwn i h5 h2 h3 h4 h6
  | box s =>
    obtain ⟨rfl, ha⟩ := h
    exact S.setBox i (fun p m => ⟨(hf p m).1, (hf p m).2.1⟩) ha fun p m => (hf p m).2.2
theorem NotOwn.putB {p : Addr} {i : Nat} (h : NotOwn ρ p) (n : p ∉ c.foot) : NotOwn (ρ.set i (some c)) p := by
  have far : ∀ {j : Nat} {x : Cell}, (ρ.set i (some c))[j]? = some (some x) → x = c ∨ ρ[j]? = some (some x) := fun {j x} e => by
    by_cases hj : i = j
    · subst hj
      by_cases hi : i < ρ.length
      · rw [List.getElem?_set_self hi] at e
        cases e; exact .inl rfl
      · rw [List.getElem?_eq_none (by simpa using hi)] at e; cases e
    · rw [List.getElem?_set_ne hj] at e; exact .inr e
  refine ⟨fun j ys e => ?_, fun ⟨j, s, e, m⟩ => ?_⟩
  · rcases far e with z | z
    · subst z; exact n (List.mem_singleton.mpr rfl)
    · exact h.1 j ys z
  · rcases far e with z | z
    · subst z; exact n m
    · exact h.2 ⟨j, s, z, m⟩
theorem CellB.put {i : Nat} (h : CellB K G F H ρ v c) (hd : ∀ p ∈ c.foot, p ∉ c'.foot) : CellB K G F H (ρ.set i (some c')) v c :=
  h.to (.refl _) fun p m => ⟨(h.2 p m).1, (h.2 p m).2.1, (h.2 p m).2.2.putB (hd p m), rfl⟩
theorem CellsB.len : ∀ {vs : List V} {cs : List Cell}, CellsB K G F H ρ vs cs → vs.length = cs.length
  | [], [], _ => rfl
  | _ :: _, _ :: _, h => congrArg (· + 1) (CellsB.len h.2.1)
  | [], _ :: _, h => h.elim
  | _ :: _, [], h => h.elim
theorem CellsB.less (e : Same G' G) : ∀ {vs : List V} {cs : List Cell}, CellsB K G F H ρ vs cs → CellsB K G' F H ρ vs cs
  | [], [], _ => trivial
  | _ :: _, _ :: _, h => ⟨h.1.to (.refl _) fun p m => ⟨(h.1.2 p m).1, e.free (h.1.2 p m).2.1, (h.1.2 p m).2.2, rfl⟩, CellsB.less e h.2.1, h.2.2⟩
  | [], _ :: _, h => h.elim
  | _ :: _, [], h => h.elim
theorem CellsB.foot : ∀ {vs : List V} {cs : List Cell}, CellsB K G F H ρ vs cs → ∀ c ∈ cs, ∀ p ∈ c.foot, G p = none
  | [], [], _, c, h => absurd h List.not_mem_nil
  | _ :: _, x :: _, h, c, m => by
    rcases List.mem_cons.mp m with rfl | m
    · exact fun p q => (h.1.2 p q).2.1
    · exact CellsB.foot h.2.1 c m
  | [], _ :: _, h, _, _ => h.elim
  | _ :: _, [], h, _, _ => h.elim
theorem Sim.lastB (S : Sim K G F H (σ ++ [some v]) (ρ ++ [some c])) : CellB K G F H ρ v c := by
  cases c with
  | val d => exact ⟨S.lastVal, fun p m => absurd m List.not_mem_nil⟩
  | own p xs =>
    obtain ⟨h1, h2, h3, h4, us, h5, h6⟩ := S.lastOwn
    exact ⟨⟨h1, us, h5, h6⟩, fun q m => by rw [List.mem_singleton.mp m]; exact ⟨h2, h3, h4⟩⟩
  | box s =>
    obtain ⟨h1, h2, h3, h4⟩ := S.lastBox
    exact ⟨⟨h1, h3⟩, fun q m => ⟨(h2 q m).1, (h2 q m).2, h4 q m⟩⟩
def guardF (G H : Hp) (as : List Addr) : Hp := fun b => if b ∈ as then H b else G b
theorem guardF_in {as : List Addr} {b : Addr} (h : b ∈ as) : guardF G H as b = H b := by unfold guardF; rw [if_pos h]
theorem guardF_out {as : List Addr} {b : Addr} (h : b ∉ as) : guardF G H as b = G b := by unfold guardF; rw [if_neg h]
theorem CellB.same (h : CellB K G F H ρ v c) : Same G (guardF G H c.foot) := fun b o e => by
  by_cases m : b ∈ c.foot
  · rw [(h.2 b m).2.1] at e; cases e
  · rw [guardF_out m]; exact e
theorem Sim.guardB (S : Sim K G F H σ ρ) (h : CellB K G F H ρ v c) : Sim K (guardF G H c.foot) F H σ ρ := by
  refine ⟨S.hF, ⟨fun b o e => ?_, TJ.frame S.hG.tj fun b o e => ?_⟩, S.len, S.val, fun i b ys q => ?_, S.ne, S.bx.heap (.refl _) fun p m => ⟨(S.bx.free m).1, ?_, rfl⟩⟩
  · by_cases m : b ∈ c.foot
    · rw [guardF_in m] at e; exact e
    · rw [guardF_out m] at e; exact S.hG b o e
  · by_cases m : b ∈ c.foot
    · exact .inr (h.live m)
    · rw [guardF_out m] at e; exact .inl e
  · obtain ⟨g1, g2, g3, g4⟩ := S.own i b ys q
    exact ⟨g1, g2, by rw [guardF_out fun m => (h.2 b m).2.2.1 i ys q]; exact g3, g4⟩
  · rw [guardF_out fun z => (h.2 p z).2.2.2 m]; exact (S.bx.free m).2.1
theorem Sim.unguardB (S : Sim K G' F H σ ρ) (e : Same G G') : Sim K G F H σ ρ :=
  ⟨S.hF, S.hG.less e, S.len, S.val, fun i b ys q => by
    obtain ⟨g1, g2, g3, g4⟩ := S.own i b ys q
    exact ⟨g1, g2, e.free g3, g4⟩, S.ne, S.bx.unguard e⟩
theorem CellB.kept {F2 H2 : Hp} {σ2 : L2.St} {ρ2 : Ro} (h : CellB K G F H ρ v c) (u : Up (guardF G H c.foot) F F2) (S2 : Sim K (guardF G H c.foot) F2 H2 σ2 ρ2) : CellB K G F2 H2 ρ2 v c := h.to u.ex fun p m => by
  obtain ⟨o, ho, _⟩ := h.live m
  have hg : guardF G H c.foot p = some o := by rw [guardF_in m]; exact ho
  refine ⟨u.isNone (h.2 p m).1 hg, (h.2 p m).2.1, ⟨fun i ys q => ?_, S2.bx.notG hg⟩, by rw [ho]; exact S2.hG p o hg⟩
  have := (S2.own i p ys q).2.2.1
  rw [hg] at this; cases this
end
def SndBs (K : PySem.W.Frag) (t : TA) (T : TCs) : Prop := ∀ (G F H : Hp) (σ : L2.St) (ρ : Ro) (Q : List Cell → Ro → Prop) (R : List V → Hp → Prop), Sim K G F H σ ρ → T ρ Q →
  (∀ vs cs F' H' ρ', Up G F F' → Sim K G F' H' σ ρ' → CellsB K G F' H' ρ' vs cs → Q cs ρ' → R vs H') → t σ H R
structure PPBs (X : Cx) (es : List Expr) (t : TA) (T : TCs) : Prop where
  pa : PA X es t
  snd : SndBs X.K t T
section
variable {X : Cx} {e : Expr} {es : List Expr} {te : TE} {t : TA} {T : TCs} {Tc : TCp} {pos : Pos}
def pConsB (Tc : TCp) (T : TCs) : TCs := fun ρ Q => Tc ρ fun c ρ1 => T ρ1 fun cs ρ2 => Q (c :: cs) ρ2
theorem ppbs_nil : PPBs X [] tNil pNilC := ⟨pa_nil, fun G F H σ ρ Q R S hT k => k [] [] F H ρ (.refl _ _) S trivial hT⟩
theorem ppbs_cons (h1 : PPC X e te Tc) (h2 : PPBs X es t T) (hs : starEach (e :: es) X.env = (false, eval e X.env) :: starEach es X.env := by rfl) : PPBs X (e :: es) (tCons te t) (pConsB Tc T) := ⟨pa_cons h1.pe h2.pa hs, fun G F H σ ρ Q R S hT k =>
  h1.snd G F H σ ρ _ _ S hT fun v c F1 H1 ρ1 u1 S1 q1 => by
    have hc := S1.lastB
    refine h2.snd _ F1 H1 σ ρ1 _ _ (S1.drop.guardB hc) q1 fun vs cs F2 H2 ρ2 u2 S2 o2 q2 => ?_
    have hc2 := hc.kept u2 S2
    refine k (v :: vs) (c :: cs) F2 H2 ρ2 (u1.trans (u2.less hc.same)) (S2.unguardB hc.same) ⟨hc2, o2.less hc.same, fun p m c' m' z => ?_⟩ q2
    have h0 := o2.foot c' m' p z
    rw [guardF_in m] at h0
    obtain ⟨o, ho, _⟩ := hc.live m
    rw [h0] at ho; cases ho⟩
end
end Pl
namespace Pl
open PySem PySem.Spec PyProof.Rows L2
def Cell.root : Cell → Addr
  | .val _ => 0
  | .own p _ => p
  | .box s => s.root
def CellF (K : PySem.W.Frag) (G F H : Hp) (v : V) (c : Cell) : Prop := (match c with
  | .val d => Rep K F v d
  | .own p xs => v = .ref p ∧ ∃ us, H p = some (.lst us) ∧ Reps K F us xs
  | .box s => v = .ref s.root ∧ s.At K F H) ∧ ∀ p ∈ c.foot, F p = none ∧ G p = none
section
variable {K : PySem.W.Frag} {G G' F F' H H' : Hp} {σ σ' : L2.St} {ρ ρ' : Ro} {v : V} {c c' : Cell} {i j : Nat}
theorem CellF.live (h : CellF K G F H v c) {p : Addr} (m : p ∈ c.foot) : ∃ o, H p = some o ∧ Mut o := by
  cases c with
  | val d => exact absurd m List.not_mem_nil
  | own q xs =>
    obtain ⟨⟨_, us, h1, _⟩, _⟩ := h
    rw [List.mem_singleton.mp m]
    exact ⟨_, h1, trivial⟩
  | box s => exact h.1.2.mut m
theorem CellF.to (h : CellF K G F H v c) (hs : Same F F') (hp : ∀ p ∈ c.foot, F' p = none ∧ G' p = none ∧ H' p = H p) : CellF K G' F' H' v c := by
  refine ⟨?_, fun p m => ⟨(hp p m).1, (hp p m).2.1⟩⟩
  cases c with
  | val d => exact h.1.mono hs
  | own q xs =>
    obtain ⟨⟨h0, us, h1, h2⟩, _⟩ := h
    exact ⟨h0, us, by rw [(hp q (List.mem_singleton.mpr rfl)).2.2]; exact h1, h2.mono hs⟩
  | box s => exact ⟨h.1.1, h.1.2.mono hs fun p m => (hp p m).2.2⟩
end
section
variable [TJ] {K : PySem.W.Frag} {G G' F F' H H' : Hp} {σ σ' : L2.St} {ρ ρ' : Ro} {v : V} {c c' : Cell} {i j : Nat}
theorem Sim.cell (S : Sim K G F H σ ρ) (e : ρ[i]? = some (some c)) : ∃ v, σ[i]? = some (some v) ∧ CellF K G F H v c := by
  cases c with
  | val d =>
    obtain ⟨v, h1, h2⟩ := S.val i d e
    exact ⟨v, h1, h2, fun p m => absurd m List.not_mem_nil⟩
  | own p xs =>
    obtain ⟨h1, h2, h3, us, h4, h5⟩ := S.own i p xs e
    exact ⟨_, h1, ⟨rfl, us, h4, h5⟩, fun q m => by rw [List.mem_singleton.mp m]; exact ⟨h2, h3⟩⟩
  | box s =>
    obtain ⟨h1, h2, h3⟩ := S.bx.box i s e
    exact ⟨_, h1, ⟨rfl, h3⟩, h2⟩
theorem Sim.apart (S : Sim K G F H σ ρ) (e1 : ρ[i]? = some (some c)) (e2 : ρ[j]? = some (some c')) {p : Addr} (m1 : p ∈ c.foot) (m2 : p ∈ c'.foot) : i = j := by
  cases c with
  | val d => exact absurd m1 List.not_mem_nil
  | own q xs =>
    cases List.mem_singleton.mp m1
    cases c' with
    | val d => exact absurd m2 List.not_mem_nil
    | own q' ys =>
      cases List.mem_singleton.mp m2
      exact S.ne _ _ _ _ _ e1 e2
    | box s => exact absurd ⟨j, s, e2, m2⟩ (S.bx.bo i _ xs e1)
  | box s =>
    cases c' with
    | val d => exact absurd m2 List.not_mem_nil
    | own q' ys =>
      cases List.mem_singleton.mp m2
      exact absurd ⟨i, s, e1, m1⟩ (S.bx.bo j _ ys e2)
    | box t => exact S.bx.bb i j s t p e1 e2 m1 m2
theorem Sim.of (hF : Same F H) (hG : SameJ G F H) (len : σ.length = ρ.length) (cell : ∀ (i : Nat) (c : Cell), ρ[i]? = some (some c) → ∃ v, σ[i]? = some (some v) ∧ CellF K G F H v c)
    (ap : ∀ (i j : Nat) (c c' : Cell) (p : Addr), ρ[i]? = some (some c) → ρ[j]? = some (some c') → p ∈ c.foot → p ∈ c'.foot → i = j) : Sim K G F H σ ρ := by
  refine ⟨hF, hG, len, fun i d e => ?_, fun i a xs e => ?_, fun i j a xs ys e1 e2 => ap i j _ _ a e1 e2 (List.mem_singleton.mpr rfl) (List.mem_singleton.mpr rfl), fun i s e => ?_, fun i j s t p e1 e2 m1 m2 => ap i j _ _ p e1 e2 m1 m2, fun j a xs e ⟨i, s, e2, m⟩ => ?_⟩
  · obtain ⟨v, h1, h2, _⟩ := cell i _ e
    exact ⟨v, h1, h2⟩
  · obtain ⟨v, h1, ⟨h2, us, h3, h4⟩, h5⟩ := cell i _ e
    subst h2
    exact ⟨h1, (h5 a (List.mem_singleton.mpr rfl)).1, (h5 a (List.mem_singleton.mpr rfl)).2, us, h3, h4⟩
  · obtain ⟨v, h1, ⟨h2, h3⟩, h5⟩ := cell i _ e
    subst h2
    exact ⟨h1, h5, h3⟩
  · have := ap i j _ _ a e2 e m (List.mem_singleton.mpr rfl)
    subst this
    rw [e] at e2; cases e2
end
section
variable {K : PySem.W.Frag} {G F H : Hp} {σ : L2.St} {ρ : Ro} {c c' : Cell} {i j : Nat}
theorem SimR.cell (S : SimR K G F H σ ρ) (e : ρ[i]? = some (some c)) : ∃ v, σ[i]? = some (some v) ∧ CellF K G F H v c := @Sim.cell tj0 _ _ _ _ _ _ _ _ (@SimR.sim _ _ _ _ _ _ S) e
theorem SimR.apart (S : SimR K G F H σ ρ) (e1 : ρ[i]? = some (some c)) (e2 : ρ[j]? = some (some c')) {p : Addr} (m1 : p ∈ c.foot) (m2 : p ∈ c'.foot) : i = j := @Sim.apart tj0 _ _ _ _ _ _ _ _ _ _ (@SimR.sim _ _ _ _ _ _ S) e1 e2 _ m1 m2
theorem SimR.of (hF : Same F H) (hG : Same G H) (len : σ.length = ρ.length) (cell : ∀ (i : Nat) (c : Cell), ρ[i]? = some (some c) → ∃ v, σ[i]? = some (some v) ∧ CellF K G F H v c)
    (ap : ∀ (i j : Nat) (c c' : Cell) (p : Addr), ρ[i]? = some (some c) → ρ[j]? = some (some c') → p ∈ c.foot → p ∈ c'.foot → i = j) : SimR K G F H σ ρ :=
  @Sim.raw tj0 _ _ _ _ _ _ (@Sim.of tj0 _ _ _ _ _ _ hF (SameJ.of hG) len cell ap)
end
inductive NamesAt (X : Cx) : List Nat → List Expr → Prop where
  | nil : NamesAt X [] []
  | cons {i : Nat} {y : Str} {py : Pos} {is : List Nat} {es : List Expr} (hN : X.N[i]? = some y) (hv : Vis X.env.scope y) (hd : (y == ("__debug__" : Str)) = false) (hcd : (y == ("__classdict__" : Str)) = false) (r : NamesAt X is es) : NamesAt X (i :: is) (.Name y py :: es)
def tVars : List Nat → TA → TA
  | [], t => t
  | i :: is, t => tCons (tVar i) (tVars is t)
section
variable [TJ] {X : Cx} {k : Nat} {f : Addr} {fd : FuncData} {ps : List Str} {x : Str} {p pos : Pos} {ns es : List Expr} {t : TA} {T : TAp} {n : Nat} {is : List Nat}
theorem NamesAt.pa (h : NamesAt X is ns) (ha : PA X es t) (he : ∀ (y : Str) (py : Pos) (l : List Expr), starEach (.Name y py :: l) X.env = (false, eval (.Name y py) X.env) :: starEach l X.env) : PA X (ns ++ es) (tVars is t) := by
  induction h with
  | nil => exact ha
  | cons hN hv hd hcd r ih => exact pa_cons (pe_var hN hv hd hcd) ih (he _ _ _)
end
end Pl
namespace Pl
open PySem PySem.Spec PyProof.Rows L2 LamX
abbrev NFn := NdefX.NF
end Pl
namespace Pl
open PySem PySem.Spec PyProof.Rows L2 LamX
theorem code_noDic {c : Addr} {q : Str} : ¬ Mut (CodeO c q) := fun ⟨a, z⟩ => by
  let ob : Obj := ⟨.none, none, .fields #[.none, .str q 0], #[]⟩
  let h : Heap := ⟨Array.replicate (c + 1) ob, {}⟩
  have get : ∀ b o, h.get? b = some o → o = ob := fun b o e => by
    unfold Heap.get? at e
    by_cases hb : b < c + 1
    · have : h.objs[b]? = some ob := by show (Array.replicate (c + 1) ob)[b]? = some ob; rw [Array.getElem?_replicate, if_pos hb]
      rw [this] at e
      exact (Option.some.inj e).symm
    · have : h.objs[b]? = none := by show (Array.replicate (c + 1) ob)[b]? = none; rw [Array.getElem?_replicate, if_neg hb]
      rw [this] at e; cases e
  have at' : h.get? c = some ob := by
    unfold Heap.get?
    have : h.objs[c]? = some ob := by show (Array.replicate (c + 1) ob)[c]? = some ob; rw [Array.getElem?_replicate, if_pos (Nat.lt_succ_self c)]
    rw [this]
  obtain ⟨o, es, ep, h1, h2⟩ := z h ⟨ob, #[.none, .str q 0], 0, at', rfl, rfl⟩
  rw [get a o h1] at h2
  cases h2
@[reducible] def tjTab (T : List NdefX.NTab) : TJ where
  J := fun G F H => (∀ p ∈ T, F p.1 = none ∧ G p.1 = none) ∧ NdefX.TabsN T H
  step := fun {G F F' H H'} ⟨h1, h2⟩ e f => by
    have tb : ∀ p ∈ T, ∃ ps, H p.1 = some (.tbl ps) := fun p hp => by
      obtain ⟨ps, q, _⟩ := h2 p hp
      exact ⟨ps, q⟩
    refine ⟨fun p hp => ⟨?_, (h1 p hp).2⟩, fun p hp => ?_⟩
    · cases q : F' p.1 with
      | none => rfl
      | some o =>
        obtain ⟨ps, hP⟩ := tb p hp
        rcases f p.1 o q with z | z | ⟨vs, z, m⟩
        · rw [(h1 p hp).1] at z; cases z
        · rw [hP] at z; cases z
        · rw [hP] at z; cases z; exact m.elim
    · obtain ⟨ps, g1, g2, g3⟩ := h2 p hp
      refine ⟨ps, e _ _ g1 (fun z => z), g2, fun at2 cv z => ?_⟩
      obtain ⟨c, y1, y2⟩ := g3 at2 cv z
      exact ⟨c, y1, e _ _ y2 code_noDic⟩
  frame := fun {G G' F H} ⟨h1, h2⟩ f => ⟨fun p hp => ⟨(h1 p hp).1, by
    cases q : G' p.1 with
    | none => rfl
    | some o =>
      obtain ⟨ps, hP, _⟩ := h2 p hp
      rcases f p.1 o q with z | ⟨vs, z, m⟩
      · rw [(h1 p hp).2] at z; cases z
      · rw [hP] at z; cases z; exact m.elim⟩, h2⟩
def noT (T : List NdefX.NTab) (H : Hp) : Hp := fun b => if b ∈ T.map (·.1) then none else H b
theorem noT_get {T : List NdefX.NTab} {H : Hp} {b : Addr} {o : HO} (hT : NdefX.TabsN T H) (e : H b = some o) (n : ∀ ps, o ≠ .tbl ps) : noT T H b = some o := by
  unfold noT
  rw [if_neg fun z => ?_]
  · exact e
  · obtain ⟨p, hp, rfl⟩ := List.mem_map.mp z
    obtain ⟨ps, q, _⟩ := hT p hp
    rw [q] at e
    exact n ps (Option.some.inj e).symm
section
variable {T : List NdefX.NTab} {K : PySem.W.Frag} {G F H F' H' : Hp} {σ : L2.St} {ρ : Ro} {v : V} {c : Cell}
theorem Sim.tabs (S : @Sim (tjTab T) K G F H σ ρ) : (∀ p ∈ T, F p.1 = none ∧ G p.1 = none) ∧ NdefX.TabsN T H := (@SameJ.tj (tjTab T) _ _ _ (@Sim.hG (tjTab T) _ _ _ _ _ _ S))
theorem Sim.boxT (S : @Sim (tjTab T) K G F H σ ρ) {p : Addr} (m : InBox ρ p) : ∃ o, H p = some o ∧ noT T H p = some o := by
  letI : TJ := tjTab T
  obtain ⟨o, e, mo⟩ := S.bx.mut m
  exact ⟨o, e, noT_get S.tabs.2 e fun ps z => by subst z; exact mo⟩
theorem Sim.freshT (S : @Sim (tjTab T) K G F H σ ρ) {a : Addr} (h : noT T H a = none) : NotOwn ρ a := ⟨fun i ys e => (by
  letI : TJ := tjTab T
  obtain ⟨_, _, _, vs', h4', _⟩ := S.own i a ys e
  rw [noT_get S.tabs.2 h4' fun ps z => by cases z] at h; cases h), fun m => (by
  obtain ⟨o, _, e⟩ := S.boxT m
  rw [e] at h; cases h)⟩
end
end Pl
namespace PySem
open Sem (wp)
abbrev LsAt (h : Heap) (a : Addr) (its : Array Value) : Prop := ∃ c, IsL h a its c
end PySem
namespace L2
open PySem PySem.W PySem.Calls PyProof.Rows PySem.Spec
def AllL (H : Hp) : List Addr → List (List V) → Prop
  | [], [] => True
  | b :: bs, w :: ws => H b = some (.lst w) ∧ AllL H bs ws
  | _, _ => False
theorem ObjOk.obj {P : Program} {w : World} {H : Hp} {h : Heap} {a : Addr} {o : HO} (x : ObjOk P w H h a o) : ∃ u, h.get? a = some u := by
  cases o with
  | lst xs => obtain ⟨_, _, _, _, e⟩ := x; exact ⟨_, e⟩
  | tup xs => obtain ⟨_, _, _, p⟩ := x; obtain ⟨o, e, _⟩ := p; exact ⟨_, e⟩
  | dK kvs => obtain ⟨_, _, _, _, o, _, _, e, _⟩ := x; exact ⟨_, e⟩
  | dT kvs => obtain ⟨_, _, _, _, o, _, _, e, _⟩ := x; exact ⟨_, e⟩
  | set S n => obtain ⟨o, _, _, _, e, _⟩ := x; exact ⟨_, e⟩
  | ins C dx fs => obtain ⟨_, _, _, e, _⟩ := x; exact ⟨_, e⟩
  | own y => exact x
  | xd fs => obtain ⟨_, ⟨_, _, _, e, _⟩, _⟩ := x; exact ⟨_, e⟩
  | rng lo hi => obtain ⟨_, _, _, e⟩ := x; exact ⟨_, e⟩
  | frz ob u => obtain ⟨e, _⟩ := x; exact ⟨_, e⟩
  | tbl ps => exact ⟨_, show h.get? a = some _ from x⟩
  | met f y => exact ⟨_, show h.get? a = some _ from x⟩
  | ext φ => obtain ⟨_, ⟨_, e⟩, _⟩ := x; exact ⟨_, e⟩
section
variable {X : Cx} {pins : List (Addr × Obj)} {σ : St} {H : Hp} {s : Shared}
theorem Inv.lists (I : Inv X pins σ H s) : ∀ {bs : List Addr} {ws : List (List V)}, AllL H bs ws → ∃ ts : List (List Value), ts.length = bs.length ∧ Vals ws.flatten ts.flatten ∧ ∀ (j : Nat) (x : List Value), ts[j]? = some x → ∃ b, bs[j]? = some b ∧ LsAt s.heap b x.toArray
  | [], [], _ => ⟨[], rfl, .nil, fun j x h => by simp at h⟩
  | b :: bs, w :: ws, h => by
    obtain ⟨ts, h1, h2, h3⟩ := Inv.lists I h.2
    obtain ⟨_, its, n, r, _, e⟩ := I.lstM h.1
    refine ⟨its :: ts, by simp [h1], by rw [List.flatten_cons, List.flatten_cons]; exact r.append h2, fun j x hx => ?_⟩
    cases j with
    | zero => simp at hx; subst hx; exact ⟨b, rfl, n, e⟩
    | succ j => obtain ⟨b', q1, q2⟩ := h3 j x (by simpa using hx); exact ⟨b', by simpa using q1, q2⟩
  | [], _ :: _, h => h.elim
  | _ :: _, [], h => h.elim
end
end L2
namespace Pl
open PySem PySem.Spec PyProof.Rows L2
variable [TJ]
section
variable {X : Cx} {a : Expr} {ta : TE} {Ta : TEp} {pos p kp : Pos}
def lsOf : List D → Option (List (List D))
  | [] => some []
  | .lst xs :: r => (lsOf r).map fun l => xs :: l
  | _ :: _ => none
omit [TJ] in
theorem Reps.lists {K : PySem.W.Frag} {F H : Hp} (hs : Same F H) : ∀ {vs : List V} {ds : List D} {l : List (List D)}, Reps K F vs ds → lsOf ds = some l → ∃ (bs : List Addr) (ws : List (List V)), vs = bs.map V.ref ∧ AllL H bs ws ∧ Reps K F ws.flatten l.flatten ∧ ws.flatten.length = l.flatten.length ∧ (bs = [] ↔ l = [])
  | [], [], l, _, h => by cases h; exact ⟨[], [], rfl, trivial, .nil, rfl, by simp⟩
  | v :: vs, d :: ds, l, r, h => by
    cases r with
    | cons r1 r2 =>
      cases r1 with
      | @lst b us xs e s =>
        unfold lsOf at h
        cases e2 : lsOf ds with
        | none => rw [e2] at h; cases h
        | some l2 =>
          rw [e2] at h
          cases h
          obtain ⟨bs, ws, h1, h2, h3, h4, h5⟩ := Reps.lists hs r2 e2
          exact ⟨b :: bs, us :: ws, by rw [h1]; rfl, ⟨hs _ _ e, h2⟩, by rw [List.flatten_cons, List.flatten_cons]; exact s.append h3, by rw [List.flatten_cons, List.flatten_cons, List.length_append, List.length_append, s.length, h4], by simp⟩
      | _ => cases h
  | [], _ :: _, _, r, _ => by cases r
  | _ :: _, [], _, r, _ => by cases r
end
end Pl
namespace Pl
open PySem PySem.Spec PyProof.Rows L2
section
variable {α β : Type} {vs vs1 : List Nat} {g g1 : TGp} {tt1 : TTp} {Ti1 : TAp} {te : TEp} {ρ : Ro}
theorem lc2In_fl {Kn : List D → Ro → Prop} : ∀ (ys : List β) (d f : β → D) (p : β → Bool) (acc : List D), (∀ y ∈ ys, ElemIf vs1 g1 tt1 te ρ (d y) (p y) (f y)) → acc.length + ys.length ≤ sizeLine → Kn (acc ++ (ys.filter p).map f) ρ → lc2In vs1 g1 tt1 te Kn (ys.map d) acc ρ
  | [], d, f, p, acc, _, _, hQ => by
    have hQ : Kn (acc ++ []) ρ := hQ
    rw [List.append_nil] at hQ
    exact hQ
  | y :: ys, d, f, p, acc, h, hl, hQ => by
    have hl' : acc.length + (ys.length + 1) ≤ sizeLine := hl
    refine h y (by simp) _ fun ρ3 e3 ht => ?_
    cases hp : p y with
    | true =>
      refine ite_ti (ht hp _ fun ρ4 e4 => ⟨by omega, ?_⟩)
      rw [e4]
      refine lc2In_fl ys d f p _ (fun z hz => h z (by simp [hz])) (by rw [List.length_append]; show acc.length + 1 + ys.length ≤ sizeLine; omega) ?_
      rw [List.filter_cons_of_pos hp] at hQ
      rw [List.append_assoc]
      exact hQ
    | false =>
      refine ite_fi ?_
      rw [e3]
      refine lc2In_fl ys d f p _ (fun z hz => h z (by simp [hz])) (by omega) ?_
      rw [List.filter_cons_of_neg (by rw [hp]; decide)] at hQ
      exact hQ
theorem lc2_fm {Q : List D → Ro → Prop} : ∀ (xs : List α) (d : α → D) (F : α → List D) (acc : List D), (∀ x ∈ xs, ∀ (acc : List D) (Kn : List D → Ro → Prop), acc.length + (F x).length ≤ 1000 → (∀ ρ5, restore ρ ρ5 vs = ρ → Kn (acc ++ F x) ρ5) → g (d x) (wipeP ρ vs) fun ρ2 => Ti1 ρ2 fun ds1 ρ4 => lc2In vs1 g1 tt1 te Kn ds1 acc ρ4) →
    acc.length + (xs.flatMap F).length ≤ 1000 → Q (acc ++ xs.flatMap F) ρ → lc2W vs g pYes Ti1 vs1 g1 tt1 te Q (xs.map d) acc ρ
  | [], d, F, acc, _, _, hQ => by
    have hQ : Q (acc ++ []) ρ := hQ
    rw [List.append_nil] at hQ
    exact hQ
  | x :: xs, d, F, acc, h, hl, hQ => by
    rw [List.flatMap_cons, List.length_append] at hl
    rw [List.flatMap_cons, ← List.append_assoc] at hQ
    refine h x (by simp) acc _ (by omega) fun ρ5 e => ?_
    rw [e]
    exact lc2_fm xs d F _ (fun z hz => h z (by simp [hz])) (by rw [List.length_append]; omega) hQ
end
end Pl
namespace Pl
open PySem PySem.Spec PyProof.Rows L2
theorem Reps.zip {K : PySem.W.Frag} {F : Hp} : ∀ {vs : List V} {ds : List D}, Reps K F vs ds → (vs.zip ds).map Prod.fst = vs ∧ (vs.zip ds).map Prod.snd = ds ∧ ∀ p ∈ vs.zip ds, Rep K F p.1 p.2
  | _, _, .nil => ⟨rfl, rfl, fun p h => by cases h⟩
  | _, _, .cons h t => by
    obtain ⟨h1, h2, h3⟩ := Reps.zip t
    refine ⟨by rw [List.zip_cons_cons, List.map_cons, h1], by rw [List.zip_cons_cons, List.map_cons, h2], fun p hp => ?_⟩
    rw [List.zip_cons_cons] at hp
    rcases List.mem_cons.mp hp with rfl | hp
    · exact h
    · exact h3 p hp
end Pl
namespace Pl
open PySem PySem.Spec PyProof.Rows L2
section
variable [TJ]
structure Ns (K : PySem.W.Frag) (G F H : Hp) (ρ : Ro) (q : Addr) (es : List (Addr × List D)) : Prop where
  nf : F q = none
  ng : G q = none
  no : NotOwn ρ q
  hq : H q = some (.lst (es.map fun e => V.ref e.1))
  el : ∀ e ∈ es, NEl K G F H ρ e.1 e.2
  nd : (q :: es.map (·.1)).Nodup
abbrev TNp := Ro → (List (List D) → Ro → Prop) → Prop
section
variable {K : PySem.W.Frag} {G F H F1 H1 : Hp} {σ : L2.St} {ρ ρ1 : Ro} {i : Nat} {q : Addr} {es : List (Addr × List D)}
theorem Nst.ns (N : Nst K G F H σ ρ i q es) : Ns K G F H ρ q es := ⟨N.nf, N.ng, N.no, N.hq, N.el, N.nd⟩
theorem Ns.free (N : Ns K G F H ρ q es) {b : Addr} (h : b ∈ adrs q es) : F b = none ∧ G b = none ∧ NotOwn ρ b ∧ ∃ us, H b = some (.lst us) := by
  rcases List.mem_cons.mp h with e | h
  · subst e; exact ⟨N.nf, N.ng, N.no, _, N.hq⟩
  · obtain ⟨e, he, rfl⟩ := List.mem_map.mp h
    obtain ⟨h1, h2, h3, us, h4, _⟩ := N.el e he
    exact ⟨h1, h2, h3, us, h4⟩
theorem Ns.same {A : Hp} (N : Ns K G F H ρ q es) (h : ∀ b ∈ adrs q es, A b = none) : Same A (plusG A H (adrs q es)) := fun b o e => by
  rw [plus_out fun z => by rw [h b z] at e; cases e]; exact e
theorem Ns.guard (S : Sim K G F H σ ρ) (N : Ns K G F H ρ q es) : Sim K (plusG G H (adrs q es)) F H σ ρ :=
  ⟨S.hF, ⟨fun b o e => by
    by_cases h : b ∈ adrs q es
    · rw [plus_in h] at e; exact e
    · rw [plus_out h] at e; exact S.hG b o e, TJ.frame S.hG.tj fun b o e => by
    by_cases h : b ∈ adrs q es
    · obtain ⟨_, _, _, us, h4⟩ := N.free h
      exact .inr ⟨_, h4, trivial⟩
    · rw [plus_out h] at e; exact .inl e⟩, S.len, S.val, fun j a xs e => by
    obtain ⟨h1, h2, h3, h4⟩ := S.own j a xs e
    exact ⟨h1, h2, by rw [plus_out fun z => (N.free z).2.2.1.1 j xs e]; exact h3, h4⟩, S.ne, S.bx.heap (.refl _) fun p m => ⟨(S.bx.free m).1, by rw [plus_out fun z => (N.free z).2.2.1.2 m]; exact (S.bx.free m).2.1, rfl⟩⟩
theorem Ns.back {σ1 : L2.St} (N : Ns K G F H ρ q es) (u : Up (plusG G H (adrs q es)) F F1) (S1 : Sim K (plusG G H (adrs q es)) F1 H1 σ1 ρ1) : Up G F F1 ∧ Sim K G F1 H1 σ1 ρ1 ∧ Ns K G F1 H1 ρ1 q es := by
  have sm : Same G (plusG G H (adrs q es)) := N.same fun b h => (N.free h).2.1
  have hH : ∀ b ∈ adrs q es, H1 b = H b := fun b h => by
    obtain ⟨_, _, _, us, h4⟩ := N.free h
    rw [h4]; exact S1.hG b _ (by rw [plus_in h]; exact h4)
  have hF1 : ∀ b ∈ adrs q es, F1 b = none := fun b h => by
    obtain ⟨h1, _, _, us, h4⟩ := N.free h
    exact u.isNone h1 (by rw [plus_in h]; exact h4)
  have hn : ∀ b ∈ adrs q es, NotOwn ρ1 b := fun b h => by
    obtain ⟨_, _, _, us, h4⟩ := N.free h
    exact ⟨fun j ys e => (by
      have := (S1.own j b ys e).2.2.1
      rw [plus_in h, h4] at this; cases this), S1.bx.notG (by rw [plus_in h]; exact h4)⟩
  have mq : q ∈ adrs q es := by simp
  have me : ∀ e ∈ es, e.1 ∈ adrs q es := fun e he => List.mem_cons_of_mem _ (List.mem_map.mpr ⟨e, he, rfl⟩)
  refine ⟨u.less sm, ⟨S1.hF, S1.hG.less sm, S1.len, S1.val, fun j a xs e => ?_, S1.ne, S1.bx.unguard sm⟩, ⟨hF1 q mq, N.ng, hn q mq, by rw [hH q mq]; exact N.hq, fun e he => ?_, N.nd⟩⟩
  · obtain ⟨h1, h2, h3, h4⟩ := S1.own j a xs e
    exact ⟨h1, h2, sm.free h3, h4⟩
  · obtain ⟨h1, h2, h3, us, h4, h5⟩ := N.el e he
    exact ⟨hF1 _ (me e he), h2, hn _ (me e he), us, by rw [hH _ (me e he)]; exact h4, h5.mono u.ex⟩
theorem Ns.slots (N : Ns K G F H ρ q es) (h : ∀ b ∈ adrs q es, NotOwn ρ b → NotOwn ρ1 b) : Ns K G F H ρ1 q es :=
  ⟨N.nf, N.ng, h q (by simp) N.no, N.hq, fun e he => by
    obtain ⟨h1, h2, h3, h4⟩ := N.el e he
    exact ⟨h1, h2, h _ (List.mem_cons_of_mem _ (List.mem_map.mpr ⟨e, he, rfl⟩)) h3, h4⟩, N.nd⟩
theorem Ns.push (N : Ns K G F H ρ q es) {a : Addr} {xs : List D} (h : NEl K G F H ρ a xs) (hn : a ∉ adrs q es) : Ns K G F (upd H q (.lst ((es ++ [(a, xs)]).map fun e => V.ref e.1))) ρ q (es ++ [(a, xs)]) := by
  refine ⟨N.nf, N.ng, N.no, upd_same, fun e he => ?_, ?_⟩
  · have ne : e.1 ≠ q := fun z => by
      rcases List.mem_append.mp he with he | he
      · exact (List.nodup_cons.mp N.nd).1 (z ▸ List.mem_map.mpr ⟨e, he, rfl⟩)
      · rw [List.mem_singleton.mp he] at z; exact hn (z ▸ List.mem_cons_self)
    have hh : NEl K G F H ρ e.1 e.2 := by
      rcases List.mem_append.mp he with he | he
      · exact N.el e he
      · rw [List.mem_singleton.mp he]; exact h
    obtain ⟨h1, h2, h3, us, h4, h5⟩ := hh
    exact ⟨h1, h2, h3, us, by rw [upd_ne ne]; exact h4, h5⟩
  · rw [List.map_append]
    show (q :: (es.map (·.1) ++ [a])).Nodup
    have : (q :: (es.map (·.1) ++ [a])) = (q :: es.map (·.1)) ++ [a] := rfl
    rw [this]
    refine List.nodup_append.mpr ⟨N.nd, by simp, fun x hx y hy z => ?_⟩
    rw [List.mem_singleton.mp hy] at z
    exact hn (z ▸ hx)
theorem Ns.look (S : Sim K G F H σ ρ) (N : Ns K G F H ρ q es) : ∃ A : Hp, Same A H ∧ ∀ e ∈ es, Rep K A (.ref e.1) (.lst e.2) := by
  have sm : Same F (plusG F H (adrs q es)) := N.same fun b h => (N.free h).1
  refine ⟨plusG F H (adrs q es), fun b o e => ?_, fun e he => ?_⟩
  · by_cases h : b ∈ adrs q es
    · rw [plus_in h] at e; exact e
    · rw [plus_out h] at e; exact S.hF b o e
  · obtain ⟨h1, h2, h3, us, h4, h5⟩ := N.el e he
    exact .lst (by rw [plus_in (List.mem_cons_of_mem _ (List.mem_map.mpr ⟨e, he, rfl⟩))]; exact h4) (h5.mono sm)
end
end
end Pl
namespace Pl
open PySem PySem.Spec PyProof.Rows L2
abbrev NE := NestedKey × Addr × V
abbrev NT : List NE → List (NestedKey × Addr × Value) → Prop := Paired fun p q => p.1 = q.1 ∧ p.2.1 = q.2.1 ∧ RelV p.2.2 q.2.2
def dnφ (P : Program) (w : World) (a : Addr) (L : List NE) : Heap → Prop := fun h => L.length ≤ sizeLine ∧ (a == sysModules) = false ∧ ∃ xs, NT L xs ∧
  ∃ o es ep, h.get? a = some o ∧ o.ExactDict ∧ o.data = .dict es ep ∧ es.toList = xs.map (entryOfKey (nestedKind P w)) ∧ (xs.map (·.1)).Nodup
def DicNO (P : Program) (w : World) (a : Addr) (L : List NE) : HO := .ext (dnφ P w a L)
theorem dn_mut {P : Program} {w : World} {a : Addr} {L : List NE} : Mut (DicNO P w a L) := ⟨a, fun h ⟨_, _, xs, _, o, es, ep, e, _, d, _⟩ => ⟨o, es, ep, e, d⟩⟩
mutual
inductive NKv (H : Hp) : V → NestedKey → Prop
  | non : NKv H .non .none
  | bl (b : Bool) : NKv H (.bl b) (.num (if b = true then 1 else 0))
  | int (i : Int) : NKv H (.int i) (.num i)
  | str (x : Str) : NKv H (.str x) (.text x)
  | tup {a : Addr} {vs : List V} {ks : List NestedKey} : H a = some (.tup vs) → NKvs H vs ks → NKv H (.ref a) (.tup ks)
inductive NKvs (H : Hp) : List V → List NestedKey → Prop
  | nil : NKvs H [] []
  | cons {v : V} {vs : List V} {k : NestedKey} {ks : List NestedKey} : NKv H v k → NKvs H vs ks → NKvs H (v :: vs) (k :: ks)
end
section
variable {P : Program} {w : World} {H : Hp} {h : Heap}
mutual
theorem NKv.is (ok : HOk P w H h) : ∀ {v : V} {k : NestedKey} {u : Value}, NKv H v k → RelV v u → NestedIs h k u
  | _, _, u, .non, r => by
    have r : u = .none := r
    subst r; exact .none
  | _, _, u, .bl b, r => by
    have r : u = .bool b := r
    subst r; exact .bool rfl
  | _, _, u, .int i, r => by
    obtain ⟨t, r⟩ := (show ∃ t, u = Value.int i t from r)
    subst r; exact .int i t
  | _, _, u, .str x, r => by
    obtain ⟨t, r⟩ := (show ∃ t, u = Value.str x t from r)
    subst r; exact .text x t
  | _, _, u, .tup (a := a) (vs := vs) e q, r => by
    have r : u = .ref a := r
    subst r
    obtain ⟨_, its, rv, o, h1, h2, n, h3⟩ := (show ObjOk P w H h a (.tup vs) from ok a _ e)
    exact .tup h1 h2 h3 (by simpa using NKvs.is ok q rv)
theorem NKvs.is (ok : HOk P w H h) : ∀ {vs : List V} {ks : List NestedKey} {us : List Value}, NKvs H vs ks → Vals vs us → NestedAll h ks us
  | _, _, _, .nil, r => by cases r; exact .nil
  | _, _, _, .cons q t, r => by
    cases r with
    | cons r1 r2 => exact .cons (q.is ok r1) (NKvs.is ok t r2)
end
end
def NKey (H : Hp) (b : Addr) (k : NestedKey) : Prop := NKv H (.ref b) k ∧ k.depth ≤ 8
theorem NKey.is {P : Program} {w : World} {H : Hp} {h : Heap} {b : Addr} {k : NestedKey} (ok : HOk P w H h) (x : NKey H b k) : (nestedKind P w).is h k b := ⟨x.1.is ok rfl, x.2⟩
def lookN (L : List NE) (k : NestedKey) : Option V := (L.find? fun p => decide (p.1 = k)).map (·.2.2)
def putN (L : List NE) (k : NestedKey) (b : Addr) (v : V) : List NE := if (lookN L k).isSome = true then L.map (fun p => if p.1 = k then (p.1, p.2.1, v) else p) else L ++ [(k, b, v)]
theorem NT.val {L : List NE} {xs : List (NestedKey × Addr × Value)} (r : NT L xs) (k : NestedKey) : RelO (lookN L k) ((atKey xs k).map (·.2)) := by
  induction r with
  | nil => exact True.intro
  | @cons p q ps qs h t ih =>
    obtain ⟨h1, _, h2⟩ := h
    by_cases e : p.1 = k
    · have e' : q.1 = k := h1.symm.trans e
      have b : atKey (q :: qs) k = some q.2 := by simp [atKey, List.find?_cons, e']
      have a : lookN (p :: ps) k = some p.2.2 := by simp [lookN, List.find?_cons, e]
      rw [a, b]; exact h2
    · have e' : ¬ q.1 = k := fun z => e (h1.trans z)
      have b : atKey (q :: qs) k = atKey qs k := by simp [atKey, List.find?_cons, e']
      have a : lookN (p :: ps) k = lookN ps k := by simp [lookN, List.find?_cons, e]
      rw [a, b]; exact ih
theorem NT.repl {L : List NE} {xs : List (NestedKey × Addr × Value)} (r : NT L xs) (k : NestedKey) {y : V} {u : Value} (ry : RelV y u) : NT (L.map fun p => if p.1 = k then (p.1, p.2.1, y) else p) (xs.map (putAt k u)) := by
  induction r with
  | nil => exact .nil
  | @cons p q ps qs h t ih =>
    rw [List.map_cons, List.map_cons]
    refine .cons ?_ ih
    obtain ⟨h1, h2, h3⟩ := h
    unfold putAt
    by_cases e : p.1 = k
    · rw [if_pos e, if_pos (h1.symm.trans e)]; exact ⟨h1, h2, ry⟩
    · rw [if_neg e, if_neg (fun z => e (h1.trans z))]; exact ⟨h1, h2, h3⟩
theorem NT.put {L : List NE} {xs : List (NestedKey × Addr × Value)} (r : NT L xs) (k : NestedKey) {b : Addr} {y : V} {u : Value} (ry : RelV y u) : NT (putN L k b y) (storedH xs k b u) := by
  have e : (lookN L k).isSome = (atKey xs k).isSome := by rw [(r.val k).isSome_eq, Option.isSome_map]
  unfold putN storedH
  rw [e]
  by_cases q : (atKey xs k).isSome = true
  · rw [if_pos q, if_pos q]; exact r.repl k ry
  · rw [if_neg q, if_neg q]; exact Paired.snoc r ⟨rfl, rfl, ry⟩
theorem NT.len {L : List NE} {xs : List (NestedKey × Addr × Value)} (r : NT L xs) : L.length = xs.length := Paired.length r
theorem NT.adrs {L : List NE} {xs : List (NestedKey × Addr × Value)} (r : NT L xs) : L.map (·.2.1) = xs.map (·.2.1) := by
  induction r with
  | nil => rfl
  | cons h t ih => rw [List.map_cons, List.map_cons, ih, h.2.1]
end Pl
namespace Pl
open PySem PySem.Spec PyProof.Rows L2
mutual
def keyN : D → Option NestedKey
  | .non => some .none
  | .bl b => some (.num (if b = true then 1 else 0))
  | .int i => some (.num i)
  | .str x => some (.text x)
  | .tup xs => (keyNs xs).map .tup
  | .lst _ => none
  | .scr _ => none
  | .adr _ => none
  | .exc _ _ => none
def keyNs : List D → Option (List NestedKey)
  | [] => some []
  | d :: ds => match keyN d, keyNs ds with
    | some k, some ks => some (k :: ks)
    | _, _ => none
end
section
variable {K : PySem.W.Frag} {F H : Hp}
mutual
theorem key_nk (e : Same F H) : ∀ {d : D} {v : V} {k : NestedKey}, Rep K F v d → keyN d = some k → NKv H v k
  | .non, _, _, r, h => by cases r; rw [keyN] at h; cases h; exact .non
  | .bl b, _, _, r, h => by cases r; rw [keyN] at h; cases h; exact .bl b
  | .int i, _, _, r, h => by cases r; rw [keyN] at h; cases h; exact .int i
  | .str x, _, _, r, h => by cases r; rw [keyN] at h; cases h; exact .str x
  | .tup xs, _, _, r, h => by
    cases r with
    | tup q t =>
      rw [keyN] at h
      obtain ⟨ks, h1, rfl⟩ := Option.map_eq_some_iff.mp h
      exact .tup (e _ _ q) (keys_nk e t h1)
  | .lst xs, _, _, _, h => by rw [keyN] at h; cases h
  | .scr ns, _, _, _, h => by rw [keyN] at h; cases h
  | .adr a, _, _, _, h => by rw [keyN] at h; cases h
  | .exc c y, _, _, _, h => by rw [keyN] at h; cases h
theorem keys_nk (e : Same F H) : ∀ {ds : List D} {vs : List V} {ks : List NestedKey}, Reps K F vs ds → keyNs ds = some ks → NKvs H vs ks
  | [], _, _, r, h => by cases r; rw [keyNs] at h; cases h; exact .nil
  | d :: ds, _, _, r, h => by
    cases r with
    | cons r1 r2 =>
      rw [keyNs] at h
      cases q1 : keyN d with
      | none => rw [q1] at h; cases h
      | some k =>
        cases q2 : keyNs ds with
        | none => rw [q1, q2] at h; cases h
        | some ks =>
          rw [q1, q2] at h
          cases h
          exact .cons (key_nk e r1 q1) (keys_nk e r2 q2)
end
end
def KeyD (d : D) (k : NestedKey) : Prop := (∃ xs, d = .tup xs) ∧ keyN d = some k ∧ k.depth ≤ 8
theorem KeyD.ref {K : PySem.W.Frag} {F : Hp} {v : V} {d : D} {k : NestedKey} (h : KeyD d k) (r : Rep K F v d) : ∃ b, v = .ref b := by
  obtain ⟨⟨xs, rfl⟩, _⟩ := h
  cases r with
  | tup q t => exact ⟨_, rfl⟩
theorem KeyD.key {K : PySem.W.Frag} {F H : Hp} {b : Addr} {d : D} {k : NestedKey} (h : KeyD d k) (e : Same F H) (r : Rep K F (.ref b) d) : NKey H b k := ⟨key_nk e r h.2.1, h.2.2⟩
abbrev Kps := List (NestedKey × D × D)
def DnR (K : PySem.W.Frag) (F : Hp) : List NE → Kps → Prop
  | [], [] => True
  | p :: ps, q :: qs => (p.1 = q.1 ∧ KeyD q.2.1 q.1 ∧ Rep K F (.ref p.2.1) q.2.1 ∧ Rep K F p.2.2 q.2.2) ∧ DnR K F ps qs
  | _, _ => False
theorem DnR.mono {K : PySem.W.Frag} {F F' : Hp} (sm : Same F F') : ∀ {L : List NE} {ps : Kps}, DnR K F L ps → DnR K F' L ps
  | [], [], _ => trivial
  | _ :: _, _ :: _, h => ⟨⟨h.1.1, h.1.2.1, h.1.2.2.1.mono sm, h.1.2.2.2.mono sm⟩, DnR.mono sm h.2⟩
  | [], _ :: _, h => h.elim
  | _ :: _, [], h => h.elim
theorem DnR.len {K : PySem.W.Frag} {F : Hp} : ∀ {L : List NE} {ps : Kps}, DnR K F L ps → L.length = ps.length
  | [], [], _ => rfl
  | _ :: _, _ :: _, h => congrArg (· + 1) (DnR.len h.2)
  | [], _ :: _, h => h.elim
  | _ :: _, [], h => h.elim
def lookK (ps : Kps) (k : NestedKey) : Option D := (ps.find? fun p => decide (p.1 = k)).map (·.2.2)
def putKp (ps : Kps) (k : NestedKey) (x y : D) : Kps := if (lookK ps k).isSome = true then ps.map (fun p => if p.1 = k then (p.1, p.2.1, y) else p) else ps ++ [(k, x, y)]
theorem DnR.look {K : PySem.W.Frag} {F : Hp} (k : NestedKey) : ∀ {L : List NE} {ps : Kps}, DnR K F L ps → (lookN L k = none ∧ lookK ps k = none) ∨ ∃ v y, lookN L k = some v ∧ lookK ps k = some y ∧ Rep K F v y
  | [], [], _ => .inl ⟨rfl, rfl⟩
  | p :: L, q :: ps, h => by
    by_cases e : p.1 = k
    · exact .inr ⟨p.2.2, q.2.2, by simp [lookN, List.find?_cons, e], by simp [lookK, List.find?_cons, h.1.1 ▸ e], h.1.2.2.2⟩
    · have a : lookN (p :: L) k = lookN L k := by simp [lookN, List.find?_cons, e]
      have b : lookK (q :: ps) k = lookK ps k := by simp [lookK, List.find?_cons, h.1.1 ▸ e]
      rw [a, b]
      exact DnR.look k h.2
  | [], _ :: _, h => h.elim
  | _ :: _, [], h => h.elim
theorem DnR.repl {K : PySem.W.Frag} {F : Hp} {k : NestedKey} {v : V} {y : D} (r : Rep K F v y) : ∀ {L : List NE} {ps : Kps}, DnR K F L ps → DnR K F (L.map fun p => if p.1 = k then (p.1, p.2.1, v) else p) (ps.map fun p => if p.1 = k then (p.1, p.2.1, y) else p)
  | [], [], _ => trivial
  | p :: L, q :: ps, h => by
    have t := DnR.repl (k := k) r h.2
    by_cases e : p.1 = k
    · have e2 : q.1 = k := h.1.1 ▸ e
      rw [List.map_cons, List.map_cons, if_pos e, if_pos e2]
      exact ⟨⟨h.1.1, h.1.2.1, h.1.2.2.1, r⟩, t⟩
    · have e2 : ¬ q.1 = k := h.1.1 ▸ e
      rw [List.map_cons, List.map_cons, if_neg e, if_neg e2]
      exact ⟨h.1, t⟩
  | [], _ :: _, h => h.elim
  | _ :: _, [], h => h.elim
theorem DnR.snoc {K : PySem.W.Frag} {F : Hp} {p : NE} {q : NestedKey × D × D} (hp : p.1 = q.1 ∧ KeyD q.2.1 q.1 ∧ Rep K F (.ref p.2.1) q.2.1 ∧ Rep K F p.2.2 q.2.2) : ∀ {L : List NE} {ps : Kps}, DnR K F L ps → DnR K F (L ++ [p]) (ps ++ [q])
  | [], [], _ => ⟨hp, trivial⟩
  | _ :: _, _ :: _, h => ⟨h.1, DnR.snoc hp h.2⟩
  | [], _ :: _, h => h.elim
  | _ :: _, [], h => h.elim
theorem DnR.put {K : PySem.W.Frag} {F : Hp} {L : List NE} {ps : Kps} (h : DnR K F L ps) {k : NestedKey} {b : Addr} {v : V} {x y : D} (hk : KeyD x k) (rx : Rep K F (.ref b) x) (ry : Rep K F v y) : DnR K F (putN L k b v) (putKp ps k x y) := by
  unfold putN putKp
  rcases h.look k with ⟨h1, h2⟩ | ⟨u, z, h1, h2, _⟩
  · rw [h1, h2]
    exact h.snoc ⟨rfl, hk, rx, ry⟩
  · rw [h1, h2]
    exact h.repl ry
def noLp : Kps → Bool
  | [] => true
  | p :: ps => noL p.2.1 && noL p.2.2 && noLp ps
theorem DnR.noDrop {K : PySem.W.Frag} {F F' : Hp} (e : ∀ b xs, F b = some (.tup xs) → F' b = some (.tup xs)) : ∀ {L : List NE} {ps : Kps}, DnR K F L ps → noLp ps = true → DnR K F' L ps
  | [], [], _, _ => trivial
  | _ :: _, q :: ps, h, n => by
    rw [noLp, Bool.and_eq_true, Bool.and_eq_true] at n
    exact ⟨⟨h.1.1, h.1.2.1, Rep.noDrop e h.1.2.2.1 n.1.1, Rep.noDrop e h.1.2.2.2 n.1.2⟩, DnR.noDrop e h.2 n.2⟩
  | [], _ :: _, h, _ => h.elim
  | _ :: _, [], h, _ => h.elim
def dnS (P : Program) (w : World) (a : Addr) (ps : Kps) : GS where
  root := a
  foot := [a]
  at' := fun K F H => ∃ L, H a = some (DicNO P w a L) ∧ DnR K F L ps
  mono := fun ⟨L, h1, h2⟩ sm e => ⟨L, by rw [e a (List.mem_singleton.mpr rfl)]; exact h1, h2.mono sm⟩
  muts := fun ⟨L, h1, _⟩ p m => by rw [List.mem_singleton.mp m]; exact ⟨_, h1, dn_mut⟩
  nl := noLp ps
  drop := fun n _ _ _ _ e ⟨L, h1, h2⟩ => ⟨L, h1, h2.noDrop e n⟩
abbrev nB (P : Program) (w : World) (a : Addr) (ps : Kps) : Option Cell := some (.box (.gen (dnS P w a ps)))
def dnF (P : Program) (w : World) (a : Addr) (ps : Kps) : GS where
  root := a
  foot := []
  at' := fun K F H => ∃ L, F a = some (DicNO P w a L) ∧ DnR K F L ps
  mono := fun ⟨L, h1, h2⟩ sm _ => ⟨L, sm _ _ h1, h2.mono sm⟩
  muts := fun _ p m => by cases m
  nl := false
  drop := fun n => by cases n
abbrev nF (P : Program) (w : World) (a : Addr) (ps : Kps) : Option Cell := some (.box (.gen (dnF P w a ps)))
def IsN (P : Program) (w : World) (a : Addr) (ps : Kps) (c : Option Cell) : Prop := c = nB P w a ps ∨ c = nF P w a ps
theorem IsN.look [TJ] {P : Program} {w : World} {K : PySem.W.Frag} {G F H : Hp} {σ : L2.St} {ρ : Ro} {a : Addr} {ps : Kps} {c : Option Cell} {i : Nat} (S : Sim K G F H σ ρ) (e : ρ[i]? = some c) (h : IsN P w a ps c) : σ[i]? = some (some (.ref a)) ∧ ∃ L, H a = some (DicNO P w a L) ∧ DnR K F L ps := by
  rcases h with rfl | rfl
  · obtain ⟨g1, g2, L, g3, g4⟩ := S.bx.box i _ e
    exact ⟨g1, L, g3, g4⟩
  · obtain ⟨g1, g2, L, g3, g4⟩ := S.bx.box i _ e
    exact ⟨g1, L, S.hF _ _ g3, g4⟩
section
variable [TJ] {X : Cx} {e a b value : Expr} {te tb ta tv : TE} {Te Tb Ta Tv : TEp} {pos : Pos}
theorem DnR.some {K : PySem.W.Frag} {F : Hp} {L : List NE} {ps : Kps} (h : DnR K F L ps) (k : NestedKey) : (lookN L k).isSome = (lookK ps k).isSome := by
  rcases h.look k with ⟨h1, h2⟩ | ⟨u, z, h1, h2, _⟩
  · rw [h1, h2]; rfl
  · rw [h1, h2]; rfl
end
end Pl
namespace Pl
open PySem PySem.Spec PyProof.Rows L2
abbrev It3 := Addr × Addr × Fds
def shI (C : Addr) (t : It3) : Sh := .ins t.1 C t.2.1 t.2.2
def bagS (C a : Addr) (xs : List It3) : GS where
  root := a
  foot := xs.flatMap fun t => (shI C t).foot
  at' := fun K F H => F a = some (.lst (xs.map fun t => V.ref t.1)) ∧ (∀ t ∈ xs, (shI C t).At K F H) ∧ xs.Pairwise fun t u => ∀ p ∈ (shI C t).foot, p ∉ (shI C u).foot
  mono := fun ⟨h1, h2, h3⟩ sm e => ⟨sm _ _ h1, fun t ht => (h2 t ht).mono sm fun p m => e p (List.mem_flatMap.mpr ⟨t, ht, m⟩), h3⟩
  muts := fun ⟨_, h2, _⟩ p m => by
    obtain ⟨t, ht, q⟩ := List.mem_flatMap.mp m
    exact (h2 t ht).mut q
  nl := false
  drop := fun n => by cases n
abbrev nI (C a : Addr) (xs : List It3) : Option Cell := some (.box (.gen (bagS C a xs)))
abbrev adrsI (xs : List It3) : List D := xs.map fun t => D.adr t.1
theorem reps_adr {K : PySem.W.Frag} {F : Hp} : ∀ xs : List It3, Reps K F (xs.map fun t => V.ref t.1) (adrsI xs)
  | [] => .nil
  | t :: xs => .cons (.adr t.1) (reps_adr xs)
section
variable [TJ] {K : PySem.W.Frag} {G F H F' H' : Hp} {σ : L2.St} {ρ : Ro} {v : V} {c : Cell} {i : Nat} {C a dx' : Addr} {l r : List It3} {t : It3} {fs' : Fds}
theorem bag_mem {C : Addr} {l r : List It3} {t : It3} {p : Addr} (m : p ∈ (shI C t).foot) : p ∈ (l ++ t :: r).flatMap fun t => (shI C t).foot := List.mem_flatMap.mpr ⟨t, by simp, m⟩
theorem Sim.afterBag (S : Sim K G F H σ ρ) (e : ρ[i]? = some (nI C a (l ++ t :: r))) (u : Up (hideF H (shI C t).foot) F F') (S' : SimR K (hideF H (shI C t).foot) F' H' [some (.ref t.1), some v] [some (.box (.ins t.1 C dx' fs')), some c]) : Sim K G F' H' (σ ++ [some v]) (ρ.set i (nI C a (l ++ (t.1, dx', fs') :: r)) ++ [some c]) := by
  obtain ⟨h1, h2, f0, f1, f2⟩ := S.bx.box i _ e
  have hi := at_lt e
  have h2 : ∀ p ∈ (l ++ t :: r).flatMap fun t => (shI C t).foot, F p = none ∧ G p = none := h2
  have f0 : F a = some (.lst ((l ++ t :: r).map fun t => V.ref t.1)) := f0
  obtain ⟨_, g2, g3⟩ := S'.bx.box 0 (.ins t.1 C dx' fs') rfl
  have at1 := f1 t (by simp)
  have keep : ∀ {p : Addr} {o : HO}, p ∉ (shI C t).foot → H p = some o → H' p = some o := fun {p o} n q => S'.hG p o (by rw [hideF_ne n]; exact q)
  have newG : ∀ {p : Addr}, hideF H (shI C t).foot p = none → G p = none := fun {p} q => by
    by_cases m : p ∈ (shI C t).foot
    · exact (h2 p (bag_mem m)).2
    · rw [hideF_ne m] at q; exact S.hG.free q
  have still : ∀ {p : Addr} {o : HO}, p ∉ (shI C t).foot → F p = none → H p = some o → F' p = none := fun {p o} n f q => u.isNone f (show hideF H (shI C t).foot p = some o by rw [hideF_ne n]; exact q)
  obtain ⟨pl, pr, px⟩ := List.pairwise_append.mp f2
  obtain ⟨pt, pr⟩ := List.pairwise_cons.mp pr
  have oth : ∀ x, x ∈ l ∨ x ∈ r → ∀ p ∈ (shI C x).foot, p ∉ (shI C t).foot := fun x hx p m z => by
    rcases hx with hx | hx
    · exact px x hx t (by simp) p m z
    · exact pt x hx p z m
  have inB : ∀ x, x ∈ l ∨ x ∈ r → x ∈ l ++ t :: r := fun x hx => by
    rcases hx with hx | hx
    · exact List.mem_append_left _ hx
    · exact List.mem_append_right _ (List.mem_cons_of_mem _ hx)
  have live : ∀ x, x ∈ l ∨ x ∈ r → ∀ p ∈ (shI C x).foot, ∃ o, H p = some o := fun x hx p m => (f1 x (inB x hx)).live m
  have atO : ∀ x, x ∈ l ∨ x ∈ r → (shI C x).At K F' H' := fun x hx => (f1 x (inB x hx)).mono u.ex fun p m => by
    obtain ⟨o, ho⟩ := live x hx p m
    rw [ho]; exact keep (oth x hx p m) ho
  have freshT : ∀ p ∈ (Sh.ins t.1 C dx' fs').foot, p ∈ (shI C t).foot ∨ H p = none := fun p m => by
    have z := (g2 p m).2
    by_cases ms : p ∈ (shI C t).foot
    · exact .inl ms
    · rw [hideF_ne ms] at z; exact .inr z
  have othT : ∀ x, x ∈ l ∨ x ∈ r → ∀ p ∈ (shI C x).foot, p ∉ (Sh.ins t.1 C dx' fs').foot := fun x hx p m z => by
    rcases freshT p z with q | q
    · exact oth x hx p m q
    · obtain ⟨o, ho⟩ := live x hx p m
      rw [q] at ho; cases ho
  have mem' : ∀ x, x ∈ l ++ (t.1, dx', fs') :: r ↔ (x ∈ l ∨ x ∈ r) ∨ x = (t.1, dx', fs') := fun x => by
    rw [List.mem_append, List.mem_cons]
    constructor
    · rintro (h | h | h)
      · exact .inl (.inl h)
      · exact .inr h
      · exact .inl (.inr h)
    · rintro ((h | h) | h)
      · exact .inl h
      · exact .inr (.inr h)
      · exact .inr (.inl h)
  have foot' : ∀ p, p ∈ ((l ++ (t.1, dx', fs') :: r).flatMap fun t => (shI C t).foot) → (∃ x, (x ∈ l ∨ x ∈ r) ∧ p ∈ (shI C x).foot) ∨ p ∈ (Sh.ins t.1 C dx' fs').foot := fun p m => by
    obtain ⟨x, hx, q⟩ := List.mem_flatMap.mp m
    rcases (mem' x).mp hx with h | rfl
    · exact .inl ⟨x, h, q⟩
    · exact .inr q
  have atB : (bagS C a (l ++ (t.1, dx', fs') :: r)).at' K F' H' := by
    refine ⟨?_, fun x hx => ?_, ?_⟩
    · rw [u.ex _ _ f0]
      rw [List.map_append, List.map_cons, List.map_append, List.map_cons]
    · rcases (mem' x).mp hx with h | rfl
      · exact atO x h
      · exact g3
    · refine List.pairwise_append.mpr ⟨pl, List.pairwise_cons.mpr ⟨fun x hx p m z => othT x (.inr hx) p z m, pr⟩, fun x hx y hy p m z => ?_⟩
      rcases List.mem_cons.mp hy with rfl | hy
      · exact othT x (.inl hx) p m z
      · exact px x hx y (List.mem_cons_of_mem _ hy) p m z
  have footB : ∀ p, p ∈ ((l ++ (t.1, dx', fs') :: r).flatMap fun t => (shI C t).foot) → F' p = none ∧ G p = none := fun p m => by
    rcases foot' p m with ⟨x, hx, q⟩ | q
    · obtain ⟨o, ho⟩ := live x hx p q
      have z := h2 p (List.mem_flatMap.mpr ⟨x, inB x hx, q⟩)
      exact ⟨still (oth x hx p q) z.1 ho, z.2⟩
    · exact ⟨(g2 p q).1, newG (g2 p q).2⟩
  have src : ∀ (j : Nat) (x : Cell), (ρ.set i (nI C a (l ++ (t.1, dx', fs') :: r)) ++ [some c])[j]? = some (some x) → (j ≠ i ∧ j < ρ.length ∧ ρ[j]? = some (some x)) ∨ (j = i ∧ x = .box (.gen (bagS C a (l ++ (t.1, dx', fs') :: r)))) ∨ (j = ρ.length ∧ x = c) := fun j x h => by
    rcases Nat.lt_or_ge j ρ.length with z | z
    · rw [List.getElem?_append_left (by simpa using z)] at h
      by_cases hj : i = j
      · subst hj
        rw [List.getElem?_set_self hi] at h
        cases h; exact .inr (.inl ⟨rfl, rfl⟩)
      · rw [List.getElem?_set_ne hj] at h; exact .inl ⟨fun q => hj q.symm, z, h⟩
    · rw [List.getElem?_append_right (by simpa using z), List.length_set] at h
      cases k : j - ρ.length with
      | zero => rw [k] at h; cases h; exact .inr (.inr ⟨by omega, rfl⟩)
      | succ m => rw [k] at h; cases h
  have outOld : ∀ {j : Nat} {x : Cell}, j ≠ i → ρ[j]? = some (some x) → ∀ p ∈ x.foot, p ∉ (l ++ t :: r).flatMap fun t => (shI C t).foot := fun {j x} hj h p m z => hj (S.apart h e m z)
  have outT : ∀ {j : Nat} {x : Cell}, j ≠ i → ρ[j]? = some (some x) → ∀ p ∈ x.foot, p ∉ (shI C t).foot := fun {j x} hj h p m z => outOld hj h p m (bag_mem z)
  obtain ⟨vc, ec, cc⟩ := S'.cell (i := 1) (c := c) rfl
  have ev : vc = v := (Option.some.inj (Option.some.inj ec)).symm
  subst ev
  have ccG : CellF K G F' H' vc c := cc.to (.refl _) fun p m => ⟨(cc.2 p m).1, newG (cc.2 p m).2, rfl⟩
  refine Sim.of S'.hF ⟨fun b o q => ?_, TJ.step S.hG.tj (fun b o q ne => ?_) fun b o q => ?_⟩ ?_ (fun j x h => ?_) (fun j k x y p q1 q2 m1 m2 => ?_)
  · exact keep (fun m => by rw [(h2 b (bag_mem m)).2] at q; cases q) (S.hG b o q)
  · refine keep (fun m => ?_) q
    obtain ⟨o', ho, mo⟩ := at1.mut m
    rw [q] at ho; cases ho
    exact ne mo
  · rcases u.out b o q with z | z
    · exact .inl z
    · by_cases m : b ∈ (shI C t).foot
      · obtain ⟨o', ho, mo⟩ := at1.mut m
        exact .inr (.inr ⟨o', ho, mo⟩)
      · rw [hideF_ne m] at z; exact .inr (.inl z)
  · rw [List.length_append, List.length_append, List.length_set, S.len]; rfl
  · rcases src j x h with ⟨hj, hl, hx⟩ | ⟨rfl, rfl⟩ | ⟨rfl, rfl⟩
    · obtain ⟨w, g1, gc⟩ := S.cell hx
      refine ⟨w, by rw [List.getElem?_append_left (by rw [S.len]; exact hl)]; exact g1, gc.to u.ex fun p m => ?_⟩
      obtain ⟨o, ho, _⟩ := gc.live m
      have n := outT hj hx p m
      exact ⟨still n (gc.2 p m).1 ho, (gc.2 p m).2, by rw [ho]; exact keep n ho⟩
    · exact ⟨.ref a, by rw [List.getElem?_append_left (by rw [S.len]; exact hi)]; exact h1, ⟨rfl, atB⟩, footB⟩
    · exact ⟨vc, by rw [← S.len]; simp, ccG⟩
  ·
    have cFresh : ∀ p ∈ c.foot, p ∈ (shI C t).foot ∨ H p = none := fun p m => by
      have z := (cc.2 p m).2
      by_cases ms : p ∈ (shI C t).foot
      · exact .inl ms
      · rw [hideF_ne ms] at z; exact .inr z
    have cBox : ∀ p ∈ c.foot, p ∉ (Sh.ins t.1 C dx' fs').foot := fun p m z => by
      have := S'.apart (i := 0) (j := 1) (c := .box (.ins t.1 C dx' fs')) (c' := c) rfl rfl z m
      cases this
    have bagNot : ∀ {j : Nat} {x : Cell}, j ≠ i → ρ[j]? = some (some x) → ∀ p ∈ x.foot, p ∉ (l ++ (t.1, dx', fs') :: r).flatMap fun t => (shI C t).foot := fun {j x} hj h p m z => by
      rcases foot' p z with ⟨x', hx', q⟩ | q
      · exact outOld hj h p m (List.mem_flatMap.mpr ⟨x', inB x' hx', q⟩)
      · rcases freshT p q with y | y
        · exact outT hj h p m y
        · obtain ⟨w, _, gc⟩ := S.cell h
          obtain ⟨o, ho, _⟩ := gc.live m
          rw [y] at ho; cases ho
    have cNot : ∀ {j : Nat} {x : Cell}, j ≠ i → ρ[j]? = some (some x) → ∀ p ∈ x.foot, p ∉ c.foot := fun {j x} hj h p m z => by
      rcases cFresh p z with y | y
      · exact outT hj h p m y
      · obtain ⟨w, _, gc⟩ := S.cell h
        obtain ⟨o, ho, _⟩ := gc.live m
        rw [y] at ho; cases ho
    have bagC : ∀ p ∈ c.foot, p ∉ (l ++ (t.1, dx', fs') :: r).flatMap fun t => (shI C t).foot := fun p m z => by
      rcases foot' p z with ⟨x', hx', q⟩ | q
      · rcases cFresh p m with y | y
        · exact oth x' hx' p q y
        · obtain ⟨o, ho⟩ := live x' hx' p q
          rw [y] at ho; cases ho
      · exact cBox p m q
    rcases src j x q1 with ⟨hj, hl, hx⟩ | ⟨rfl, rfl⟩ | ⟨rfl, rfl⟩
    · rcases src k y q2 with ⟨hk, hl2, hy⟩ | ⟨rfl, rfl⟩ | ⟨rfl, rfl⟩
      · exact S.apart hx hy m1 m2
      · exact absurd m2 (bagNot hj hx p m1)
      · exact absurd m2 (cNot hj hx p m1)
    · rcases src k y q2 with ⟨hk, hl2, hy⟩ | ⟨rfl, _⟩ | ⟨rfl, rfl⟩
      · exact absurd m1 (bagNot hk hy p m2)
      · rfl
      · exact absurd m1 (bagC p m2)
    · rcases src k y q2 with ⟨hk, hl2, hy⟩ | ⟨rfl, rfl⟩ | ⟨rfl, _⟩
      · exact absurd m1 (cNot hk hy p m2)
      · exact absurd m2 (bagC p m1)
      · rfl
end
section
variable [TJ] {X : Cx} {k : Nat} {f C : Addr} {fd : FuncData} {ps : List Str} {m x y : Str} {p py apos pos : Pos} {o e : Expr} {es : List Expr} {to : TE} {To : TEp} {t : TA} {T : TAp} {n : Nat}
def pVarI (i : Nat) : TEp := fun ρ Q => ∃ C a xs, ρ[i]? = some (nI C a xs) ∧ Q (.lst (adrsI xs)) ρ
theorem ppe_varI (i : Nat) (hN : X.N[i]? = some x := by rfl) (hv : Vis X.env.scope x := by first | exact Or.inl rfl | exact Or.inr (Or.inl rfl) | exact Or.inr (Or.inr rfl)) (hd : (x == ("__debug__" : Str)) = false := by decide)
    (hcd : (x == ("__classdict__" : Str)) = false := by decide) : PPE X (.Name x pos) (tVar i) (pVarI i) := ⟨pe_var hN hv hd hcd, fun G F H σ ρ Q R S hT k => by
  obtain ⟨C, a, xs, e, hq⟩ := hT
  obtain ⟨h1, h2, f0, f1, f2⟩ := S.bx.box i _ e
  exact ⟨.ref a, h1, k (.ref a) _ F H ρ (.refl _ _) S (.lst f0 (reps_adr xs)) hq⟩⟩
def pCallMI (i : Nat) (C : Addr) (m : Str) (n : Nat) (g : FM) (To : TEp) (T : TAp) : TCp := fun ρ Q => To ρ fun d ρ0 => ∃ a l t r, d = .adr t.1 ∧ ρ0[i]? = some (nI C a (l ++ t :: r)) ∧ t.2.2.lookup m = none ∧
  T ρ0 fun ds ρ1 => ∃ l1 dx fs r1, ρ1[i]? = some (nI C a (l1 ++ (t.1, dx, fs) :: r1)) ∧ ds.length + 1 = n ∧ g fs ds fun c fs2 => Q c (ρ1.set i (nI C a (l1 ++ (t.1, dx, fs2) :: r1)))
theorem call_bag {K : PySem.W.Frag} {C : Addr} {n : Nat} {g : FM} {G F1 H1 : Hp} {σ : L2.St} {ρ1 : Ro} {i : Nat} {a x dx : Addr} {l r : List It3} {fs : Fds} {ws : List V} {ds : List D} {Q : Cell → Ro → Prop} {R : VK} {E : XK} (S1 : Sim K G F1 H1 σ ρ1) (e1 : ρ1[i]? = some (nI C a (l ++ (x, dx, fs) :: r))) (hn : ds.length + 1 = n) (r1 : Reps K F1 ws ds) (hg : g fs ds fun c fs2 => Q c (ρ1.set i (nI C a (l ++ (x, dx, fs2) :: r))))
    (k : ∀ v c F' H' ρ', Up G F1 F' → Sim K G F' H' (σ ++ [some v]) (ρ' ++ [some c]) → Q c ρ' → R v H') : spM K n C g (.ref x :: ws) H1 R E := by
  obtain ⟨h1, c2, f0, f1, f2⟩ := S1.bx.box i _ e1
  have c3 := f1 (x, dx, fs) (by simp)
  have c2 : ∀ p ∈ (shI C (x, dx, fs)).foot, F1 p = none ∧ G p = none := fun p hp => c2 p (bag_mem hp)
  refine ⟨F1, x, dx, fs, ws, ds, _, rfl, by rw [List.length_cons, r1.length]; exact hn, S1.hF, fun p hp => (c2 p hp).1, c3, r1, hg, fun v c fs' F' H' u S' q => ?_⟩
  have hGh : Same G (hideF H1 (Sh.ins x C dx fs).foot) := fun b o qq => by
    by_cases nb : b ∈ (Sh.ins x C dx fs).foot
    · rw [(c2 b nb).2] at qq; cases qq
    · rw [hideF_ne nb]; exact S1.hG b o qq
  exact k v c F' H' _ (u.less hGh) (S1.afterBag (t := (x, dx, fs)) (dx' := dx) (fs' := fs') e1 u S') q
theorem snd_callMI {g : FM} (i : Nat) (ho : SndE X.K to To) (ha : SndA X.K t T) : SndC X.K (tMeth C m (spM X.K n C g) [] (fun _ _ _ => False) to t) (pCallMI i C m n g To T) := fun G F H σ ρ Q R S hT k =>
  ho G F H σ ρ _ _ S hT fun v d F0 H0 ρ0 u0 S0 r0 q0 => by
    obtain ⟨a, l, t, r, rfl, e0, el, hT⟩ := q0
    cases r0 with
    | adr =>
      obtain ⟨b1, b2, f0, f1, f2⟩ := S0.bx.box i _ e0
      obtain ⟨_, vs, b4, b5, b6⟩ := f1 t (by simp)
      refine ⟨t.1, t.2.1, vs, rfl, b4, b6.lookNone el, ha G F0 H0 σ ρ0 _ _ S0 hT fun ws ds F1 H1 ρ1 u1 S1 r1 q1 => ?_⟩
      obtain ⟨l1, dx, fs, r1', e1, hn, hg⟩ := q1
      show spM X.K n C g (.ref t.1 :: (ws ++ [])) H1 R _
      rw [List.append_nil]
      exact call_bag S1 e1 hn r1 hg fun v c F' H' ρ' u S' q => k v c F' H' ρ' ((u0.trans u1).trans u) S' q
theorem ppc_callMI0 (i : Nat) {g : FM} {pl : Sem Bool} (c : Cls X.K C) (hm : Meth X.K C m f) (Fn : FnOk X.prog X.w X.K X.mg X.base CX0 k f fd ps (spM X.K n C g)) (hr : Room k X.A) (hb : Binds X.K fd ps []) (ho : PPE X o to To)
    (ht : eval (.Call (.Attribute o m apos) [] [] pos) X.env = (do
      let ov ← eval o X.env
      standAt apos.atName
      let (f, first) ← holding [ov] (getMethod ov m pl)
      callWith pos f first (backTo pos (starEach [] X.env)) (backToKw pos (keywordEach [] X.env))) := by rfl) :
    PPC X (.Call (.Attribute o m apos) [] [] pos) (tMeth C m (spM X.K n C g) [] (fun _ _ _ => False) to tNil) (pCallMI i C m n g To pNil) :=
  ⟨pe_meth0 (pl := pl) ho.pe c hm Fn hr hb .nil pass0 ht, snd_callMI i ho.snd ppa_nil.snd⟩
def pCallII (i : Nat) (C : Addr) (n : Nat) (g : FM) (To : TEp) (T : TAp) : TCp := fun ρ Q => To ρ fun d ρ0 => ∃ a x, d = .adr x ∧
  T ρ0 fun ds ρ1 => ∃ l1 dx fs r1, ρ1[i]? = some (nI C a (l1 ++ (x, dx, fs) :: r1)) ∧ ds.length + 1 = n ∧ g fs ds fun c fs2 => Q c (ρ1.set i (nI C a (l1 ++ (x, dx, fs2) :: r1)))
theorem ppc_callII (i : Nat) {g : FM} (Fn : FnOk X.prog X.w X.K X.mg X.base CX0 k f fd ps (spM X.K n C g)) (hr : Room k X.A) (hg : Gl X x) (hm : X.mg x = some (.ref f)) (hk : PySem.W.keepIn X.K (.ref f) = true) (hb : Binds X.K fd ps []) (ho : PPE X o to To) (ha : PPA X es t T)
    (hdb : (x == ("__debug__" : Str)) = false := by decide) (he : starEach (o :: es) X.env = (false, eval o X.env) :: starEach es X.env := by rfl) (hpl : (backTo pos (starEach es X.env)).any (·.1) = false := by rfl) :
    PPC X (.Call (.Name x p) (o :: es) [] pos) (tCall (spM X.K n C g) [] (fun _ _ _ => False) (tCons to t)) (pCallII i C n g To T) := ⟨pe_call Fn hr hg hm hk hb .nil pass0 (pa_cons ho.pe ha.pa he) hdb he hpl, fun G F H σ ρ Q R S hT k =>
  ho.snd G F H σ ρ _ _ S hT fun v d F0 H0 ρ0 u0 S0 r0 q0 => by
    obtain ⟨a, x', rfl, hT⟩ := q0
    cases r0 with
    | adr =>
      refine ha.snd G F0 H0 σ ρ0 _ _ S0 hT fun ws ds F1 H1 ρ1 u1 S1 r1 q1 => ?_
      obtain ⟨l1, dx, fs, r1', e1, hn, hg⟩ := q1
      show spM X.K n C g ((.ref x' :: ws) ++ []) H1 R _
      rw [List.append_nil]
      exact call_bag S1 e1 hn r1 hg fun v c F' H' ρ' u S' q => k v c F' H' ρ' ((u0.trans u1).trans u) S' q⟩
def pSetI (i : Nat) (C : Addr) (T : TCs) : TSp := fun P ρ => T ρ fun cs ρ1 => ∃ xs : List It3, cs = xs.map (fun t => .box (shI C t)) ∧ xs.length ≤ sizeLine ∧ ∀ a, P.nx (ρ1.set i (nI C a xs))
theorem bag_of {K : PySem.W.Frag} {G F H : Hp} {ρ : Ro} {C : Addr} : ∀ {vs : List V} {xs : List It3}, CellsB K G F H ρ vs (xs.map fun t => .box (shI C t)) → vs = xs.map (fun t => V.ref t.1) ∧ (∀ t ∈ xs, (shI C t).At K F H ∧ ∀ p ∈ (shI C t).foot, F p = none ∧ G p = none ∧ NotOwn ρ p) ∧ xs.Pairwise fun t u => ∀ p ∈ (shI C t).foot, p ∉ (shI C u).foot
  | [], [], _ => ⟨rfl, fun t h => (by cases h), List.Pairwise.nil⟩
  | v :: vs, x :: xs, h => by
    obtain ⟨h1, h2, h3⟩ := h
    obtain ⟨e1, e2, e3⟩ := bag_of h2
    obtain ⟨⟨g1, g2⟩, g3⟩ := h1
    refine ⟨by rw [e1, g1]; rfl, fun t ht => ?_, List.pairwise_cons.mpr ⟨fun u hu p m => h3 p m _ (List.mem_map.mpr ⟨u, hu, rfl⟩), e3⟩⟩
    rcases List.mem_cons.mp ht with rfl | ht
    · exact ⟨g2, g3⟩
    · exact e2 t ht
  | [], _ :: _, h => h.elim
  | _ :: _, [], h => h.elim
theorem pps_setI {i : Nat} {pos' lp : Pos} {T : TCs} (hN : X.N.Nodup) (he : PPBs X es t T) (hi : X.N[i]? = some x := by rfl) (hx : Loc X.env.scope x := by first | exact Or.inl rfl | exact Or.inr rfl)
    (hs : swapsWith (.List es lp) (some (.Name x pos')) pos.line X.env = pure false := by rfl) (hf : X.fn x = true ∨ X.env.scope.names.lookup x = some .local := by first | exact .inl rfl | exact .inr rfl | assumption) :
    PPS X (.Assign [.Name x pos'] (.List es lp) pos) (tAsg (tLst t) (gName i)) (pSetI i C T) := ⟨ps_set hN hi hx (pe_lst he.pa) hs hf, fun G F H σ ρ P D S hT r =>
  he.snd G F H σ ρ _ _ S hT fun vs cs F1 H1 ρ1 u1 S1 o1 q1 => by
    obtain ⟨xs, rfl, hl, hq⟩ := q1
    obtain ⟨rfl, b1, b2⟩ := bag_of o1
    refine ⟨by rw [List.length_map]; exact hl, fun a ha => ?_⟩
    have S2 := S1.new (o := .lst (xs.map fun t => V.ref t.1)) ha
    have live : ∀ t ∈ xs, ∀ p ∈ (shI C t).foot, p ≠ a := fun t ht p m z => by
      obtain ⟨o, ho⟩ := (b1 t ht).1.live m
      rw [z, ha] at ho; cases ho
    have S3 := S2.setBox i (s := .gen (bagS C a xs)) (fun p m => ?_) ⟨upd_same, fun t ht => ?_, b2⟩ (fun p m => ?_)
    · exact r.nx _ _ _ _ (u1.trans (S1.upNew ha)) S3 (hq a)
    · obtain ⟨t, ht, q⟩ := List.mem_flatMap.mp m
      rw [upd_ne (live t ht p q)]
      exact ⟨((b1 t ht).2 p q).1, ((b1 t ht).2 p q).2.1⟩
    · exact (b1 t ht).1.mono (same_new (S1.freshF ha)) fun p m => upd_ne (live t ht p m)
    · obtain ⟨t, ht, q⟩ := List.mem_flatMap.mp m
      exact ((b1 t ht).2 p q).2.2⟩
end
end Pl
namespace Pl
open PySem PySem.Spec PyProof.Rows L2 PySem.W PpSet
theorem bools_of {K : PySem.W.Frag} {c : Bool} : ∀ {vs : List V} {us : List Value}, (∀ v ∈ vs, v = V.bl c) → Vals vs us → us = vs.map fun _ => Value.bool c
  | _, _, _, .nil => rfl
  | v :: vs, u :: us, h, .cons r t => by
    cases h v List.mem_cons_self
    have e : u = Value.bool c := r
    rw [e, bools_of (K := K) (fun v hv => h v (List.mem_cons_of_mem _ hv)) t]
    rfl
section
variable {P : Program} {w : World} {A : Around} {E : Value → Shared → Prop} {s : Shared}
theorem set_update_bool {I : Addr} {fp wr : List Addr} {G : Array GenState → Array GenState → Prop} {n : Nat} {Pv : Nat → Value → Prop} {St : Nat → Shared → Prop} {R : Result → Shared → Prop}
    (W : WalksS P w A.in1 I fp wr G n Pv St) (S : Addr) (hSf : S ∉ fp) (c : Bool) (hb : n + 1 < scanBound) (hval : ∀ i v, Pv i v → v = .bool c) :
    ∀ (k i : Nat) (s : Shared), n - i = k → i ≤ n → St i s → (∃ m, m ≤ i ∧ SetB w s.heap S (fun j => decide (j = c) && decide (0 < i)) m) →
      (∀ s' m, Moved (S :: wr) G s s' → SetB w s'.heap S (fun j => decide (j = c) && decide (0 < n)) m → R (.ok (.ret .none)) s') →
      codeAny (model P w) A (.builtin "set.update.loop" ⟨[.ref S, .ref I], []⟩) R s := by
  have hSw : S ∉ wr := fun h => hSf (W.sub _ h)
  have hsub : ∀ b ∈ wr, b ∈ S :: wr := fun b hb => List.mem_cons_of_mem _ hb
  intro k
  induction k with
  | zero =>
    intro i s hk' hi hst ⟨m, hm0, hS⟩ hR
    have hin : i = n := by omega
    subst hin
    refine codeAny_builtin F.entry_set_update_loop ?_
    rw [Around.under_plainId F.plain_set_update_loop _]
    show wpAny _ A.in1 (pyNext (.ref I) >>= _) _ _ s
    refine wpAny_bind (W.done s _ _ hst fun s' hm => ?_)
    show wpAny _ A.in1 (ret Value.none) _ _ s'
    exact wpAny_pure (hR s' m (hm.mono hsub) (hS.at fun o e => hm.heap S o hSw e))
  | succ k ih =>
    intro i s hk' hi hst ⟨m, hm0, hS⟩ hR
    have hlt : i < n := by omega
    refine codeAny_builtin F.entry_set_update_loop ?_
    rw [Around.under_plainId F.plain_set_update_loop _]
    show wpAny _ A.in1 (pyNext (.ref I) >>= _) _ _ s
    refine wpAny_bind (W.item i s _ _ hlt hst fun v s' hP hst' hm => ?_)
    obtain rfl := hval i v hP
    have hS' := hS.at (h' := s'.heap) fun o e => hm.heap S o hSw e
    show wpAny _ A.in1 (holding [Value.bool c] (setAdd S (.bool c)) >>= _) _ _ s'
    refine wpAny_bind (wpAny_holding ?_)
    unfold setAdd
    refine wpAny_holding ?_
    refine wpAny_bind ((boolK P w).pyHash (boolK_is P w c) ?_)
    refine setB_add_hashed (s := { s' with toks := s'.toks + 1 }) hS' (by omega) fun h' hsb hS2 => ?_
    generalize hm2 : (if (decide (c = c) && decide (0 < i)) = true then m else m + 1) = m2 at hS2
    have hm3 : m2 ≤ i + 1 := by
      subst hm2
      split <;> omega
    have hS3 : SetB w h' S (fun j => decide (j = c) && decide (0 < i + 1)) m2 := by
      refine hS2.congr fun j => ?_
      by_cases e : j = c <;> by_cases z : 0 < i <;> simp [e, z]
    refine wpAny_pure ⟨plainId_quiet F.plain_set_update_loop _, ih (i + 1) _ (by omega) hlt (W.frame _ s' _ _ hst' (Nat.le_succ _) fun b hb o e => ?_) ⟨_, hm3, hS3⟩ fun s'' c2 hm'' hS'' => ?_⟩
    · rw [hsb.2 b (fun h : b = S => hSf (by rw [← h]; exact hb))]; exact e
    · refine hR s'' c2 (Moved.trans W.gtrans ((hm.mono hsub).then_heap (Nat.le_succ _) fun b o hb e => ?_) hm'') hS''
      rw [hsb.2 b (fun h : b = S => hb (by rw [h]; exact List.mem_cons_self))]; exact e
set_option maxHeartbeats 3200000 in
theorem call_set_bool {l : Addr} {items : Array Value} (c : Bool) {Q : Value → Shared → Prop} (hh : A.handled = none) (hl : s.heap.IsList l items) (hit : ∀ v ∈ items.toList, v = Value.bool c) (hne : 0 < items.size) (hb : items.size + 1 < scanBound)
    (h : ∀ (h' : Heap) (tk m : Nat), SetB w h' s.heap.objs.size (fun j => decide (j = c)) m → (∀ b o, s.heap.get? b = some o → h'.get? b = some o) → Q (.ref s.heap.objs.size) { s with heap := h', toks := tk }) :
    wpAny (model P w) A (call (.type "set") [.ref l]) Q E s := by
  obtain ⟨c0, tl, hmro⟩ := F.called_set.mro
  have hmade := F.called_set.made
  have hsub := F.called_set.sub
  refine wpAny_call (codeAny_of_tree ?_)
  show wpAny _ _ (callAny (.type "set") _) _ _ _
  refine wpAny_pure ⟨Code.quiet_builtin _ (by decide +kernel), codeAny_builtin F.entry_type_call ?_⟩
  rw [Around.under_plain (weight_type_call_type "set" [.ref l] []) rfl]
  have h1 := F.called_set.notType
  have h2 := F.called_set.canCreate
  have hct := F.typeCall_set_1 (.ref l)
  repeat (any_goals (first | assumption | wp_step))
  refine codeAny_mono (code_set_led1 (.ref l) (E := E) (Q₁ := fun obj s₁ => obj = .ref s.heap.objs.size ∧ s₁ = { s with heap := s.heap.push { cls := .type "set", dict := none, data := .set #[] 0 (.fresh 0 0 (!w.params.followText "set-order")) } }) ⟨rfl, rfl⟩) fun r s₁ hr => ?_
  cases r with
  | error e => exact hr
  | ok fl =>
    cases fl with
    | ret obj =>
      obtain ⟨rfl, rfl⟩ := hr
      have hS : (s.heap.push { cls := .type "set", dict := none, data := .set #[] 0 (.fresh 0 0 (!w.params.followText "set-order")) }).get? s.heap.objs.size = some { cls := .type "set", dict := none, data := .set #[] 0 (.fresh 0 0 (!w.params.followText "set-order")) } := Heap.get?_push_size _ rfl
      have hT : Shared.TypeIs { s with heap := s.heap.push { cls := .type "set", dict := none, data := .set #[] 0 (.fresh 0 0 (!w.params.followText "set-order")) } } (.ref s.heap.objs.size) "set" := ⟨_, hS, rfl⟩
      have hli := F.called_set.init.lookup
      have hbi := F.called_set.init.bind (.ref s.heap.objs.size)
      repeat (any_goals (first | assumption | wp_step))
      refine codeAny_mono (codeAny_call_builtin (R := wants (fun r s₂ => r = .none ∧ ∃ h' tk m, s₂ = { s with heap := h', toks := tk } ∧ SetB w h' s.heap.objs.size (fun j => decide (j = c)) m ∧
          (∀ b o, s.heap.get? b = some o → h'.get? b = some o)) E) F.called_set.init.plain F.entry_set_init (check_set_init_1 hT ?_)) fun r₂ s₂ hr₂ => ?_
      · obtain ⟨ol, hol, hcl, nl, hdl⟩ := hl
        obtain ⟨ocls, odict, odata, oslots⟩ := ol
        simp only at hcl hdl
        subst hcl; subst hdl
        have hol' : (s.heap.push { cls := .type "set", dict := none, data := .set #[] 0 (.fresh 0 0 (!w.params.followText "set-order")) }).get? l = some { cls := .type "list", dict := odict, data := .seq items nl, slots := oslots } := Heap.get?_push_of_some _ hol
        have hsls := F.sub_list_set
        have hslf := F.sub_list_frozenset
        have hne' : (Value.type "list" == Value.type "dict") = false := by decide
        have hl1 : (s.heap.push { cls := .type "set", dict := none, data := .set #[] 0 (.fresh 0 0 (!w.params.followText "set-order")) }).IsList l items := ⟨_, hol', rfl, nl, rfl⟩
        unfold Builtin.«set.__init__» noKeywords Builtin.Frozenset.updateFrom
        generalize hPI : pyIter = PI
        wp_walk
        subst hPI
        refine wpAny_pyIter_list hl1 ?_
        refine wpAny_bind (wpAny_runValue ?_)
        have hlS : l < s.heap.objs.size := Heap.lt_size hol
        have hh3 : A.in1.in1.in1.handled = none := by simp [hh]
        have hz1 : (s.heap.push { cls := .type "set", dict := none, data := .set #[] 0 (.fresh 0 0 (!w.params.followText "set-order")) }).objs.size = s.heap.objs.size + 1 := Heap.size_push ..
        have hneI : l ≠ (s.heap.push { cls := .type "set", dict := none, data := .set #[] 0 (.fresh 0 0 (!w.params.followText "set-order")) }).objs.size := by
          rw [Heap.size_push]; exact Nat.ne_of_lt (Nat.lt_succ_of_lt hlS)
        have hSf : s.heap.objs.size ∉ [(s.heap.push { cls := .type "set", dict := none, data := .set #[] 0 (.fresh 0 0 (!w.params.followText "set-order")) }).objs.size, l] := by
          rw [Heap.size_push]; simp only [List.mem_cons, List.mem_singleton, List.not_mem_nil, or_false, not_or]
          exact ⟨Nat.ne_of_lt (Nat.lt_succ_self _), Nat.ne_of_gt hlS⟩
        have hval : ∀ (i : Nat) (v : Value), items[i]? = some v → v = Value.bool c := fun i v hv => by
          have q : items.toList[i]? = some v := by rw [Array.getElem?_toList]; exact hv
          exact hit v (List.mem_of_getElem? q)
        refine set_update_bool ((Walks.list hh3 _ l hneI items).toS) s.heap.objs.size
          hSf c hb hval (items.size - 0) 0 _ (by omega) (Nat.zero_le _)
          ⟨⟨_, Heap.get?_push_size _ rfl, rfl, rfl⟩, (hl1.push _)⟩ ?hS0 ?hR
        case hS0 =>
          have q := setB_fresh (h := s.heap) w
          refine ⟨0, Nat.le_refl 0, (SetB.at q fun o e => Heap.get?_push_of_some _ e).congr fun j => ?_⟩
          simp
        case hR =>
          intro s' m hm hS'
          obtain ⟨h', g2, d', tk', os'⟩ := s'
          have eg : g2 = s.gens := hm.gens
          have ed : d' = s.drawn := hm.drawn
          have eo : os' = s.os := hm.os
          subst eg; subst ed; subst eo
          show wpAny _ _ _ _ _ _
          refine wpAny_pure ?_
          show wpAny _ _ (ret Value.none) _ _ _
          refine wpAny_pure ⟨rfl, h', tk', m, rfl, hS'.congr fun j => by simp [hne], fun b o e => ?_⟩
          have hb0 : b < s.heap.objs.size := Heap.lt_size e
          have hb1 : b ≠ s.heap.objs.size := Nat.ne_of_lt hb0
          have hb2 : b ≠ (s.heap.push { cls := .type "set", dict := none, data := .set #[] 0 (.fresh 0 0 (!w.params.followText "set-order")) }).objs.size := by
            rw [Heap.size_push]; exact Nat.ne_of_lt (Nat.lt_succ_of_lt hb0)
          exact hm.heap b o (by simp only [List.mem_cons, List.mem_singleton, List.not_mem_nil, or_false, not_or]; exact ⟨hb1, hb2⟩) (Heap.get?_push_of_some _ (Heap.get?_push_of_some _ e))
      · cases r₂ with
        | error e => exact hr₂
        | ok fl₂ =>
          cases fl₂ with
          | ret r =>
            obtain ⟨rfl, h', tk, m, rfl, hS', hk'⟩ := hr₂
            repeat (any_goals (first | assumption | wp_step))
            exact h h' tk m hS' hk'
          | _ => exact hr₂
    | _ => exact hr
end
def tLenSetB (K : PySem.W.Frag) (ta : TE) : TE := fun σ H Q => ta σ H fun x H1 => ∃ (l : Addr) (vs : List V) (c : Bool), x = V.ref l ∧ SqL K H1 l vs ∧ vs ≠ [] ∧ vs.length < 64 ∧ (∀ v ∈ vs, v = V.bl c) ∧ Q (.int 1) H1
section
variable {X : Cx}
theorem pe_lenSetB {a : Expr} {ta : TE} {p p2 q pos : Pos} (hc : X.calm = true) (hg : Gl X "len") (hm : X.mg "len" = none) (hg2 : Gl X "set") (hm2 : X.mg "set" = none) (ha : PE X a ta)
    (na : starEach [a] X.env = (false, eval a X.env) :: starEach [] X.env := by rfl) : PE X (.Call (.Name "len" p) [.Call (.Name "set" p2) [a] [] q] [] pos) (tLenSetB X.K ta) := by
  refine ⟨fun pins s σ H Q I h => ?_⟩
  refine Call_ (ld_blt I hg hm PySem.boot_len ?_)
  refine PyProof.Rows.callWith_builtin1 (PyProof.Rows.args_cons ?_ rfl) rfl rfl
  refine Call_ (ld_blt I hg2 hm2 PyProof.Rows.boot_set ?_)
  refine PyProof.Rows.callWith_type1 (PyProof.Rows.args_cons (thn (ha.run pins s σ H _ I h) fun v s1 ⟨x, H1, I1, r1, q1⟩ => PyProof.Rows.args_nil ?_) na) na rfl
  obtain ⟨l, vs, c, rfl, hq, hne, h1, hall, q1⟩ := q1
  cases r1
  obtain ⟨its, r, pl, hz⟩ := I1.list hq
  have ei := bools_of (K := X.K) hall r
  have hl : its.toArray.size = vs.length := by rw [List.size_toArray, ← r.length]
  have hpos : 0 < vs.length := List.length_pos_iff.mpr hne
  refine call_set_bool (P := X.prog) (w := X.w) c (I1.ok.hd hc) pl.isList (fun v hv => ?_) (by omega) (by unfold scanBound; omega) fun h' tk m hS hk => ?_
  · have hv' : v ∈ its := by simpa using hv
    rw [ei] at hv'
    obtain ⟨_, _, rfl⟩ := List.mem_map.mp hv'
    rfl
  refine PyProof.Rows.args_nil ?_
  obtain ⟨o, es, ep, t, ho, hex, hd, g, nd, hm, hb, hf, hn, _⟩ := hS
  have one : es.size = 1 := by
    have e1 : es.toList.map keyB = [c] := by
      have hc1 : c ∈ es.toList.map keyB := (hm c).mp (by simp)
      have hall2 : ∀ k ∈ es.toList.map keyB, k = c := fun k hk => by simpa using (hm k).mpr hk
      match es.toList.map keyB, nd, hc1, hall2 with
      | [], _, h, _ => cases h
      | [k], _, _, h => rw [h k List.mem_cons_self]
      | k :: k2 :: ks, nd, _, h =>
        have e1 := h k List.mem_cons_self
        have e2 := h k2 (List.mem_cons_of_mem _ List.mem_cons_self)
        rw [e1, e2] at nd
        exact absurd List.mem_cons_self (List.nodup_cons.mp nd).1
    have := congrArg List.length e1
    rw [List.length_map, Array.length_toList] at this
    exact this
  have I2 : Inv X pins σ H1 { s1 with heap := h', toks := tk } := I1.kept fun b o e => hk b o e
  refine call_len_set ho hex hd hf (by rw [one]; decide) ⟨.int 1, H1, I2.tok _, ⟨_, by rw [one]; rfl⟩, q1⟩
end
def pLenSetB (Ta : TEp) : TEp := fun ρ Q => Ta ρ fun x ρ1 => match x with
  | .lst xs => ∃ (c : Bool), xs ≠ [] ∧ xs.length < 64 ∧ (∀ d ∈ xs, d = .bl c) ∧ Q (.int 1) ρ1
  | _ => False
theorem reps_bl {K : PySem.W.Frag} {F : Hp} {c : Bool} : ∀ {vs : List V} {xs : List D}, Reps K F vs xs → (∀ d ∈ xs, d = .bl c) → ∀ v ∈ vs, v = V.bl c
  | _, _, .nil, _ => fun v hv => by cases hv
  | _, _, .cons h t, hx => fun v hv => by
    rcases List.mem_cons.mp hv with rfl | hv
    · have e := hx _ List.mem_cons_self
      subst e
      cases h
      rfl
    · exact reps_bl t (fun d hd => hx d (List.mem_cons_of_mem _ hd)) v hv
section
variable {X : Cx}
theorem ppe_lenSetB {a : Expr} {ta : TE} {Ta : TEp} {p p2 q pos : Pos} (hc : X.calm = true) (hg : Gl X "len") (hm : X.mg "len" = none) (hg2 : Gl X "set") (hm2 : X.mg "set" = none) (ha : PPE X a ta Ta)
    (na : starEach [a] X.env = (false, eval a X.env) :: starEach [] X.env := by rfl) : PPE X (.Call (.Name "len" p) [.Call (.Name "set" p2) [a] [] q] [] pos) (tLenSetB X.K ta) (pLenSetB Ta) :=
  ⟨pe_lenSetB hc hg hm hg2 hm2 ha.pe na, fun G F H σ ρ Q R S hT k => ha.snd G F H σ ρ _ _ S hT fun v d F1 H1 ρ1 u1 S1 r1 q1 => by
    cases r1 with
    | lst h r =>
      obtain ⟨c, hne, h64, hall, q1⟩ := q1
      refine ⟨_, _, c, rfl, SqL.of (S1.hF _ _ h), ?_, by rw [r.length]; exact h64, reps_bl r hall, k _ _ _ _ ρ1 u1 S1 (.int 1) q1⟩
      intro e
      subst e
      have := r.length
      exact hne (List.eq_nil_of_length_eq_zero (by rw [← this]; rfl))
    | _ => exact q1.elim⟩
end
end Pl
namespace Pl
open PySem PySem.Spec PyProof.Rows L2
def row (c : Bool) (s : Int) (ns : List Int) (i : Int) : List Int := if c = true then reach s ns i else reachF s ns i
def Wn (w : D) (c : Bool) (s : Int) : Prop := w = windD c s ∨ w = .lst [.str (wordS c), .int s]
def g_blownW : FA := fun ds C => ∃ d ns w c s, ds = [d, w] ∧ Sq d ns ∧ Wn w c s ∧ ns ≠ [] ∧ ns.length ≤ 1000 ∧ C (.val (tD (blownL c s ns)))
theorem rd_blownW : ∀ ds C, ds.length = 2 → g_blownW ds C → T_blown g_upside g_cut_to { nx := fun _ => C (.val .non), rt := fun c _ => C c } (startA N_blown ds) := by
  rintro ds C - ⟨d, ns, w, cut, s, rfl, hd, hw, hne, hl, hC⟩
  rcases hw with rfl | rfl
  · exact rd_blown _ C rfl ⟨d, ns, cut, s, rfl, hd, hne, hl, hC⟩
  · cases cut with
    | true =>
      refine ⟨rfl, rfl, sh_cut, sh_cut, ifT (by decide +kernel) ?_⟩
      exact ⟨rfl, d, ns, s, rfl, hd, hne, hl, hC⟩
    | false =>
      refine ⟨rfl, rfl, sh_fill, sh_cut, ifF (by decide +kernel) ?_⟩
      refine ⟨rfl, d, ns, rfl, hd, hl, rfl, _, _, s, rfl, .inl rfl, by simpa using hne, by simpa using hl, rfl, _, _, rfl, .inl rfl, by rw [cutTo_len]; simpa using hl, ?_⟩
      exact hC
def enumFrom (h : Nat → Int → D) (k : Nat) : List Int → List D
  | [] => []
  | x :: r => h k x :: enumFrom h (k + 1) r
end Pl
namespace Pl
open PySem PySem.Spec PyProof.Rows L2
theorem blW_keeps {l : List Int} {t : Int} {w : Wd} (hw : 0 ≤ w.2) (h : Gentle t l) : Gentle t (blW l w) := by
  rcases Int.le_total t w.2 with g | g
  · have : blW l w = l := (blown_idle (c := w.1) hw).mpr (h.mono g)
    rw [this]; exact h
  · exact (blown_gentle (c := w.1) hw l).mono g
theorem behindL_keeps {t : Int} : ∀ {ws : List Wd} {l : List Int}, (∀ w ∈ ws, 0 ≤ w.2) → Gentle t l → Gentle t (behindL l ws)
  | [], _, _, h => h
  | w :: ws, l, hw, h => behindL_keeps (ws := ws) (l := blW l w) (fun v hv => hw v (by simp [hv])) (blW_keeps (hw w (by simp)) h)
theorem behindL_gentle : ∀ {ws : List Wd} {l : List Int}, (∀ w ∈ ws, 0 ≤ w.2) → ∀ w ∈ ws, Gentle w.2 (behindL l ws)
  | [], _, _, _, h => by simp at h
  | v :: ws, l, hw, w, h => by
    have hw' : ∀ u ∈ ws, 0 ≤ u.2 := fun u hu => hw u (by simp [hu])
    rcases List.mem_cons.mp h with e | h
    · subst e
      exact behindL_keeps (ws := ws) (l := blW l w) hw' (blown_gentle (c := w.1) (hw w (by simp)) l)
    · exact behindL_gentle (ws := ws) (l := blW l v) hw' w h
theorem behindL_append (l : List Int) (a b : List Wd) : behindL l (a ++ b) = behindL (behindL l a) b := List.foldl_append
theorem behindL_mono : ∀ {ws : List Wd} {a b : List Int}, (∀ w ∈ ws, 0 ≤ w.2) → Lq a b → Lq (behindL a ws) (behindL b ws)
  | [], _, _, _, h => h
  | w :: ws, a, b, hw, h => behindL_mono (ws := ws) (fun v hv => hw v (by simp [hv])) (blown_mono (c := w.1) (hw w (by simp)) h)
theorem cutD_mid {xs : List D} {j k : Nat} (h : j ≤ k) : cutD xs (some (j : Int)) (some (k : Int)) = (xs.drop j).take (k - j) := by
  unfold cutD
  rw [HT.sIx_nat, HT.sIx_nat]
  rcases Nat.le_total k xs.length with g | g
  · rw [Nat.min_eq_left g, Nat.min_eq_left (by omega)]
  · rw [Nat.min_eq_right g]
    rcases Nat.le_total j xs.length with q | q
    · rw [Nat.min_eq_left q, List.take_of_length_le (by rw [List.length_drop]; exact Nat.le_refl _), List.take_of_length_le (by rw [List.length_drop]; omega)]
    · rw [Nat.min_eq_right q, List.drop_eq_nil_of_le (Nat.le_refl _), List.drop_eq_nil_of_le q]; simp
theorem windsD_append (a b : List Wd) : windsD a ++ windsD b = windsD (a ++ b) := by unfold windsD; rw [List.map_append]
theorem sh_word (c : Bool) : (D.str (wordS c)).sh := by cases c with | true => exact sh_cut | false => exact sh_fill
theorem canLay_wind (w : Wd) : PyData.canLay0 (toPy (windD w.1 w.2)) = true := by
  obtain ⟨c, s⟩ := w
  cases c with
  | true => show (PyData.canLay0 (.str "cut") && true) = true; decide +kernel
  | false => show (PyData.canLay0 (.str "fill") && true) = true; decide +kernel
end Pl
namespace Pl
open PySem PySem.Spec PyProof.Rows L2
def Fits (c f : Int) (ws : List Wd) : Prop := ∀ w ∈ ws, 0 ≤ w.2 ∧ (w.1 = true → c ≤ w.2) ∧ (w.1 = false → f ≤ w.2)
theorem Fits.tail {c f : Int} {w : Wd} {ws : List Wd} (h : Fits c f (w :: ws)) : Fits c f ws := fun v hv => h v (by simp [hv])
end Pl
namespace Pl
open PySem PySem.Spec PyProof.Rows L2
abbrev N_rises : List Str := [("one" : Str), ("other" : Str), ("here" : Str), ("there" : Str)]
def T_rises : TSp :=
  (pSeq (pIfS (pTest (pOp fNe (pLenO 0) (pLenO 1)))
    pNever
    pNext)
    (pRet (pVal (pCB fTup (pCons (pLc (jZ2 (pCons (pVar 0) (pCons (pVar 1) pNil))) (hTup 2 (hCons (hName 2) (hCons (hName 3) hNil))) pYes (pOp fSub (pVar 3) (pVar 2)) [2, 3]) pNil)))))
abbrev N_gaps : List Str := [("one" : Str), ("other" : Str), ("rise" : Str)]
def T_gaps (g_rises : FA) : TSp :=
  (pRet (pLcO (jSeq (pFrz (pCallA 2 g_rises (pCons (pVar 0) (pCons (pVar 1) pNil))))) (hName 2) pYes (pCB fAbs (pCons (pVar 2) pNil)) [2]))
abbrev N_width : List Str := [("one" : Str), ("other" : Str)]
def T_width (g_gaps : FA) : TSp :=
  (pRet (pVal (pCB (fBest max) (pCons (pFrz (pCallA 2 g_gaps (pCons (pVar 0) (pCons (pVar 1) pNil)))) pNil))))
abbrev N_is_below : List Str := [("one" : Str), ("other" : Str)]
def T_is_below (g_rises : FA) : TSp :=
  (pRet (pVal (pOp fGe (pCB (fBest min) (pCons (pFrz (pCallA 2 g_rises (pCons (pVar 0) (pCons (pVar 1) pNil)))) pNil)) (pC (.int 0)))))
abbrev N_handed : List Str := [("dune" : Str), ("post" : Str), ("by" : Str), ("at" : Str), ("height" : Str)]
def T_handed : TSp :=
  (pSeq (pIfS (pNot (pTest (pChain fLe fLt (pC (.int 0)) (pVar 1) (pLenO 0))))
    pNever
    pNext)
    (pRet (pVal (pCB fTup (pCons (pLc (jE (pCons (pVar 0) pNil)) (hTup 2 (hCons (hName 3) (hCons (hName 4) hNil))) pYes (pIf (pTest (pOp fEq (pVar 3) (pVar 1))) (pOp fAdd (pVar 4) (pVar 2)) (pVar 4)) [3, 4]) pNil)))))
abbrev N_almanac_of : List Str := [("cuts" : Str), ("fills" : Str), ("order" : Str), ("winds" : Str), ("cut" : Str), ("fill" : Str), ("sign" : Str)]
def T_almanac_of : TSp :=
  (pSeq (pSet 3 (pLstO pNil))
    (pSeq (pSet 4 (pVal (pC (.int 0))))
    (pSeq (pSet 5 (pVal (pC (.int 0))))
    (pSeq (pFor (jStr (pVar 2)) (hName 6)
    (pIfS (pTest (pOp fEq (pVar 6) (pC (.str "c"))))
    (pSeq (pAppend 3 (pTup (pCons (pC (.str "cut")) (pCons (pIxO 0 (pVar 4)) pNil))))
    (pAugI 4 (fun i j => i + j) (pC (.int 1))))
    (pSeq (pAppend 3 (pTup (pCons (pC (.str "fill")) (pCons (pIxO 1 (pVar 5)) pNil))))
    (pAugI 5 (fun i j => i + j) (pC (.int 1))))))
    (pRet (pMove 3))))))
end Pl
namespace Pl
open PySem PySem.Spec PyProof.Rows L2
section
variable [TJ]
def inS (st : Stmt) (j : Nat) : Stmt := match st with
  | .ClassDef _ _ _ body _ _ _ _ _ _ _ => body.getD j (.Pass ⟨0, 0, 0, 0⟩)
  | _ => .Pass ⟨0, 0, 0, 0⟩
abbrev xtl (c : Str) : List Value := (xb c).tl.map Value.type
structure XCl (K : PySem.W.Frag) (mg : Str → Option Value) (c : Str) (C : Addr) : Prop where
  cls : ∃ q N bs sn sub ab col dd k0 k1 k2 k3 k5, K.lookup C = some (excClassObj c q C N bs (xtl c) true sn sub ab col dd k0 k1 k2 k3 k5 (xb c).new)
  sa : PySem.W.findIn K (.ref C) "__setattr__" = some (some (.builtin "object.__setattr__"))
  exC : PySem.W.subIn K (.ref C) (.type "BaseException") = some true
  tyC : PySem.W.typeIn K (.ref C) = some (.type "type")
  kC : PySem.W.keepIn K (.ref C) = true
  ask : AskX K C
  ns : PySem.W.nsIn K mainGlobals c = some (some (.ref C))
  fno : PySem.W.findIn K (.ref C) (xfield c) = some none
  gm : mg c = some (.ref C)
section
variable {K : PySem.W.Frag} {mg : Str → Option Value} {c c2 : Str} {C C2 : Addr}
theorem XCl.own (T : XCl K mg c C) : OwnX K C (xb c).new (xtl c) := by
  obtain ⟨q, N, bs, sn, sub, ab, col, dd, k0, k1, k2, k3, k5, h⟩ := T.cls
  exact ⟨⟨c, q, N, bs, sn, sub, ab, col, dd, k0, k1, k2, k3, k5, h⟩, T.sa, T.exC, T.tyC, T.kC⟩
theorem XCl.same (T : XCl K mg c C) (h : PySem.W.nsIn K mainGlobals c = some (some (.ref C2))) : C2 = C := by
  rw [T.ns] at h
  cases h; rfl
theorem XCl.ne (T : XCl K mg c C) (T2 : XCl K mg c2 C2) (h : c ≠ c2) : C ≠ C2 := fun z => by
  obtain ⟨q, N, bs, sn, sub, ab, col, dd, k0, k1, k2, k3, k5, e⟩ := T.cls
  obtain ⟨q', N', bs', sn', sub', ab', col', dd', j0, j1, j2, j3, j5, e'⟩ := T2.cls
  subst z
  rw [e] at e'
  have z := Option.some.inj e'
  unfold excClassObj at z
  injection z with _ _ z _
  injection z with z
  injection z with z
  exact h z
def isaX (c n : Str) : Bool := c == n || (xb c).tl.any fun s => Str.ofString s == n
theorem XCl.kit (T : XCl K mg c C) (T2 : XCl K mg c2 C2) (hb : ∀ b : XB, (b.tl.any fun s => Str.ofString s == c2) = false) : PySem.W.kitOne K (.ref C) (.ref C2) = some (isaX c c2) := by
  have e : isaX c c2 = (c == c2) := by unfold isaX; rw [hb, Bool.or_false]
  rw [e]
  unfold PySem.W.kitOne
  by_cases h : c = c2
  · subst h
    obtain rfl := T.same T2.ns
    rw [if_pos (by simp)]; simp
  · have ne : C ≠ C2 := T.ne T2 h
    have e1 : (Value.ref C == Value.ref C2) = false := by
      cases q : (Value.ref C == Value.ref C2) with
      | false => rfl
      | true => exact absurd (Value.ref.inj (beq_iff_eq.mp q)) ne
    have e2 : (c == c2) = false := by simpa using h
    rw [if_neg (by rw [e1]; decide), e2]
    obtain ⟨cd, h1, _⟩ := T2.own.cd
    show (if ((PySem.W.clsIn K C2).isSome && PySem.W.typeIn K (.ref C2) == some (.type "type")) = true then PySem.W.subIn K (.ref C) (.ref C2) else none) = some false
    rw [h1, T2.tyC, if_pos (by rfl)]
    show PySem.W.mroIn K C (.ref C2) = some false
    rw [T.own.mro, e1, Bool.false_or]
    unfold xtl
    cases xb c <;> rfl
theorem XCl.kitB (T : XCl K mg c C) {n : String} (hc : c ≠ Str.ofString n) (hm : PySem.W.kitMeta n = true) (hb : ∀ b : XB, (b.tl.map Value.type).contains (.type n) = b.tl.any fun s => Str.ofString s == Str.ofString n) : PySem.W.kitOne K (.ref C) (.type n) = some (isaX c (Str.ofString n)) := by
  have e2 : (c == Str.ofString n) = false := by simpa using hc
  have e : isaX c (Str.ofString n) = ((xb c).tl.any fun s => Str.ofString s == Str.ofString n) := by unfold isaX; rw [e2, Bool.false_or]
  rw [e]
  unfold PySem.W.kitOne
  rw [if_neg (by rw [show (Value.ref C == Value.type n) = false from rfl]; decide)]
  show (if PySem.W.kitMeta n = true then PySem.W.subIn K (.ref C) (.type n) else none) = _
  rw [if_pos hm]
  show PySem.W.mroIn K C (.type n) = _
  rw [T.own.mro, ← hb]
  show some (false || _) = _
  rw [Bool.false_or]
end
end
end Pl
namespace Pl
open PySem PySem.Spec PyProof.Rows L2
def Calm0 (A : Around) : Prop := A.guards = some []
structure FnG (P : Program) (w : World) (K : PySem.W.Frag) (mg : Str → Option Value) (bs : Heap) (n : Nat) (f : Addr) (fd : FuncData) (ps : List Str) (sp : Sp) : Prop where
  len : ∀ vs H Q E, sp vs H Q E → vs.length = ps.length
  run : ∀ (A : Around) (out : List Env) (s : Shared) (H : Hp) (ar : Args) (us : List Value) (vs : List V) (Q : VK) (E : XK), Calm0 A → Room n A → Env0 P w K mg bs A out s H → BindsTo s fd ar (ps.zip us) → Vals vs us → sp vs H Q E →
    codeAny (model P w) A (.call (.ref f) ar) (CR CX0 out P w H s Q E) s
theorem FnG.mono {P : Program} {w : World} {K : PySem.W.Frag} {mg : Str → Option Value} {bs : Heap} {m n : Nat} {f : Addr} {fd : FuncData} {ps : List Str} {sp : Sp} (F : FnG P w K mg bs m f fd ps sp) (h : m ≤ n) : FnG P w K mg bs n f fd ps sp :=
  ⟨F.len, fun A out s H ar us vs Q E hc hr => F.run A out s H ar us vs Q E hc (hr.mono h)⟩
end Pl
namespace Pl
open PySem PySem.Spec PyProof.Rows L2
abbrev N_sand : List Str := [("dune" : Str)]
def T_sand : TSp :=
  (pRet (pVal (pCB fSumA (pCons (pVar 0) pNil))))
abbrev N_amount : List Str := [("wind" : Str), ("ahead" : Str), ("after" : Str), ("change" : Str)]
def T_amount (g_sand : FA) : TSp :=
  (pSeq (pSet 3 (pVal (pOp fSub (pFrz (pCallA 1 g_sand (pCons (pVar 2) pNil))) (pFrz (pCallA 1 g_sand (pCons (pVar 1) pNil))))))
    (pRet (pVal (pIf (pTest (pOp fEq (pIxO 0 (pC (.int 0))) (pC (.str "cut")))) (pTup (pCons (pUn fNeg (pVar 3)) (pCons (pC (.int 0)) pNil))) (pTup (pCons (pC (.int 0)) (pCons (pVar 3) pNil)))))))
abbrev N_amounts : List Str := [("dune" : Str), ("almanac" : Str), ("rows" : Str), ("wind" : Str), ("ahead" : Str), ("after" : Str)]
def T_amounts (g_days : FA) (g_amount : FA) : TSp :=
  (pSeq (pSet 2 (pCallA 2 g_days (pCons (pVar 0) (pCons (pVar 1) pNil))))
    (pRet (pLcO (jZ3 (pCons (pVar 1) (pCons (pVar 2) (pCons (pSl (pVar 2) (pPart (pC (.int 1))) pNoPart) pNil)))) (hTup 3 (hCons (hName 3) (hCons (hName 4) (hCons (hName 5) hNil)))) pYes (pFrz (pCallA 3 g_amount (pCons (pVar 3) (pCons (pVar 4) (pCons (pVar 5) pNil))))) [3, 4, 5])))
abbrev N_is_hand : List Str := [("entry" : Str)]
def T_is_hand : TSp :=
  (pRet (pVal (pOp fEq (pIxO 0 (pC (.int 0))) (pC (.str "hand")))))
abbrev N_done : List Str := [("dune" : Str), ("entries" : Str), ("now" : Str), ("entry" : Str)]
def T_done (g_handed : FA) (g_blown : FA) (g_is_hand : FA) : TSp :=
  (pSeq (pSet 2 (pVal (pCB fTup (pCons (pVar 0) pNil))))
    (pSeq (pFor (jSeq (pVar 1)) (hName 3)
    (pSet 2 (pVal (pIf (pTest (pFrz (pCallA 1 g_is_hand (pCons (pVar 3) pNil)))) (pFrz (pCallA 3 g_handed (pCons (pVar 2) (pCons (pIxO 3 (pC (.int 1))) (pCons (pIxO 3 (pC (.int 2))) pNil))))) (pFrz (pCallA 2 g_blown (pCons (pVar 2) (pCons (pVar 3) pNil))))))))
    (pRet (pMove 2))))
abbrev N_entries_with : List Str := [("entries" : Str), ("words" : Str), ("entry" : Str)]
def T_entries_with : TSp :=
  (pRet (pLcO (jSeq (pVar 0)) (hName 2) (pTest (pOp fInT (pIxO 2 (pC (.int 0))) (pVar 1))) (pCB fTup (pCons (pVar 2) pNil)) [2]))
abbrev N_outcome : List Str := [("dune" : Str), ("entry" : Str)]
def T_outcome (g_amounts : FA) (g_is_hand : FA) (g_done : FA) : TSp :=
  (pRet (pVal (pTup (pCons (pFrz (pCallA 2 g_done (pCons (pVar 0) (pCons (pLst (pCons (pVar 1) pNil)) pNil)))) (pCons (pIf (pTest (pFrz (pCallA 1 g_is_hand (pCons (pVar 1) pNil)))) (pC .non) (pOp fIx (pFrz (pCallA 2 g_amounts (pCons (pVar 0) (pCons (pLst (pCons (pVar 1) pNil)) pNil)))) (pC (.int 0)))) pNil)))))
abbrev N__law_entry : List Str := [("_law_box_here" : Str), ("_law_posts" : Str), ("_law_way" : Str), ("_law_by" : Str), ("_law_wind" : Str)]
def T__law_entry (g__law_take : FB) (g__law_slope : FB) : TSp :=
  (pSeq (pPar 2 3 (pCons (pFrz (pCallB 0 2 g__law_take (pCons (pC (.int 4)) pNil))) (pCons (pOp fIx (pLst (pCons (pC (.int 1)) (pCons (pUn fNeg (pC (.int 1))) (pCons (pOp fAdd (pC (.int 1)) (pFrz (pCallB 0 2 g__law_take (pCons (pC (.int 20)) pNil)))) (pCons (pOp fSub (pUn fNeg (pC (.int 1))) (pFrz (pCallB 0 2 g__law_take (pCons (pC (.int 20)) pNil)))) pNil))))) (pFrz (pCallB 0 2 g__law_take (pCons (pC (.int 4)) pNil)))) pNil)))
    (pSeq (pSet 4 (pVal (pTup (pCons (pOp fIx (pLst (pCons (pC (.str "cut")) (pCons (pC (.str "fill")) pNil))) (pOp fMod (pVar 2) (pC (.int 2)))) (pCons (pFrz (pCallB 0 1 g__law_slope pNil)) pNil)))))
    (pRet (pVal (pIf (pTest (pOp fEq (pVar 2) (pC (.int 3)))) (pTup (pCons (pC (.str "hand")) (pCons (pFrz (pCallB 0 2 g__law_take (pCons (pVar 1) pNil))) (pCons (pVar 3) pNil)))) (pVar 4))))))
abbrev N__law_do_one : List Str := [("_law_yard" : Str), ("_law_entry_here" : Str)]
def T__law_do_one (Cy : Addr) (g_Yard_blow : FM) (g_Yard_hand : FM) : TSp :=
  (pSeq (pIfS (pTest (pOp fEq (pIxO 1 (pC (.int 0))) (pC (.str "hand"))))
    (pRet (pCallM 0 Cy "hand" 3 g_Yard_hand (pCons (pIxO 1 (pC (.int 1))) (pCons (pIxO 1 (pC (.int 2))) pNil))))
    pNext)
    (pRet (pCallM 0 Cy "blow" 3 g_Yard_blow (pCons (pIxO 1 (pC (.int 0))) (pCons (pIxO 1 (pC (.int 1))) pNil)))))
abbrev N_Yard___init__ : List Str := [("self" : Str), ("dune" : Str)]
def T_Yard___init__ (Cy : Addr) : TSp :=
  (pSeq (pFldSet 0 Cy "origin" (pCB fTup (pCons (pVar 1) pNil)))
    (pSeq (pFldSetC 0 Cy "standing" (pLstO pNil))
    (pFldSetC 0 Cy "notes" (pLstO pNil))))
abbrev N_Yard_blow : List Str := [("self" : Str), ("word" : Str), ("slope" : Str)]
def T_Yard_blow (Cy : Addr) (g_Yard_do_all : FM) : TSp :=
  (pRet (pVal (pOp fIx (pFrz (pCallM 0 Cy "do_all" 2 g_Yard_do_all (pCons (pLst (pCons (pTup (pCons (pVar 1) (pCons (pVar 2) pNil))) pNil)) pNil))) (pC (.int 0)))))
abbrev N_Yard_hand : List Str := [("self" : Str), ("post" : Str), ("by" : Str)]
def T_Yard_hand (Cy : Addr) (g_Yard_do_all : FM) : TSp :=
  (pDrop (pFrz (pCallM 0 Cy "do_all" 2 g_Yard_do_all (pCons (pLst (pCons (pTup (pCons (pC (.str "hand")) (pCons (pVar 1) (pCons (pVar 2) pNil)))) pNil)) pNil))))
abbrev N_Yard_do_all : List Str := [("self" : Str), ("entries" : Str), ("now" : Str), ("told" : Str), ("entry" : Str), ("word" : Str), ("what" : Str)]
def T_Yard_do_all (Cy : Addr) (g_is_hand : FA) (g_outcome : FA) (g_Yard_dune : FM) : TSp :=
  (pSeq (pSet 2 (pCallM 0 Cy "dune" 1 g_Yard_dune pNil))
    (pSeq (pSet 3 (pLstO pNil))
    (pSeq (pFor (jSeq (pVar 1)) (hName 4)
    (pSeq (pSet 5 (pVal (pIf (pTest (pFrz (pCallA 1 g_is_hand (pCons (pVar 4) pNil)))) (pC (.str "hand")) (pC (.str "blow")))))
    (pSeq (pFldApp 0 Cy "notes" (pTup (pCons (pC (.str "in")) (pCons (pVar 5) pNil))))
    (pSeq (pTryFin (pAsg (pFrz (pCallA 2 g_outcome (pCons (pVar 2) (pCons (pVar 4) pNil)))) (hTup 2 (hCons (hName 2) (hCons (hName 6) hNil))))
    (pFldApp 0 Cy "notes" (pTup (pCons (pC (.str "out")) (pCons (pVar 5) pNil)))))
    (pAppend 3 (pVar 6))))))
    (pSeq (pFldApp 0 Cy "standing" (pCB fTup (pCons (pLc (jSeq (pVar 1)) (hName 4) pYes (pCB fTup (pCons (pVar 4) pNil)) [4]) pNil)))
    (pRet (pMove 3))))))
abbrev N_Yard_dune : List Str := [("self" : Str)]
def T_Yard_dune (Cy : Addr) (g_done : FA) (g_Yard_entries : FM) : TSp :=
  (pRet (pCallA 2 g_done (pCons (pFldV 0 Cy "origin") (pCons (pFrz (pCallM 0 Cy "entries" 1 g_Yard_entries pNil)) pNil))))
abbrev N_Yard_entries : List Str := [("self" : Str), ("deed" : Str), ("entry" : Str)]
def T_Yard_entries (Cy : Addr) : TSp :=
  (pRet (pLc2F 0 Cy "standing" (hName 1) pYes (jSeq (pVar 1)) (hName 2) pYes (pVar 2) [1, 2] [2]))
abbrev N_Yard_kept_by : List Str := [("self" : Str), ("word" : Str)]
def T_Yard_kept_by (Cy : Addr) (g_entries_with : FA) (g_Yard_entries : FM) : TSp :=
  (pRet (pCallA 2 g_entries_with (pCons (pFrz (pCallM 0 Cy "entries" 1 g_Yard_entries pNil)) (pCons (pTup (pCons (pVar 1) (pCons (pC (.str "hand")) pNil))) pNil))))
abbrev N_slopes_between : List Str := [("book" : Str), ("rows" : Str), ("entry" : Str)]
abbrev N_same_hands : List Str := [("cutter" : Str), ("filler" : Str), ("ours" : Str), ("theirs" : Str), ("number" : Str)]
def T_same_hands (g_entries_with : FA) : TSp :=
  (pSeq (pSet 2 (pCallA 2 g_entries_with (pCons (pVar 0) (pCons (pTup (pCons (pC (.str "hand")) pNil)) pNil))))
    (pSeq (pSet 3 (pCallA 2 g_entries_with (pCons (pVar 1) (pCons (pTup (pCons (pC (.str "hand")) pNil)) pNil))))
    (pSeq (pFor (jRng1 (pCons (pCB fMax2 (pCons (pLenO 2) (pCons (pLenO 3) pNil))) pNil)) (hName 4)
    (pIfS (pTest (pOp fNe (pSl (pVar 2) (pPart (pVar 4)) (pPart (pOp fAdd (pVar 4) (pC (.int 1))))) (pSl (pVar 3) (pPart (pVar 4)) (pPart (pOp fAdd (pVar 4) (pC (.int 1)))))))
    pNever
    pNext))
    (pRet (pMove 2)))))
abbrev N_stretches : List Str := [("cutter" : Str), ("filler" : Str), ("hands" : Str)]
def T_stretches (g_slopes_between : FA) (g_same_hands : FA) : TSp :=
  (pSeq (pSet 2 (pCallA 2 g_same_hands (pCons (pVar 0) (pCons (pVar 1) pNil))))
    (pRet (pVal (pLstZ3 (pCons (pFrz (pCallA 1 g_slopes_between (pCons (pVar 0) pNil))) (pCons (pFrz (pCallA 1 g_slopes_between (pCons (pVar 1) pNil))) (pCons (pLst (pStar (pVar 2) (pCons (pC .non) pNil))) pNil)))))))
abbrev N_all_of_one_first : List Str := [("parts" : Str), ("word" : Str), ("entries" : Str), ("cuts" : Str), ("fills" : Str), ("hand" : Str), ("early" : Str), ("late" : Str)]
def T_all_of_one_first (g_almanac_of : FA) : TSp :=
  (pSeq (pSet 2 (pLstO pNil))
    (pSeq (pFor (jSeq (pVar 0)) (hTup 3 (hCons (hName 3) (hCons (hName 4) (hCons (hName 5) hNil))))
    (pSeq (pPar 6 7 (pCons (pOp fMulS (pC (.str "c")) (pLenO 3)) (pCons (pOp fMulS (pC (.str "f")) (pLenO 4)) pNil)))
    (pSeq (pExtend 2 (pFrz (pCallA 3 g_almanac_of (pCons (pVar 3) (pCons (pVar 4) (pCons (pIf (pTest (pOp fEq (pVar 1) (pC (.str "cut")))) (pOp fAdd (pVar 6) (pVar 7)) (pOp fAdd (pVar 7) (pVar 6))) pNil))))))
    (pIfS (pTest (pOp fNotN (pVar 5) (pC .non)))
    (pAppend 2 (pVar 5))
    pNext))))
    (pRet (pMove 2))))
abbrev N_long_may : List Str := [("dune" : Str), ("cutter" : Str), ("filler" : Str), ("parts" : Str)]
def T_long_may (g_done : FA) (g_stretches : FA) (g_all_of_one_first : FA) : TSp :=
  (pSeq (pSet 3 (pCallA 2 g_stretches (pCons (pVar 1) (pCons (pVar 2) pNil))))
    (pRet (pVal (pTup (pCons (pFrz (pCallA 2 g_done (pCons (pVar 0) (pCons (pFrz (pCallA 2 g_all_of_one_first (pCons (pVar 3) (pCons (pC (.str "cut")) pNil)))) pNil)))) (pCons (pFrz (pCallA 2 g_done (pCons (pVar 0) (pCons (pFrz (pCallA 2 g_all_of_one_first (pCons (pVar 3) (pCons (pC (.str "fill")) pNil)))) pNil)))) pNil))))))
abbrev N_Yard_undo : List Str := [("self" : Str), ("stands" : Str)]
def T_Yard_undo (Cy : Addr) : TSp :=
  (pSeq (pFldApp 0 Cy "notes" (pTup (pCons (pC (.str "in")) (pCons (pC (.str "undo")) pNil))))
    (pSeq (pSet 1 (pVal (pOp fGt (pFldLen 0 Cy "standing") (pC (.int 0)))))
    (pSeq (pIfS (pTest (pVar 1))
    (pDrop (pFldPop 0 Cy "standing"))
    pNext)
    (pSeq (pFldApp 0 Cy "notes" (pTup (pCons (pC (.str "out")) (pCons (pC (.str "undo")) pNil))))
    (pRet (pMove 1))))))
abbrev N_Yard_may : List Str := [("self" : Str)]
def T_Yard_may (Cy : Addr) (g_long_may : FA) (g_Yard_kept_by : FM) : TSp :=
  (pRet (pCallA 3 g_long_may (pCons (pFldV 0 Cy "origin") (pCons (pFrz (pCallM 0 Cy "kept_by" 2 g_Yard_kept_by (pCons (pC (.str "cut")) pNil))) (pCons (pFrz (pCallM 0 Cy "kept_by" 2 g_Yard_kept_by (pCons (pC (.str "fill")) pNil))) pNil)))))
end Pl
namespace Pl
open PySem PySem.Spec PyProof.Rows L2
def difL (a b : List Int) : List Int := List.zipWith (fun x y => y - x) a b
def widL (a b : List Int) : Int := maxOf ((difL a b).map iabs)
theorem difL_len {a b : List Int} (h : a.length = b.length) : (difL a b).length = a.length := by unfold difL; simp; omega
theorem difL_ne {a b : List Int} (h : a.length = b.length) (hne : a ≠ []) : difL a b ≠ [] := ne_len (difL_len h) hne
def g_rises : FA := fun ds C => ∃ d a e b, ds = [d, e] ∧ Sq d a ∧ Sq e b ∧ a.length = b.length ∧ a.length ≤ 1000 ∧ C (.val (tD (difL a b)))
theorem rd_rises : ∀ ds C, ds.length = 2 → g_rises ds C → T_rises { nx := fun _ => C (.val .non), rt := fun c _ => C c } (startA N_rises ds) := by
  rintro ds C - ⟨d, a, e, b, rfl, hd, he, hl, ha, hC⟩
  have key : lcW [2, 3] (hTup 2 (hCons (hName 2) (hCons (hName 3) hNil))) pYes (pOp fSub (pVar 3) (pVar 2)) (fun acc ρ2 => C (.val (.tup acc))) (zipD (dI a) (dI b)) [] [some (.val d), some (.val e), none, none] := by
    refine lcW_z2 (h := fun x y => .int (y - x)) (fun x _ y _ K hK => ⟨rfl, rfl, hK _ rfl⟩) ha ?_
    rw [zip_int]; exact hC
  have hb : (!(D.int ((dI a).length : Nat)).eqv (.int ((dI b).length : Nat))) = false := by rw [eqv_int, ints_len, ints_len, hl]; simp
  rcases hd with rfl | rfl <;> rcases he with rfl | rfl <;> exact ⟨sh_int _, sh_int _, ifF hb key⟩
def g_gaps : FA := fun ds C => ∃ d a e b, ds = [d, e] ∧ Sq d a ∧ Sq e b ∧ a.length = b.length ∧ a.length ≤ 1000 ∧ ∀ p, C (.own p (dI ((difL a b).map iabs)))
theorem rd_gaps : ∀ ds C, ds.length = 2 → g_gaps ds C → T_gaps g_rises { nx := fun _ => C (.val .non), rt := fun c _ => C c } (startA N_gaps ds) := by
  rintro ds C - ⟨d, a, e, b, rfl, hd, he, hl, ha, hC⟩
  refine ⟨rfl, d, a, e, b, rfl, hd, he, hl, ha, ?_⟩
  refine lcW_ints (h := fun x => .int (iabs x)) (fun x _ K hK => hK _ rfl) (by rw [difL_len hl]; exact ha) fun p => ?_
  have := hC p
  unfold dI at this
  rw [List.map_map] at this
  exact this
def g_width : FA := fun ds C => ∃ d a e b, ds = [d, e] ∧ Sq d a ∧ Sq e b ∧ a.length = b.length ∧ a ≠ [] ∧ a.length ≤ 1000 ∧ C (.val (.int (widL a b)))
theorem rd_width : ∀ ds C, ds.length = 2 → g_width ds C → T_width g_gaps { nx := fun _ => C (.val .non), rt := fun c _ => C c } (startA N_width ds) := by
  rintro ds C - ⟨d, a, e, b, rfl, hd, he, hl, hne, ha, hC⟩
  refine ⟨rfl, d, a, e, b, rfl, hd, he, hl, ha, fun p => ?_⟩
  obtain ⟨n, r, h1, h2⟩ := maxOf_cons (l := (difL a b).map iabs) (map_ne (difL_ne hl hne))
  refine ⟨n, r, by rw [h1], ?_⟩
  rw [← h2]; exact hC
def g_is_below : FA := fun ds C => ∃ d a e b, ds = [d, e] ∧ Sq d a ∧ Sq e b ∧ a.length = b.length ∧ a ≠ [] ∧ a.length ≤ 1000 ∧ C (.val (.bl (decide (0 ≤ minOf (difL a b)))))
theorem rd_is_below : ∀ ds C, ds.length = 2 → g_is_below ds C → T_is_below g_rises { nx := fun _ => C (.val .non), rt := fun c _ => C c } (startA N_is_below ds) := by
  rintro ds C - ⟨d, a, e, b, rfl, hd, he, hl, hne, ha, hC⟩
  refine ⟨rfl, d, a, e, b, rfl, hd, he, hl, ha, ?_⟩
  obtain ⟨n, r, h1, h2⟩ := minOf_cons (l := difL a b) (difL_ne hl hne)
  refine ⟨n, r, by rw [h1], ?_⟩
  rw [← h2]; exact hC
theorem below_lq {a b : List Int} (h : Lq a b) (hne : a ≠ []) : decide (0 ≤ minOf (difL a b)) = true := decide_eq_true (le_minOf (difL_ne h.length hne) (diff_nonneg h))
theorem wid_near : ∀ {a b : List Int} {c : Int}, (∀ t ∈ (difL a b).map iabs, t ≤ c) → a.length = b.length → Lq (a.map fun x => x + -c) b ∧ Lq b (a.map fun x => x + c)
  | [], [], _, _, _ => ⟨trivial, trivial⟩
  | x :: a, y :: b, c, h, hl => by
    have h0 : iabs (y - x) ≤ c := h _ (by simp [difL])
    have h1 := wid_near (a := a) (b := b) (c := c) (fun t ht => h t (by
      show t ∈ iabs (y - x) :: (difL a b).map iabs
      simp [ht])) (by simpa using hl)
    unfold iabs at h0
    refine ⟨⟨?_, h1.1⟩, ⟨?_, h1.2⟩⟩
    · show x + -c ≤ y; split at h0 <;> omega
    · show y ≤ x + c; split at h0 <;> omega
  | [], _ :: _, _, _, hl => by simp at hl
  | _ :: _, [], _, _, hl => by simp at hl
theorem near_wid : ∀ {a b : List Int} {c : Int}, Lq (a.map fun x => x + -c) b → Lq b (a.map fun x => x + c) → ∀ t ∈ (difL a b).map iabs, t ≤ c
  | [], [], _, _, _, t, h => by simp [difL] at h
  | x :: a, y :: b, c, h1, h2, t, h => by
    have h : t ∈ iabs (y - x) :: (difL a b).map iabs := h
    have e1 : x + -c ≤ y := h1.1
    have e2 : y ≤ x + c := h2.1
    rcases List.mem_cons.mp h with e | h
    · rw [e]; unfold iabs; split <;> omega
    · exact near_wid h1.2 h2.2 t h
  | [], _ :: _, _, h, _, _, _ => h.elim
  | _ :: _, [], _, h, _, _, _ => h.elim
theorem widL_le {a b : List Int} {c : Int} (hl : a.length = b.length) (hne : a ≠ []) : widL a b ≤ c ↔ Lq (a.map fun x => x + -c) b ∧ Lq b (a.map fun x => x + c) := by
  refine ⟨fun h => wid_near (fun t ht => Int.le_trans (le_maxOf ht) h) hl, fun h => maxOf_le (map_ne (difL_ne hl hne)) (near_wid h.1 h.2)⟩
theorem widL_blW {a b : List Int} {w : Wd} (hw : 0 ≤ w.2) (hl : a.length = b.length) (hne : a ≠ []) : widL (blW a w) (blW b w) ≤ widL a b := by
  obtain ⟨h1, h2⟩ := (widL_le hl hne).mp (Int.le_refl (widL a b))
  refine (widL_le (by rw [blW_len, blW_len, hl]) (blW_ne hne w)).mpr ⟨?_, ?_⟩
  · have := blown_mono (c := w.1) hw h1
    rw [blown_shift hw] at this
    exact this
  · have := blown_mono (c := w.1) hw h2
    rw [blown_shift hw] at this
    exact this
end Pl
namespace Pl
open PySem PySem.Spec PyProof.Rows L2
def All2 (Pd : D → Int → Prop) : List D → List Int → Prop
  | [], [] => True
  | d :: ds, y :: ys => Pd d y ∧ All2 Pd ds ys
  | _, _ => False
theorem All2.length {Pd : D → Int → Prop} : ∀ {ds : List D} {ys : List Int}, All2 Pd ds ys → ys.length = ds.length
  | [], [], _ => rfl
  | _ :: ds, _ :: ys, h => by simp [All2.length h.2]
  | [], _ :: _, h => h.elim
  | _ :: _, [], h => h.elim
theorem All2.mem {Pd : D → Int → Prop} : ∀ {ds : List D} {ys : List Int} {y : Int}, All2 Pd ds ys → y ∈ ys → ∃ d ∈ ds, Pd d y
  | [], [], _, _, h => by simp at h
  | d :: ds, z :: ys, y, h, hy => by
    rcases List.mem_cons.mp hy with e | hy
    · subst e; exact ⟨d, by simp, h.1⟩
    · obtain ⟨e, he, p⟩ := All2.mem h.2 hy
      exact ⟨e, by simp [he], p⟩
  | [], _ :: _, _, h, _ => h.elim
  | _ :: _, [], _, h, _ => h.elim
theorem lcW_draw {vs : List Nat} {g : TGp} {te : TEp} {Q : List D → Ro → Prop} (ρf : List D → Ro) (k N : Nat) (Pre : D → Prop) (Pd : D → Int → Prop)
    (hs : ∀ (d : D) (zs : List D) (n : Nat) (K : D → Ro → Prop), Pre d → Bx n zs → n ≤ N → (∀ (y : Int) (zs' : List D) (ρ4 : Ro), Bx (n + k) zs' → Pd d y → restore (ρf zs) ρ4 vs = ρf zs' → K (.int y) ρ4) → g d (wipeP (ρf zs) vs) fun ρ2 => te ρ2 K) :
    ∀ (ds acc : List D) (n : Nat) (zs : List D), Bx n zs → n + k * ds.length ≤ N → (∀ d ∈ ds, Pre d) → acc.length + ds.length ≤ 1000 → (∀ (out : List Int) (zs' : List D), All2 Pd ds out → Bx (n + k * ds.length) zs' → Q (acc ++ dI out) (ρf zs')) → lcW vs g pYes te Q ds acc (ρf zs)
  | [], acc, n, zs, hB, hn, _, _, hQ => by
    have hQ : Q (acc ++ []) (ρf zs) := hQ [] zs trivial hB
    rw [List.append_nil] at hQ
    exact hQ
  | d :: ds, acc, n, zs, hB, hn, hp, hl, hQ => by
    have hl' : acc.length + (ds.length + 1) ≤ 1000 := hl
    have e1 : k * (d :: ds).length = k + k * ds.length := by rw [List.length_cons, Nat.mul_add, Nat.mul_one]; omega
    rw [e1] at hn hQ
    refine hs d zs n _ (hp d (by simp)) hB (by omega) fun y zs' ρ4 hB' hy e => ⟨small1000 (by omega), ?_⟩
    rw [e]
    refine lcW_draw ρf k N Pre Pd hs ds _ (n + k) zs' hB' (by omega) (fun x hx => hp x (by simp [hx])) (by rw [List.length_append]; show acc.length + 1 + ds.length ≤ 1000; omega) fun out zs2 ho hB2 => ?_
    rw [List.append_assoc]
    exact hQ (y :: out) zs2 ⟨hy, ho⟩ (by rw [← Nat.add_assoc]; exact hB2)
theorem Bx.le {n m : Nat} {xs : List D} (h : Bx n xs) (hm : n ≤ m) : Bx m xs := h.mono hm
end Pl
namespace Pl
open PySem PySem.Spec PyProof.Rows L2
def handL (v : Int) : Nat → List Int → List Int
  | _, [] => []
  | 0, x :: r => (x + v) :: r
  | q + 1, x :: r => x :: handL v q r
theorem handL_len (v : Int) : ∀ (q : Nat) (l : List Int), (handL v q l).length = l.length
  | _, [] => by cases ‹Nat› <;> rfl
  | 0, _ :: _ => rfl
  | q + 1, x :: r => by simp [handL, handL_len v q r]
theorem lcW_enumI {vs : List Nat} {g : TGp} {te : TEp} {Q : List D → Ro → Prop} {h : Nat → Int → D} {ρ : Ro} : ∀ (l : List Int) (k : Nat) (acc : List D), (∀ i x, l[i]? = some x → ElemOk vs g te ρ (.tup [.int ((k + i : Nat) : Int), .int x]) (h (k + i) x)) → acc.length + l.length ≤ 1000 → Q (acc ++ (enumFrom h k l)) ρ → lcW vs g pYes te Q (enumD k (dI l)) acc ρ
  | [], k, acc, _, _, hQ => by
    have hQ : Q (acc ++ []) ρ := hQ
    rw [List.append_nil] at hQ
    exact hQ
  | x :: l, k, acc, hs, hl, hQ => by
    have hl' : acc.length + (l.length + 1) ≤ 1000 := hl
    refine hs 0 x rfl _ fun ρ4 e => ⟨small1000 (by omega), ?_⟩
    rw [e]
    refine lcW_enumI (h := h) l (k + 1) _ (fun i y hy => ?_) (by rw [List.length_append]; show acc.length + 1 + l.length ≤ 1000; omega) ?_
    · have := hs (i + 1) y (by simpa using hy)
      rw [show k + (i + 1) = k + 1 + i by omega] at this
      exact this
    · rw [List.append_assoc]
      exact hQ
theorem enum_hand (v : Int) : ∀ (l : List Int) (k q : Nat), enumFrom (fun j x => D.int (if ((j : Nat) : Int) = ((k + q : Nat) : Int) then x + v else x)) k l = dI (handL v q l)
  | [], _, q => by cases q <;> rfl
  | x :: l, k, 0 => by
    show D.int (if ((k : Nat) : Int) = ((k + 0 : Nat) : Int) then x + v else x) :: enumFrom _ (k + 1) l = D.int (x + v) :: dI l
    rw [if_pos (by omega)]
    congr 1
    have : ∀ (l : List Int) (m : Nat), k < m → enumFrom (fun (j : Nat) x => D.int (if ((j : Nat) : Int) = ((k + 0 : Nat) : Int) then x + v else x)) m l = dI l := by
      intro l
      induction l with
      | nil => intro m _; rfl
      | cons y l ih =>
        intro m hm
        show D.int (if ((m : Nat) : Int) = ((k + 0 : Nat) : Int) then y + v else y) :: enumFrom _ (m + 1) l = D.int y :: dI l
        rw [if_neg (by omega), ih (m + 1) (by omega)]
    exact this l (k + 1) (by omega)
  | x :: l, k, q + 1 => by
    show D.int (if ((k : Nat) : Int) = ((k + (q + 1) : Nat) : Int) then x + v else x) :: enumFrom _ (k + 1) l = D.int x :: dI (handL v q l)
    rw [if_neg (by omega), ← enum_hand v l (k + 1) q, show k + (q + 1) = k + 1 + q by omega]
def g_handed : FA := fun ds C => ∃ d ns q v, ds = [d, .int ((q : Nat) : Int), .int v] ∧ Sq d ns ∧ q < ns.length ∧ ns.length ≤ 1000 ∧ C (.val (tD (handL v q ns)))
theorem rd_handed : ∀ ds C, ds.length = 3 → g_handed ds C → T_handed { nx := fun _ => C (.val .non), rt := fun c _ => C c } (startA N_handed ds) := by
  rintro ds C - ⟨d, ns, q, v, rfl, hd, hq, hl, hC⟩
  have key : lcW [3, 4] (hTup 2 (hCons (hName 3) (hCons (hName 4) hNil))) pYes (pIf (pTest (pOp fEq (pVar 3) (pVar 1))) (pOp fAdd (pVar 4) (pVar 2)) (pVar 4)) (fun acc ρ2 => C (.val (.tup acc))) (enumD 0 (dI ns)) [] [some (.val d), some (.val (.int (q : Int))), some (.val (.int v)), none, none] := by
    refine lcW_enumI (h := fun j x => .int (if ((j : Nat) : Int) = ((0 + q : Nat) : Int) then x + v else x)) ns 0 [] (fun i x hx K hK => ?_) (by simpa using hl) ?_
    · refine ⟨rfl, rfl, sh_int _, sh_int _, ?_⟩
      have e : ((D.int ((0 + i : Nat) : Int)).eqv (.int (q : Int))) = decide (((0 + i : Nat) : Int) = ((0 + q : Nat) : Int)) := by rw [eqv_int, Nat.zero_add q]; rfl
      refine ifB (fun h => ?_) (fun h => ?_)
      · rw [e] at h; have := hK; rw [if_pos (dT h)] at this; exact this _ rfl
      · rw [e] at h; have := hK; rw [if_neg (dF h)] at this; exact this _ rfl
    · rw [List.nil_append, enum_hand]; exact hC
  have b : ((q : Int) < ((dI ns).length : Nat)) := by rw [ints_len]; omega
  rcases hd with rfl | rfl
  · exact ifF (by rw [decide_eq_true b]; rfl) key
  · exact ifF (by rw [decide_eq_true b]; rfl) key
end Pl
namespace Pl
open PySem PySem.Spec PyProof.Rows L2
abbrev EA (C : Cell → Prop) : PEnds := { nx := fun _ => C (.val .non), rt := fun c _ => C c }
end Pl
namespace Pl
open PySem PySem.Spec PyProof.Rows L2
abbrev EB (a : Addr) (C : Cell → List D → Prop) : PEnds := { nx := fun ρ => ∃ ys, ρ[0]? = some (some (.own a ys)) ∧ C (.val .non) ys, rt := fun c ρ => ∃ ys, ρ[0]? = some (some (.own a ys)) ∧ C c ys }
end Pl
namespace Pl
open PySem PySem.Spec PyProof.Rows L2
def fs : List Wd → Int → Option Bool
  | [], _ => none
  | w :: ws, t => if w.2 ≤ t then some w.1 else fs ws t
def Cor1 (w : Wd) : List Wd → Prop
  | [] => True
  | v :: r => v.2 < w.2 ∧ v.1 ≠ w.1 ∧ Cor1 v r
def Cor : List Wd → Prop
  | [] => True
  | w :: r => Cor1 w r
theorem Cor1.tail {w : Wd} : ∀ {r : List Wd}, Cor1 w r → Cor r
  | [], _ => trivial
  | _ :: _, h => h.2.2
def cnt (b : Bool) (ws : List Wd) : Nat → Nat
  | 0 => 0
  | h + 1 => cnt b ws h + if fs ws (h : Int) = some b then 1 else 0
def slL (ws : List Wd) : List Int := ws.map (·.2)
def parts (a b : List Wd) : List Int := (slL (a ++ b)).filter fun s => !(decide (fs a s = fs b s))
end Pl
namespace Pl
open PySem PySem.Spec PyProof.Rows L2
def AmW (a : D) (ws : List Wd) : Prop := ∃ ps : List (D × Wd), (a = .lst (ps.map Prod.fst) ∨ a = .tup (ps.map Prod.fst)) ∧ (∀ p ∈ ps, Wn p.1 p.2.1 p.2.2) ∧ ps.map Prod.snd = ws
theorem Am.w {a : D} {ws : List Wd} (h : Am a ws) : AmW a ws := by
  refine ⟨ws.map fun w => (windD w.1 w.2, w), ?_, fun p hp => ?_, by rw [List.map_map]; exact List.map_id' ws⟩
  · rcases h with rfl | rfl
    · exact .inl (by rw [List.map_map]; rfl)
    · exact .inr (by rw [List.map_map]; rfl)
  · obtain ⟨w, _, rfl⟩ := List.mem_map.mp hp
    exact .inl rfl
theorem AmW.lst (ws : List Wd) : AmW (.lst (windsD ws)) ws := Am.w (.inl rfl)
end Pl
namespace Pl
open PySem PySem.Spec PyProof.Rows L2
abbrev vo (a : Addr) (zs : List D) : Option Cell := some (.own a zs)
end Pl
namespace Pl
def cT : List Bool → Nat
  | [] => 0
  | true :: o => cT o + 1
  | false :: o => cT o
def cF : List Bool → Nat
  | [] => 0
  | true :: o => cF o
  | false :: o => cF o + 1
theorem cT_append : ∀ (a b : List Bool), cT (a ++ b) = cT a + cT b
  | [], b => by simp [cT]
  | true :: a, b => by show cT (a ++ b) + 1 = cT a + 1 + cT b; rw [cT_append a b]; omega
  | false :: a, b => cT_append a b
theorem cF_append : ∀ (a b : List Bool), cF (a ++ b) = cF a + cF b
  | [], b => by simp [cF]
  | false :: a, b => by show cF (a ++ b) + 1 = cF a + 1 + cF b; rw [cF_append a b]; omega
  | true :: a, b => cF_append a b
theorem cT_cF : ∀ o : List Bool, cT o + cF o = o.length
  | [] => rfl
  | true :: o => by have := cT_cF o; show cT o + 1 + cF o = o.length + 1; omega
  | false :: o => by have := cT_cF o; show cT o + (cF o + 1) = o.length + 1; omega
def almL (cuts fills : List Int) (i j : Nat) : List Bool → List Wd
  | [] => []
  | true :: o => (true, cuts.getD i 0) :: almL cuts fills (i + 1) j o
  | false :: o => (false, fills.getD j 0) :: almL cuts fills i (j + 1) o
theorem almL_len (cuts fills : List Int) : ∀ (o : List Bool) (i j : Nat), (almL cuts fills i j o).length = o.length
  | [], _, _ => rfl
  | true :: o, i, j => by simp [almL, almL_len cuts fills o]
  | false :: o, i, j => by simp [almL, almL_len cuts fills o]
theorem almL_snocT (cuts fills : List Int) : ∀ (o : List Bool) (i j : Nat), almL cuts fills i j (o ++ [true]) = almL cuts fills i j o ++ [(true, cuts.getD (i + cT o) 0)]
  | [], i, j => by simp [almL, cT]
  | true :: o, i, j => by
    show (true, cuts.getD i 0) :: almL cuts fills (i + 1) j (o ++ [true]) = (true, cuts.getD i 0) :: (almL cuts fills (i + 1) j o ++ [(true, cuts.getD (i + (cT o + 1)) 0)])
    rw [almL_snocT cuts fills o, show i + 1 + cT o = i + (cT o + 1) by omega]
  | false :: o, i, j => by
    show (false, fills.getD j 0) :: almL cuts fills i (j + 1) (o ++ [true]) = (false, fills.getD j 0) :: (almL cuts fills i (j + 1) o ++ [(true, cuts.getD (i + cT o) 0)])
    rw [almL_snocT cuts fills o]
theorem almL_snocF (cuts fills : List Int) : ∀ (o : List Bool) (i j : Nat), almL cuts fills i j (o ++ [false]) = almL cuts fills i j o ++ [(false, fills.getD (j + cF o) 0)]
  | [], i, j => by simp [almL, cF]
  | true :: o, i, j => by
    show (true, cuts.getD i 0) :: almL cuts fills (i + 1) j (o ++ [false]) = (true, cuts.getD i 0) :: (almL cuts fills (i + 1) j o ++ [(false, fills.getD (j + cF o) 0)])
    rw [almL_snocF cuts fills o]
  | false :: o, i, j => by
    show (false, fills.getD j 0) :: almL cuts fills i (j + 1) (o ++ [false]) = (false, fills.getD j 0) :: (almL cuts fills i (j + 1) o ++ [(false, fills.getD (j + (cF o + 1)) 0)])
    rw [almL_snocF cuts fills o, show j + 1 + cF o = j + (cF o + 1) by omega]
theorem getD_nonneg {l : List Int} (h : ∀ x ∈ l, 0 ≤ x) (i : Nat) : 0 ≤ l.getD i 0 := by
  rw [List.getD_eq_getElem?_getD]
  cases e : l[i]? with
  | none => simp
  | some x => simp; exact h x (List.mem_of_getElem? e)
theorem almL_nonneg {cuts fills : List Int} (hc : ∀ x ∈ cuts, 0 ≤ x) (hf : ∀ x ∈ fills, 0 ≤ x) : ∀ (o : List Bool) (i j : Nat), ∀ w ∈ almL cuts fills i j o, 0 ≤ w.2
  | [], _, _, w, h => by simp [almL] at h
  | true :: o, i, j, w, h => by
    rcases List.mem_cons.mp h with e | h
    · rw [e]; exact getD_nonneg hc i
    · exact almL_nonneg hc hf o _ _ w h
  | false :: o, i, j, w, h => by
    rcases List.mem_cons.mp h with e | h
    · rw [e]; exact getD_nonneg hf j
    · exact almL_nonneg hc hf o _ _ w h
theorem almL_memT (cuts fills : List Int) : ∀ (o : List Bool) (i j k : Nat), k < cT o → (true, cuts.getD (i + k) 0) ∈ almL cuts fills i j o
  | [], _, _, k, h => by simp [cT] at h
  | true :: o, i, j, 0, _ => by simp [almL]
  | true :: o, i, j, k + 1, h => by
    have := almL_memT cuts fills o (i + 1) j k (by have : k + 1 < cT o + 1 := h; omega)
    rw [show i + 1 + k = i + (k + 1) by omega] at this
    exact List.mem_cons_of_mem _ this
  | false :: o, i, j, k, h => List.mem_cons_of_mem _ (almL_memT cuts fills o i (j + 1) k h)
theorem almL_memF (cuts fills : List Int) : ∀ (o : List Bool) (i j k : Nat), k < cF o → (false, fills.getD (j + k) 0) ∈ almL cuts fills i j o
  | [], _, _, k, h => by simp [cF] at h
  | false :: o, i, j, 0, _ => by simp [almL]
  | false :: o, i, j, k + 1, h => by
    have := almL_memF cuts fills o i (j + 1) k (by have : k + 1 < cF o + 1 := h; omega)
    rw [show j + 1 + k = j + (k + 1) by omega] at this
    exact List.mem_cons_of_mem _ this
  | true :: o, i, j, k, h => List.mem_cons_of_mem _ (almL_memF cuts fills o (i + 1) j k h)
def aheadL (k : Nat) : List Bool → List Nat
  | [] => []
  | true :: o => aheadL (k + 1) o
  | false :: o => k :: aheadL k o
theorem aheadL_len : ∀ (o : List Bool) (k : Nat), (aheadL k o).length = cF o
  | [], _ => rfl
  | true :: o, k => aheadL_len o (k + 1)
  | false :: o, k => by show (aheadL k o).length + 1 = cF o + 1; rw [aheadL_len o k]
theorem aheadL_snocT : ∀ (o : List Bool) (k : Nat), aheadL k (o ++ [true]) = aheadL k o
  | [], _ => rfl
  | true :: o, k => aheadL_snocT o (k + 1)
  | false :: o, k => by show k :: aheadL k (o ++ [true]) = k :: aheadL k o; rw [aheadL_snocT o k]
theorem aheadL_snocF : ∀ (o : List Bool) (k : Nat), aheadL k (o ++ [false]) = aheadL k o ++ [k + cT o]
  | [], _ => by simp [aheadL, cT]
  | true :: o, k => by show aheadL (k + 1) (o ++ [false]) = aheadL (k + 1) o ++ [k + (cT o + 1)]; rw [aheadL_snocF o (k + 1), show k + 1 + cT o = k + (cT o + 1) by omega]
  | false :: o, k => by show k :: aheadL k (o ++ [false]) = k :: (aheadL k o ++ [k + cT o]); rw [aheadL_snocF o k]
theorem aheadL_le : ∀ (o : List Bool) (k : Nat), ∀ x ∈ aheadL k o, k ≤ x ∧ x ≤ k + cT o
  | [], _, x, h => by simp [aheadL] at h
  | true :: o, k, x, h => by
    have := aheadL_le o (k + 1) x h
    show k ≤ x ∧ x ≤ k + (cT o + 1); omega
  | false :: o, k, x, h => by
    rcases List.mem_cons.mp h with e | h
    · subst e; show x ≤ x ∧ x ≤ x + cT o; omega
    · exact aheadL_le o k x h
structure Dom (A B : List Bool) : Prop where
  t : cT B ≤ cT A
  f : cF A ≤ cF B
  le : ∀ (j x y : Nat), (aheadL 0 A)[j]? = some x → (aheadL 0 B)[j]? = some y → y ≤ x
theorem behindL_snoc (l : List Int) (ws : List Wd) (w : Wd) : behindL l (ws ++ [w]) = blW (behindL l ws) w := behindL_append l ws [w]
theorem get_snoc_lt {l : List Nat} {x y : Nat} {j : Nat} (h : l[j]? = some y) : (l ++ [x])[j]? = some y := by
  have hj : j < l.length := by
    rcases Nat.lt_or_ge j l.length with q | q
    · exact q
    · rw [List.getElem?_eq_none q] at h; cases h
  rw [List.getElem?_append_left hj]; exact h
theorem dom_le {cuts fills : List Int} (hc : ∀ x ∈ cuts, 0 ≤ x) (hf : ∀ x ∈ fills, 0 ≤ x) (l : List Int) : ∀ (n : Nat) (A B : List Bool), A.length + B.length ≤ n → Dom A B → Lq (behindL l (almL cuts fills 0 0 A)) (behindL l (almL cuts fills 0 0 B)) := by
  intro n
  induction n with
  | zero =>
    intro A B hn D
    have hA : A = [] := List.length_eq_zero_iff.mp (by omega)
    have hB : B = [] := List.length_eq_zero_iff.mp (by omega)
    subst hA hB
    exact Lq.refl _
  | succ n ih =>
    intro A B hn D
    rcases List.eq_nil_or_concat B with rfl | ⟨B', b, rfl⟩
    · rcases List.eq_nil_or_concat A with rfl | ⟨A', a, rfl⟩
      · exact Lq.refl _
      · rw [List.concat_eq_append] at *
        cases a with
        | false =>
          have := D.f
          rw [cF_append] at this
          simp [cF] at this
        | true =>
          rw [almL_snocT, behindL_snoc]
          have D' : Dom A' [] := ⟨Nat.zero_le _, by have := D.f; rw [cF_append] at this; simpa [cF] using this, fun j x y _ h => by simp [aheadL] at h⟩
          exact (cutTo_le _ _).trans (ih A' [] (by simp at hn ⊢; omega) D')
    · rw [List.concat_eq_append] at *
      cases b with
      | true =>
        rw [almL_snocT, behindL_snoc]
        have h1 := D.t
        rw [cT_append] at h1
        have h1 : cT B' + 1 ≤ cT A := h1
        have D' : Dom A B' := ⟨by omega, by have := D.f; rw [cF_append] at this; simpa [cF] using this, fun j x y hx hy => D.le j x y hx (by rw [aheadL_snocT]; exact hy)⟩
        have hg : Gentle (cuts.getD (0 + cT B') 0) (behindL l (almL cuts fills 0 0 A)) := behindL_gentle (almL_nonneg hc hf A 0 0) _ (almL_memT cuts fills A 0 0 (cT B') (by omega))
        exact cutTo_max hg (ih A B' (by simp at hn; omega) D')
      | false =>
        rcases List.eq_nil_or_concat A with rfl | ⟨A', a, rfl⟩
        · rw [almL_snocF, behindL_snoc]
          have D' : Dom [] B' := ⟨by have := D.t; rw [cT_append] at this; simpa [cT] using this, Nat.zero_le _, fun j x y h _ => by simp [aheadL] at h⟩
          exact (ih [] B' (by simp at hn ⊢; omega) D').trans (fillTo_ge _ _)
        · rw [List.concat_eq_append] at *
          cases a with
          | false =>
            rw [almL_snocF, behindL_snoc]
            have h1 := D.f
            rw [cF_append] at h1
            have h1 : cF A' + 1 ≤ cF (B' ++ [false]) := h1
            have D' : Dom A' (B' ++ [false]) := ⟨by have := D.t; rw [cT_append A'] at this; simpa [cT] using this, by omega, fun j x y hx hy => D.le j x y (by rw [aheadL_snocF]; exact get_snoc_lt hx) hy⟩
            have hg : Gentle (fills.getD (0 + cF A') 0) (behindL l (almL cuts fills 0 0 (B' ++ [false]))) := behindL_gentle (almL_nonneg hc hf _ 0 0) _ (almL_memF cuts fills _ 0 0 (cF A') (by omega))
            exact fillTo_min hg (ih A' (B' ++ [false]) (by simp at hn ⊢; omega) D')
          | true =>
            have ht := D.t
            have hff := D.f
            rw [cT_append, cT_append] at ht
            rw [cF_append, cF_append] at hff
            have ht : cT B' + 0 ≤ cT A' + 1 := ht
            have hff : cF A' + 0 ≤ cF B' + 1 := hff
            by_cases h1 : cF A' ≤ cF B'
            · have D' : Dom (A' ++ [true]) B' := ⟨by rw [cT_append]; show cT B' ≤ cT A' + 1; omega, by rw [cF_append]; show cF A' + 0 ≤ cF B'; omega, fun j x y hx hy => D.le j x y hx (by rw [aheadL_snocF]; exact get_snoc_lt hy)⟩
              rw [almL_snocF, behindL_snoc]
              exact (ih (A' ++ [true]) B' (by simp at hn ⊢; omega) D').trans (fillTo_ge _ _)
            · by_cases h2 : cT B' ≤ cT A'
              · have D' : Dom A' (B' ++ [false]) := ⟨by rw [cT_append]; show cT B' + 0 ≤ cT A'; omega, by rw [cF_append]; show cF A' ≤ cF B' + 1; omega, fun j x y hx hy => D.le j x y (by rw [aheadL_snocT]; exact hx) hy⟩
                rw [almL_snocT, behindL_snoc]
                exact (cutTo_le _ _).trans (ih A' (B' ++ [false]) (by simp at hn ⊢; omega) D')
              · exfalso
                have e : cF A' = cF B' + 1 := by omega
                have hlen := aheadL_len A' 0
                have hx : (aheadL 0 A')[cF B']? = some ((aheadL 0 A')[cF B']'(by omega)) := List.getElem?_eq_getElem (by omega)
                have hy : (aheadL 0 (B' ++ [false]))[cF B']? = some (0 + cT B') := by
                  rw [aheadL_snocF, List.getElem?_append_right (by rw [aheadL_len]; exact Nat.le_refl _), aheadL_len, Nat.sub_self]; rfl
                have := D.le _ _ _ (by rw [aheadL_snocT]; exact hx) hy
                have hm := aheadL_le A' 0 _ (List.mem_of_getElem? hx)
                omega
end Pl
namespace Pl
def Rise (m : Nat) : Nat → List Nat → Prop
  | d, [] => d ≤ m
  | d, a :: as => d ≤ a ∧ Rise m a as
def ordW (d : Nat) : List Nat → Nat → List Bool
  | [], m => List.replicate (m - d) true
  | a :: as, m => List.replicate (a - d) true ++ false :: ordW a as m
theorem Rise.le {m : Nat} : ∀ {as : List Nat} {d : Nat}, Rise m d as → d ≤ m
  | [], _, h => h
  | a :: as, d, h => Nat.le_trans h.1 (Rise.le h.2)
theorem cT_rep : ∀ n : Nat, cT (List.replicate n true) = n
  | 0 => rfl
  | n + 1 => by show cT (List.replicate n true) + 1 = n + 1; rw [cT_rep n]
theorem cF_rep : ∀ n : Nat, cF (List.replicate n true) = 0
  | 0 => rfl
  | n + 1 => cF_rep n
theorem ahead_rep (o : List Bool) : ∀ (n k : Nat), aheadL k (List.replicate n true ++ o) = aheadL (k + n) o
  | 0, k => rfl
  | n + 1, k => by
    show aheadL (k + 1) (List.replicate n true ++ o) = _
    rw [ahead_rep o n (k + 1), show k + 1 + n = k + (n + 1) by omega]
theorem ordW_cT {m : Nat} : ∀ {as : List Nat} {d : Nat}, Rise m d as → cT (ordW d as m) = m - d
  | [], d, _ => cT_rep _
  | a :: as, d, h => by
    show cT (List.replicate (a - d) true ++ false :: ordW a as m) = m - d
    rw [cT_append, cT_rep]
    show a - d + cT (ordW a as m) = m - d
    rw [ordW_cT h.2]
    have := h.1; have := h.2.le; omega
theorem ordW_cF (m : Nat) : ∀ (as : List Nat) (d : Nat), cF (ordW d as m) = as.length
  | [], d => cF_rep _
  | a :: as, d => by
    show cF (List.replicate (a - d) true ++ false :: ordW a as m) = as.length + 1
    rw [cF_append, cF_rep]
    show 0 + (cF (ordW a as m) + 1) = as.length + 1
    rw [ordW_cF m as a]; omega
theorem ordW_ahead {m : Nat} : ∀ {as : List Nat} {d : Nat}, Rise m d as → aheadL d (ordW d as m) = as
  | [], d, _ => by
    show aheadL d (List.replicate (m - d) true) = []
    have := ahead_rep [] (m - d) d
    rw [List.append_nil] at this
    rw [this]; rfl
  | a :: as, d, h => by
    show aheadL d (List.replicate (a - d) true ++ false :: ordW a as m) = a :: as
    rw [ahead_rep, show d + (a - d) = a by have := h.1; omega]
    show a :: aheadL a (ordW a as m) = a :: as
    rw [ordW_ahead h.2]
theorem ordW_step {m k : Nat} : ∀ {as : List Nat}, Rise m (k + 1) as → ordW k as m = true :: ordW (k + 1) as m
  | [], h => by
    have h : k + 1 ≤ m := h
    show List.replicate (m - k) true = true :: List.replicate (m - (k + 1)) true
    rw [show m - k = (m - (k + 1)) + 1 by omega]; rfl
  | a :: as, h => by
    have := h.1
    show List.replicate (a - k) true ++ false :: ordW a as m = true :: (List.replicate (a - (k + 1)) true ++ false :: ordW a as m)
    rw [show a - k = (a - (k + 1)) + 1 by omega]; rfl
theorem rise_ahead : ∀ (o : List Bool) (k : Nat), Rise (k + cT o) k (aheadL k o)
  | [], k => by show k ≤ k + 0; omega
  | true :: o, k => by
    show Rise (k + (cT o + 1)) k (aheadL (k + 1) o)
    have h := rise_ahead o (k + 1)
    rw [show k + 1 + cT o = k + (cT o + 1) by omega] at h
    generalize aheadL (k + 1) o = as at h
    cases as with
    | nil => show k ≤ _; omega
    | cons a as => exact ⟨by have := h.1; omega, h.2⟩
  | false :: o, k => ⟨Nat.le_refl _, rise_ahead o k⟩
theorem ord_of : ∀ (o : List Bool) (k : Nat), ordW k (aheadL k o) (k + cT o) = o
  | [], k => by show List.replicate (k + 0 - k) true = []; rw [show k + 0 - k = 0 by omega]; rfl
  | true :: o, k => by
    show ordW k (aheadL (k + 1) o) (k + (cT o + 1)) = true :: o
    have h := rise_ahead o (k + 1)
    rw [show k + 1 + cT o = k + (cT o + 1) by omega] at h
    rw [ordW_step h]
    have e := ord_of o (k + 1)
    rw [show k + 1 + cT o = k + (cT o + 1) by omega] at e
    rw [e]
  | false :: o, k => by
    show List.replicate (k - k) true ++ false :: ordW k (aheadL k o) (k + cT o) = false :: o
    rw [Nat.sub_self, ord_of o k]; rfl
theorem rise_get {m : Nat} : ∀ {as : List Nat} {d : Nat}, Rise m d as → ∀ (i j x y : Nat), i ≤ j → as[i]? = some x → as[j]? = some y → x ≤ y ∧ d ≤ x ∧ y ≤ m
  | [], _, _, i, j, x, y, _, h, _ => by simp at h
  | a :: as, d, h, 0, 0, x, y, _, h1, h2 => by
    have e1 : a = x := by simpa using h1
    have e2 : a = y := by simpa using h2
    subst e1 e2
    exact ⟨Nat.le_refl _, h.1, h.2.le⟩
  | a :: as, d, h, 0, j + 1, x, y, _, h1, h2 => by
    have e1 : a = x := by simpa using h1
    subst e1
    have h2 : as[j]? = some y := by simpa using h2
    have := rise_get h.2 j j y y (Nat.le_refl _) h2 h2
    exact ⟨this.2.1, h.1, this.2.2⟩
  | a :: as, d, h, i + 1, j + 1, x, y, hij, h1, h2 => by
    have := rise_get h.2 i j x y (by omega) (by simpa using h1) (by simpa using h2)
    exact ⟨this.1, Nat.le_trans h.1 this.2.1, this.2.2⟩
  | a :: as, d, h, i + 1, 0, x, y, hij, _, _ => by omega
theorem rise_of {m : Nat} (f : Nat → Nat) (hm : ∀ i, f i ≤ m) : ∀ (n k d : Nat), d ≤ m → (∀ i, k ≤ i → d ≤ f i) → (∀ i j, i ≤ j → f i ≤ f j) → Rise m d ((List.range' k n).map f)
  | 0, k, d, h0, _, _ => h0
  | n + 1, k, d, h0, hd, hf => ⟨hd k (Nat.le_refl _), rise_of f hm n (k + 1) (f k) (hm k) (fun i hi => hf k i (by omega)) hf⟩
abbrev Wo := Bool × Nat × Nat
def hasW (as : List Nat) (w : Wo) : Bool := w.1 == decide (w.2.1 < as.getD w.2.2 0)
def contr (u v : Wo) : Bool := match u.1, v.1 with
  | true, false => decide (v.2.1 ≤ u.2.1) && decide (u.2.2 ≤ v.2.2)
  | false, true => decide (u.2.1 ≤ v.2.1) && decide (v.2.2 ≤ u.2.2)
  | _, _ => false
def loN (ws : List Wo) (f : Nat) : Nat := ((ws.filter fun w => w.1 && decide (w.2.2 ≤ f)).map fun w => w.2.1 + 1).foldl max 0
def hiN (m : Nat) (ws : List Wo) (f : Nat) : Nat := ((ws.filter fun w => !w.1 && decide (f ≤ w.2.2)).map fun w => w.2.1).foldl min m
theorem nmax_le {b : Nat} : ∀ {l : List Nat} {a : Nat}, l.foldl max a ≤ b ↔ a ≤ b ∧ ∀ x ∈ l, x ≤ b
  | [], a => by simp
  | x :: l, a => by
    rw [List.foldl_cons, nmax_le]
    simp
    constructor
    · rintro ⟨h1, h2⟩; exact ⟨by omega, by omega, h2⟩
    · rintro ⟨h1, h2, h3⟩; exact ⟨by omega, h3⟩
theorem nmin_ge {b : Nat} : ∀ {l : List Nat} {a : Nat}, b ≤ l.foldl min a ↔ b ≤ a ∧ ∀ x ∈ l, b ≤ x
  | [], a => by simp
  | x :: l, a => by
    rw [List.foldl_cons, nmin_ge]
    simp
    constructor
    · rintro ⟨h1, h2⟩; exact ⟨by omega, by omega, h2⟩
    · rintro ⟨h1, h2, h3⟩; exact ⟨by omega, h3⟩
theorem lo_le {ws : List Wo} {f b : Nat} : loN ws f ≤ b ↔ ∀ w ∈ ws, w.1 = true → w.2.2 ≤ f → w.2.1 + 1 ≤ b := by
  unfold loN
  rw [nmax_le]
  constructor
  · rintro ⟨_, h⟩ w hw h1 h2
    exact h _ (List.mem_map.mpr ⟨w, List.mem_filter.mpr ⟨hw, by simp [h1, h2]⟩, rfl⟩)
  · intro h
    refine ⟨Nat.zero_le _, fun x hx => ?_⟩
    obtain ⟨w, hw, rfl⟩ := List.mem_map.mp hx
    obtain ⟨hw, hp⟩ := List.mem_filter.mp hw
    have hp : w.1 = true ∧ w.2.2 ≤ f := by simpa using hp
    exact h w hw hp.1 hp.2
theorem hi_ge {m : Nat} {ws : List Wo} {f b : Nat} : b ≤ hiN m ws f ↔ b ≤ m ∧ ∀ w ∈ ws, w.1 = false → f ≤ w.2.2 → b ≤ w.2.1 := by
  unfold hiN
  rw [nmin_ge]
  constructor
  · rintro ⟨h0, h⟩
    exact ⟨h0, fun w hw h1 h2 => h _ (List.mem_map.mpr ⟨w, List.mem_filter.mpr ⟨hw, by simp [h1, h2]⟩, rfl⟩)⟩
  · rintro ⟨h0, h⟩
    refine ⟨h0, fun x hx => ?_⟩
    obtain ⟨w, hw, rfl⟩ := List.mem_map.mp hx
    obtain ⟨hw, hp⟩ := List.mem_filter.mp hw
    have hp : w.1 = false ∧ f ≤ w.2.2 := by simpa using hp
    exact h w hw hp.1 hp.2
theorem lo_rise (ws : List Wo) {f g : Nat} (h : f ≤ g) : loN ws f ≤ loN ws g := lo_le.mpr fun w hw h1 h2 => lo_le.mp (Nat.le_refl (loN ws g)) w hw h1 (by omega)
theorem hi_rise (m : Nat) (ws : List Wo) {f g : Nat} (h : f ≤ g) : hiN m ws f ≤ hiN m ws g := hi_ge.mpr ⟨(hi_ge.mp (Nat.le_refl (hiN m ws f))).1, fun w hw h1 h2 => (hi_ge.mp (Nat.le_refl (hiN m ws f))).2 w hw h1 (by omega)⟩
def InB (m n : Nat) (ws : List Wo) : Prop := ∀ w ∈ ws, w.2.1 < m ∧ w.2.2 < n
theorem lo_top {m n : Nat} {ws : List Wo} (h : InB m n ws) (f : Nat) : loN ws f ≤ m := lo_le.mpr fun w hw _ _ => (h w hw).1
theorem hi_top (m : Nat) (ws : List Wo) (f : Nat) : hiN m ws f ≤ m := (hi_ge.mp (Nat.le_refl (hiN m ws f))).1
def loL (n : Nat) (ws : List Wo) : List Nat := (List.range' 0 n).map (loN ws)
def hiL (m n : Nat) (ws : List Wo) : List Nat := (List.range' 0 n).map (hiN m ws)
theorem loL_rise {m n : Nat} {ws : List Wo} (h : InB m n ws) : Rise m 0 (loL n ws) := rise_of _ (lo_top h) n 0 0 (Nat.zero_le _) (fun _ _ => Nat.zero_le _) fun _ _ h => lo_rise ws h
theorem hiL_rise (m n : Nat) (ws : List Wo) : Rise m 0 (hiL m n ws) := rise_of _ (hi_top m ws) n 0 0 (Nat.zero_le _) (fun _ _ => Nat.zero_le _) fun _ _ h => hi_rise m ws h
theorem has_between {m : Nat} {as : List Nat} (hr : Rise m 0 as) {ws : List Wo} (hb : InB m as.length ws) (h : ∀ w ∈ ws, hasW as w = true) {f x : Nat} (hx : as[f]? = some x) : loN ws f ≤ x ∧ x ≤ hiN m ws f := by
  refine ⟨lo_le.mpr fun w hw h1 h2 => ?_, hi_ge.mpr ⟨(rise_get hr f f x x (Nat.le_refl _) hx hx).2.2, fun w hw h1 h2 => ?_⟩⟩
  · have hh := h w hw
    unfold hasW at hh
    rw [h1] at hh
    have hlt : w.2.1 < as.getD w.2.2 0 := by simpa using hh
    have hg : as[w.2.2]? = some (as[w.2.2]'(hb w hw).2) := List.getElem?_eq_getElem _
    rw [List.getD_eq_getElem?_getD, hg] at hlt
    have := (rise_get hr _ _ _ _ h2 hg hx).1
    have hlt : w.2.1 < as[w.2.2]'(hb w hw).2 := hlt
    omega
  · have hh := h w hw
    unfold hasW at hh
    rw [h1] at hh
    have hlt : ¬ w.2.1 < as.getD w.2.2 0 := by simpa using hh
    have hg : as[w.2.2]? = some (as[w.2.2]'(hb w hw).2) := List.getElem?_eq_getElem _
    rw [List.getD_eq_getElem?_getD, hg] at hlt
    have := (rise_get hr _ _ _ _ h2 hx hg).1
    have hlt : ¬ w.2.1 < as[w.2.2]'(hb w hw).2 := hlt
    omega
theorem has_noclash {m : Nat} {as : List Nat} (hr : Rise m 0 as) {u v : Wo} (hu : u.2.2 < as.length) (hv : v.2.2 < as.length) (h1 : hasW as u = true) (h2 : hasW as v = true) : contr u v = false := by
  have key : ∀ {u v : Wo}, u.2.2 < as.length → v.2.2 < as.length → hasW as u = true → hasW as v = true → u.1 = true → v.1 = false → ¬ (v.2.1 ≤ u.2.1 ∧ u.2.2 ≤ v.2.2) := by
    intro u v hu hv h1 h2 e1 e2 hh
    unfold hasW at h1 h2
    rw [e1] at h1
    rw [e2] at h2
    have a1 : u.2.1 < as.getD u.2.2 0 := by simpa using h1
    have a2 : ¬ v.2.1 < as.getD v.2.2 0 := by simpa using h2
    have g1 : as[u.2.2]? = some (as[u.2.2]'hu) := List.getElem?_eq_getElem _
    have g2 : as[v.2.2]? = some (as[v.2.2]'hv) := List.getElem?_eq_getElem _
    rw [List.getD_eq_getElem?_getD, g1] at a1
    rw [List.getD_eq_getElem?_getD, g2] at a2
    have a1 : u.2.1 < as[u.2.2]'hu := a1
    have a2 : ¬ v.2.1 < as[v.2.2]'hv := a2
    have := (rise_get hr _ _ _ _ hh.2 g1 g2).1
    omega
  unfold contr
  cases e1 : u.1 with
  | true =>
    cases e2 : v.1 with
    | true => rfl
    | false => have := key hu hv h1 h2 e1 e2; simpa using fun h => by have := this; omega
  | false =>
    cases e2 : v.1 with
    | false => rfl
    | true => have := key hv hu h2 h1 e2 e1; simpa using fun h => by have := this; omega
theorem get_lo {n : Nat} {ws : List Wo} {f x : Nat} (h : (loL n ws)[f]? = some x) : x = loN ws f ∧ f < n := by
  unfold loL at h
  rw [List.getElem?_map] at h
  by_cases hf : f < n
  · rw [List.getElem?_range' hf] at h
    have h : loN ws (0 + 1 * f) = x := by simpa using h
    rw [show 0 + 1 * f = f by omega] at h
    exact ⟨h.symm, hf⟩
  · rw [List.getElem?_eq_none (by simpa using hf)] at h; cases h
theorem get_hi {m n : Nat} {ws : List Wo} {f x : Nat} (h : (hiL m n ws)[f]? = some x) : x = hiN m ws f ∧ f < n := by
  unfold hiL at h
  rw [List.getElem?_map] at h
  by_cases hf : f < n
  · rw [List.getElem?_range' hf] at h
    have h : hiN m ws (0 + 1 * f) = x := by simpa using h
    rw [show 0 + 1 * f = f by omega] at h
    exact ⟨h.symm, hf⟩
  · rw [List.getElem?_eq_none (by simpa using hf)] at h; cases h
end Pl
namespace Pl
open PySem PySem.Spec PyProof.Rows L2
def sg : Bool → Nat
  | true => 99
  | false => 102
def sgS (b : Bool) : Str := ⟨#[sg b]⟩
def txt (o : List Bool) : Str := ⟨(o.map sg).toArray⟩
def sgD (b : Bool) : D := .str (sgS b)
theorem signs_txt (o : List Bool) : signsD (txt o) = o.map sgD := by
  unfold signsD txt
  rw [List.map_map]; rfl
theorem txt_len (o : List Bool) : (txt o).length = o.length := by
  show (o.map sg).toArray.size = o.length
  simp
theorem txt_append (a b : List Bool) : txt a ++ txt b = txt (a ++ b) := by
  show (⟨(a.map sg).toArray ++ (b.map sg).toArray⟩ : Str) = ⟨((a ++ b).map sg).toArray⟩
  simp
theorem eqv_sgc (b : Bool) : (sgD b).eqv (.str "c") = b := by cases b <;> decide +kernel
theorem sh_sg (b : Bool) : (sgD b).sh := by cases b <;> (unfold D.sh; decide +kernel)
theorem sh_c : (D.str "c").sh := by unfold D.sh; decide +kernel
theorem atI_get {ns : List Int} {j : Nat} (h : j < ns.length) : atI (dI ns) ((j : Nat) : Int) = some (.int (ns.getD j 0)) := atI_ints' h
def g_almanac_of : FA := fun ds C => ∃ d cuts e fills o, ds = [d, e, .str (txt o)] ∧ Sq d cuts ∧ Sq e fills ∧ cT o ≤ cuts.length ∧ cF o ≤ fills.length ∧ o.length ≤ 900 ∧ ∀ p, C (.own p (windsD (almL cuts fills 0 0 o)))
theorem rd_almanac_of : ∀ ds C, ds.length = 3 → g_almanac_of ds C → T_almanac_of { nx := fun _ => C (.val .non), rt := fun c _ => C c } (startA N_almanac_of ds) := by
  rintro ds C - ⟨d, cuts, e, fills, o, rfl, hd, he, hc, hf, hl, hC⟩
  have h2 : (2 : Nat) ≤ sizeLine := by decide
  have ix : ∀ {d : D} {ns : List Int} {j : Nat} {Q : D → Prop}, Sq d ns → j < ns.length → Q (.int (ns.getD j 0)) → fIx d (.int ((j : Nat) : Int)) Q := by
    intro d ns j Q hd hj hq
    rcases hd with rfl | rfl
    · exact ⟨_, atI_get hj, hq⟩
    · exact ⟨_, atI_get hj, hq⟩
  refine ⟨by show (0 : Nat) ≤ sizeLine; decide, fun b => ?_⟩
  show forW _ _ _ (signsD (txt o)) _
  rw [signs_txt]
  refine for_inv (fun ds ρ => ∃ (done rest : List Bool) (w : Option Cell), ds = rest.map sgD ∧ o = done ++ rest ∧ ρ = [some (.val d), some (.val e), some (.val (.str (txt o))), some (.own b (windsD (almL cuts fills 0 0 done))), some (.val (.int ((cT done : Nat) : Int))), some (.val (.int ((cF done : Nat) : Int))), w]) (fun x r ρ K hK hI => ?_) (fun ρ hI => ?_) _ _ ⟨[], o, none, rfl, rfl, rfl⟩
  · obtain ⟨done, rest, w, e1, e2, rfl⟩ := hI
    cases rest with
    | nil => cases e1
    | cons s rest =>
      cases e1
      have hT : cT done + cT (s :: rest) = cT o := by rw [e2, cT_append]
      have hF : cF done + cF (s :: rest) = cF o := by rw [e2, cF_append]
      have hlen : done.length + (rest.length + 1) = o.length := by rw [e2]; simp
      have hz : (windsD (almL cuts fills 0 0 done)).length < sizeLine := small1000 (by rw [windsD_len, almL_len]; omega)
      refine ⟨sh_sg s, sh_c, ?_⟩
      cases s with
      | true =>
        have hT : cT done + (cT rest + 1) = cT o := hT
        refine ifT (eqv_sgc true) ?_
        refine ix hd (by omega) ⟨h2, _, rfl, hz, ?_⟩
        refine ⟨_, rfl, hK _ ⟨done ++ [true], rest, some (.val (sgD true)), rfl, by rw [e2]; simp, ?_⟩⟩
        rw [almL_snocT, ← windsD_append, cT_append, cF_append, Nat.zero_add]
        show [some (Cell.val d), some (.val e), some (.val (.str (txt o))), some (.own b (windsD (almL cuts fills 0 0 done) ++ [windD true (cuts.getD (cT done) 0)])), some (.val (.int (((cT done : Nat) : Int) + 1))), some (.val (.int ((cF done : Nat) : Int))), some (.val (sgD true))] = _
        rfl
      | false =>
        have hF : cF done + (cF rest + 1) = cF o := hF
        refine ifF (eqv_sgc false) ?_
        refine ix he (by omega) ⟨h2, _, rfl, hz, ?_⟩
        refine ⟨_, rfl, hK _ ⟨done ++ [false], rest, some (.val (sgD false)), rfl, by rw [e2]; simp, ?_⟩⟩
        rw [almL_snocF, ← windsD_append, cT_append, cF_append, Nat.zero_add]
        rfl
  · obtain ⟨done, rest, w, e1, e2, rfl⟩ := hI
    cases rest with
    | cons s rest => cases e1
    | nil =>
      rw [List.append_nil] at e2
      subst e2
      exact hC b
def NoClash (ws : List Wo) : Prop := ∀ u ∈ ws, ∀ v ∈ ws, contr u v = false
end Pl
namespace Pl
open PySem PySem.Spec PyProof.Rows L2
theorem str_ext {a b : Str} (h : a.cps.toList = b.cps.toList) : a = b := by
  obtain ⟨x⟩ := a
  obtain ⟨y⟩ := b
  have : x = y := Array.toList_inj.mp h
  rw [this]
theorem lit_c : ("c" : Str) = ⟨#[99]⟩ := by decide +kernel
theorem mul_c (n : Nat) : Txt.mul ("c" : Str) ((n : Nat) : Int) = txt (List.replicate n true) := by
  refine str_ext ?_
  rw [lit_c, mul_one_list]
  show List.replicate (Int.toNat (n : Int)) 99 = (List.replicate n true).map sg
  rw [List.map_replicate, Int.toNat_natCast]; rfl
end Pl
namespace Pl
open PySem PySem.Spec PyProof.Rows L2
theorem hiL_len (m n : Nat) (ws : List Wo) : (hiL m n ws).length = n := by simp [hiL]
theorem loL_len (n : Nat) (ws : List Wo) : (loL n ws).length = n := by simp [loL]
def stL (l cuts fills : List Int) (o : List Bool) : List Int := behindL l (almL cuts fills 0 0 o)
def loSt (l cuts fills : List Int) (ws : List Wo) : List Int := stL l cuts fills (ordW 0 (hiL cuts.length fills.length ws) cuts.length)
def hiSt (l cuts fills : List Int) (ws : List Wo) : List Int := stL l cuts fills (ordW 0 (loL fills.length ws) cuts.length)
end Pl
namespace Pl
open PySem PySem.Spec PyProof.Rows L2
def Pos0 (l : List Int) : Prop := ∀ x ∈ l, 0 ≤ x
theorem Pos0.snoc {l : List Int} {x : Int} (h : Pos0 l) (hx : 0 ≤ x) : Pos0 (l ++ [x]) := fun y hy => by
  rcases List.mem_append.mp hy with hy | hy
  · exact h y hy
  · rw [List.mem_singleton.mp hy]; exact hx
theorem Pos0.take {l : List Int} (h : Pos0 l) (n : Nat) : Pos0 (l.take n) := fun y hy => h y (List.mem_of_mem_take hy)
end Pl
namespace Pl
theorem ord_dom {cuts fills : List Int} (hc : Pos0 cuts) (hf : Pos0 fills) (l : List Int) {m : Nat} {as bs : List Nat} (ha : Rise m 0 as) (hb : Rise m 0 bs) (hl : as.length = bs.length) (h : ∀ f x y : Nat, as[f]? = some x → bs[f]? = some y → y ≤ x) : Lq (stL l cuts fills (ordW 0 as m)) (stL l cuts fills (ordW 0 bs m)) := by
  refine dom_le hc hf l _ _ _ (Nat.le_refl _) ⟨?_, ?_, fun j x y h1 h2 => ?_⟩
  · rw [ordW_cT ha, ordW_cT hb]; exact Nat.le_refl _
  · rw [ordW_cF, ordW_cF, hl]; exact Nat.le_refl _
  · rw [ordW_ahead ha] at h1
    rw [ordW_ahead hb] at h2
    exact h j x y h1 h2
section
variable {cuts fills l : List Int} {ws vs : List Wo}
structure Has (cuts fills : List Int) (o : List Bool) (ws : List Wo) : Prop where
  t : cT o = cuts.length
  f : cF o = fills.length
  b : InB cuts.length fills.length ws
  h : ∀ w ∈ ws, hasW (aheadL 0 o) w = true
theorem Has.rise {o : List Bool} (H : Has cuts fills o ws) : Rise cuts.length 0 (aheadL 0 o) := by
  have := rise_ahead o 0
  rw [Nat.zero_add, H.t] at this
  exact this
theorem Has.len {o : List Bool} (H : Has cuts fills o ws) : (aheadL 0 o).length = fills.length := by rw [aheadL_len, H.f]
theorem Has.no {o : List Bool} (H : Has cuts fills o ws) : NoClash ws := fun u hu v hv => has_noclash H.rise (by rw [H.len]; exact (H.b u hu).2) (by rw [H.len]; exact (H.b v hv).2) (H.h u hu) (H.h v hv)
theorem Has.btw {o : List Bool} (H : Has cuts fills o ws) {f x : Nat} (hx : (aheadL 0 o)[f]? = some x) : loN ws f ≤ x ∧ x ≤ hiN cuts.length ws f := has_between H.rise (by rw [H.len]; exact H.b) H.h hx
theorem Has.ord {o : List Bool} (H : Has cuts fills o ws) : ordW 0 (aheadL 0 o) cuts.length = o := by
  have := ord_of o 0
  rw [Nat.zero_add, H.t] at this
  exact this
theorem Has.lo {o : List Bool} (H : Has cuts fills o ws) (hc : Pos0 cuts) (hf : Pos0 fills) : Lq (loSt l cuts fills ws) (stL l cuts fills o) := by
  rw [← H.ord]
  refine ord_dom hc hf l (hiL_rise _ _ _) H.rise (by rw [hiL_len, H.len]) fun f x y h1 h2 => ?_
  rw [(get_hi h1).1]
  exact (H.btw h2).2
theorem Has.hi {o : List Bool} (H : Has cuts fills o ws) (hc : Pos0 cuts) (hf : Pos0 fills) : Lq (stL l cuts fills o) (hiSt l cuts fills ws) := by
  rw [← H.ord]
  refine ord_dom hc hf l H.rise (loL_rise H.b) (by rw [loL_len, H.len]) fun f x y h1 h2 => ?_
  rw [(get_lo h2).1]
  exact (H.btw h1).1
theorem Has.sub {o : List Bool} (H : Has cuts fills o vs) (h : ∀ w ∈ ws, w ∈ vs) : Has cuts fills o ws := ⟨H.t, H.f, fun w hw => H.b w (h w hw), fun w hw => H.h w (h w hw)⟩
end
end Pl
namespace Pl
open PySem PySem.Spec PyProof.Rows L2
def allO : Nat → Nat → List (List Bool)
  | 0, f => [List.replicate f false]
  | c + 1, 0 => [List.replicate (c + 1) true]
  | c + 1, f + 1 => (allO c (f + 1)).map (true :: ·) ++ (allO (c + 1) f).map (false :: ·)
termination_by c f => c + f
theorem ct_repF : ∀ f, cT (List.replicate f false) = 0 ∧ cF (List.replicate f false) = f
  | 0 => ⟨rfl, rfl⟩
  | f + 1 => by
    obtain ⟨h1, h2⟩ := ct_repF f
    rw [List.replicate_succ]
    exact ⟨h1, by show cF (List.replicate f false) + 1 = f + 1; rw [h2]⟩
theorem ct_repT : ∀ c, cT (List.replicate c true) = c ∧ cF (List.replicate c true) = 0
  | 0 => ⟨rfl, rfl⟩
  | c + 1 => by
    obtain ⟨h1, h2⟩ := ct_repT c
    rw [List.replicate_succ]
    exact ⟨by show cT (List.replicate c true) + 1 = c + 1; rw [h1], h2⟩
theorem only_F : ∀ {o : List Bool}, cT o = 0 → o = List.replicate (cF o) false
  | [], _ => rfl
  | true :: o, h => by exact absurd (show cT o + 1 = 0 from h) (by omega)
  | false :: o, h => by
    show false :: o = List.replicate (cF o + 1) false
    rw [List.replicate_succ, ← only_F (o := o) h]
theorem only_T : ∀ {o : List Bool}, cF o = 0 → o = List.replicate (cT o) true
  | [], _ => rfl
  | false :: o, h => by exact absurd (show cF o + 1 = 0 from h) (by omega)
  | true :: o, h => by
    show true :: o = List.replicate (cT o + 1) true
    rw [List.replicate_succ, ← only_T (o := o) h]
theorem mem_allO : ∀ (n c f : Nat), c + f ≤ n → ∀ o, o ∈ allO c f ↔ cT o = c ∧ cF o = f
  | n, 0, f, _, o => by
    rw [allO, List.mem_singleton]
    constructor
    · rintro rfl; exact ct_repF f
    · rintro ⟨h1, h2⟩; rw [← h2]; exact only_F h1
  | n, c + 1, 0, _, o => by
    rw [allO, List.mem_singleton]
    constructor
    · rintro rfl; exact ct_repT (c + 1)
    · rintro ⟨h1, h2⟩; rw [← h1]; exact only_T h2
  | n + 1, c + 1, f + 1, h, o => by
    rw [allO, List.mem_append, List.mem_map, List.mem_map]
    constructor
    · rintro (⟨r, hr, rfl⟩ | ⟨r, hr, rfl⟩)
      · obtain ⟨h1, h2⟩ := (mem_allO n c (f + 1) (by omega) r).mp hr
        exact ⟨by show cT r + 1 = c + 1; rw [h1], h2⟩
      · obtain ⟨h1, h2⟩ := (mem_allO n (c + 1) f (by omega) r).mp hr
        exact ⟨h1, by show cF r + 1 = f + 1; rw [h2]⟩
    · rintro ⟨h1, h2⟩
      cases o with
      | nil => exact absurd (show (0 : Nat) = c + 1 from h1) (by omega)
      | cons b r =>
        cases b with
        | true => exact .inl ⟨r, (mem_allO n c (f + 1) (by omega) r).mpr ⟨Nat.succ.inj h1, h2⟩, rfl⟩
        | false => exact .inr ⟨r, (mem_allO n (c + 1) f (by omega) r).mpr ⟨h1, Nat.succ.inj h2⟩, rfl⟩
  | 0, c + 1, f + 1, h, _ => by omega
theorem getD_hiL {m n : Nat} {ws : List Wo} {f : Nat} (h : f < n) : (hiL m n ws).getD f 0 = hiN m ws f := by
  unfold hiL
  rw [List.getD_eq_getElem?_getD, List.getElem?_map, List.getElem?_range' h]
  simp
theorem getD_loL {n : Nat} {ws : List Wo} {f : Nat} (h : f < n) : (loL n ws).getD f 0 = loN ws f := by
  unfold loL
  rw [List.getD_eq_getElem?_getD, List.getElem?_map, List.getElem?_range' h]
  simp
section
variable {cuts fills : List Int} {ws : List Wo}
theorem Has.low {o : List Bool} (H : Has cuts fills o ws) : Has cuts fills (ordW 0 (hiL cuts.length fills.length ws) cuts.length) ws := by
  have hr := hiL_rise cuts.length fills.length ws
  refine ⟨by rw [ordW_cT hr]; rfl, by rw [ordW_cF, hiL_len], H.b, fun w hw => ?_⟩
  rw [ordW_ahead hr]
  unfold hasW
  have hb := H.b w hw
  rw [getD_hiL hb.2]
  obtain ⟨k, c, f⟩ := w
  cases k with
  | true =>
    have : c < hiN cuts.length ws f := hi_ge.mpr ⟨hb.1, fun v hv h1 h2 => by
      have := H.no (true, c, f) hw v hv
      obtain ⟨k', c', f'⟩ := v
      have h1 : k' = false := h1
      subst h1
      have h2 : f ≤ f' := h2
      have : (decide (c' ≤ c) && decide (f ≤ f')) = false := this
      show c + 1 ≤ c'
      rw [decide_eq_true h2, Bool.and_true] at this
      have := of_decide_eq_false this
      omega⟩
    show (true == decide (c < hiN cuts.length ws f)) = true
    rw [decide_eq_true this]; rfl
  | false =>
    have : hiN cuts.length ws f ≤ c := (hi_ge.mp (Nat.le_refl _)).2 (false, c, f) hw rfl (Nat.le_refl _)
    show (false == decide (c < hiN cuts.length ws f)) = true
    rw [decide_eq_false (by omega)]; rfl
theorem Has.top {o : List Bool} (H : Has cuts fills o ws) : Has cuts fills (ordW 0 (loL fills.length ws) cuts.length) ws := by
  have hr := loL_rise H.b
  refine ⟨by rw [ordW_cT hr]; rfl, by rw [ordW_cF, loL_len], H.b, fun w hw => ?_⟩
  rw [ordW_ahead hr]
  unfold hasW
  have hb := H.b w hw
  rw [getD_loL hb.2]
  obtain ⟨k, c, f⟩ := w
  cases k with
  | true =>
    have : c + 1 ≤ loN ws f := lo_le.mp (Nat.le_refl _) (true, c, f) hw rfl (Nat.le_refl _)
    show (true == decide (c < loN ws f)) = true
    rw [decide_eq_true (by omega)]; rfl
  | false =>
    have : loN ws f ≤ c := lo_le.mpr fun v hv h1 h2 => by
      have := H.no (false, c, f) hw v hv
      obtain ⟨k', c', f'⟩ := v
      have h1 : k' = true := h1
      subst h1
      have h2 : f' ≤ f := h2
      have : (decide (c ≤ c') && decide (f' ≤ f)) = false := this
      show c' + 1 ≤ c
      rw [decide_eq_true h2, Bool.and_true] at this
      have := of_decide_eq_false this
      omega
    show (false == decide (c < loN ws f)) = true
    rw [decide_eq_false (by omega)]; rfl
end
end Pl
namespace Pl
open PySem PySem.Spec PyProof.Rows L2
def Pw (ws : List Wd) : Prop := ∀ w ∈ ws, 0 ≤ w.2
theorem Pw.take {ws : List Wd} (h : Pw ws) (j : Nat) : Pw (ws.take j) := fun w hw => h w (List.mem_of_mem_take hw)
theorem Pw.drop {ws : List Wd} (h : Pw ws) (j : Nat) : Pw (ws.drop j) := fun w hw => h w (List.mem_of_mem_drop hw)
theorem Pw.one {w : Wd} (h : 0 ≤ w.2) : Pw [w] := fun v hv => by rw [List.mem_singleton.mp hv]; exact h
end Pl
namespace Pl
open PySem PySem.Spec PyProof.Rows L2
mutual
def toL : D → D
  | .lst xs => .lst (toLs xs)
  | .tup xs => .lst (toLs xs)
  | .non => .non
  | .bl b => .bl b
  | .int i => .int i
  | .str z => .str z
  | .scr ns => .scr ns
  | .adr a => .adr a
  | .exc c y => .exc c y
def toLs : List D → List D
  | [] => []
  | x :: xs => toL x :: toLs xs
end
theorem toLs_map : ∀ xs : List D, toLs xs = xs.map toL
  | [] => by rw [toLs]; rfl
  | x :: xs => by rw [toLs, toLs_map xs]; rfl
theorem toL_winds (ws : List Wd) : toL (.lst (windsD ws)) = .lst (ws.map fun w => .lst [.str (wordS w.1), .int w.2]) := by
  rw [toL, toLs_map]
  unfold windsD
  rw [List.map_map]
  congr 1
theorem AmW.lists (ws : List Wd) : AmW (toL (.lst (windsD ws))) ws := by
  rw [toL_winds]
  refine ⟨ws.map fun w => (.lst [.str (wordS w.1), .int w.2], w), .inl (by rw [List.map_map]; rfl), fun p hp => ?_, by rw [List.map_map]; exact List.map_id' ws⟩
  obtain ⟨w, _, rfl⟩ := List.mem_map.mp hp
  exact .inr rfl
theorem AmW.tup (ws : List Wd) : AmW (.tup (windsD ws)) ws := Am.w (.inr rfl)
end Pl
namespace Pl
open PySem PySem.Spec PyProof.Rows L2
def PwM (m : Int) (ws : List Wd) : Prop := ∀ w ∈ ws, 0 ≤ w.2 ∧ w.2 ≤ m
theorem PwM.take {m : Int} {ws : List Wd} (h : PwM m ws) (j : Nat) : PwM m (ws.take j) := fun w hw => h w (List.mem_of_mem_take hw)
theorem PwM.drop {m : Int} {ws : List Wd} (h : PwM m ws) (j : Nat) : PwM m (ws.drop j) := fun w hw => h w (List.mem_of_mem_drop hw)
theorem PwM.one {m : Int} {w : Wd} (h : 0 ≤ w.2 ∧ w.2 ≤ m) : PwM m [w] := fun v hv => by rw [List.mem_singleton.mp hv]; exact h
end Pl
namespace Pl
open PySem PySem.Spec PyProof.Rows L2
def PairsFree (ws : List Wo) (i j : Nat) : Prop := ∀ (a b : Nat) (u v : Wo), a < b → ws[a]? = some u → ws[b]? = some v → (a < i ∨ a = i ∧ b < j) → contr u v = false
structure CW (ws : List Wo) (i j : Nat) : Prop where
  lt : i < j
  ex : ∃ u v, ws[i]? = some u ∧ ws[j]? = some v ∧ contr u v = true
  free : PairsFree ws i j
theorem CW.one {ws : List Wo} {i j a b : Nat} (h : CW ws i j) (g : CW ws a b) : a = i ∧ b = j := by
  obtain ⟨u, v, h1, h2, h3⟩ := h.ex
  obtain ⟨u', v', g1, g2, g3⟩ := g.ex
  have p := h.free a b u' v' g.lt g1 g2
  have q := g.free i j u v h.lt h1 h2
  by_cases x : a < i ∨ a = i ∧ b < j
  · rw [p x] at g3; cases g3
  · by_cases y : i < a ∨ i = a ∧ j < b
    · rw [q y] at h3; cases h3
    · omega
end Pl
namespace Pl
open PySem PySem.Spec PyProof.Rows L2
def g_daysW : FA := fun ds C => ∃ d ns a ws, ds = [d, a] ∧ Sq d ns ∧ AmW a ws ∧ ns ≠ [] ∧ ns.length ≤ 1000 ∧ ws.length ≤ 900 ∧ ∀ p, C (.own p ((daysL ns ws).map tD))
theorem rd_daysW : ∀ ds C, ds.length = 2 → g_daysW ds C → T_days g_blownW (EA C) (startA N_days ds) := by
  rintro ds C - ⟨d, ns, am, ws, rfl, hd, ⟨ps, ha, hp, rfl⟩, hne, hl, hw, hC⟩
  rw [List.length_map] at hw
  have key : ∀ (b : Addr), forW (hName 3) (pAppend 2 (pFrz (pCallA 2 g_blownW (pCons (pIxO 2 (pUn fNeg (pC (.int 1)))) (pCons (pVar 3) pNil))))) { nx := fun ρ => pRet (pMove 2) (EA C) ρ, rt := fun c _ => C c } (ps.map Prod.fst) [some (.val d), some (.val am), some (.own b [tD ns]), none] := by
    intro b
    refine fr_mp ps Prod.fst (fun rest ρ => ∃ (done : List (List Int)) (cur : List Int) (w : Option Cell), ρ = [some (.val d), some (.val am), some (.own b ((done ++ [cur]).map tD)), w] ∧ daysL ns (ps.map Prod.snd) = done ++ daysL cur (rest.map Prod.snd) ∧ cur ≠ [] ∧ cur.length = ns.length ∧ done.length + rest.length = ps.length ∧ ∀ p ∈ rest, Wn p.1 p.2.1 p.2.2) rfl ⟨[], ns, none, rfl, rfl, hne, rfl, by simp, hp⟩ (fun v rest ρ K hI hK => ?_) (fun ρ hI => ?_)
    · obtain ⟨done, cur, w, rfl, e3, hc, hcl, hlen, hv⟩ := hI
      have hlen' : done.length + (rest.length + 1) = ps.length := hlen
      have em : (done ++ [cur]).map tD = done.map tD ++ [tD cur] := by simp
      refine ⟨(done ++ [cur]).map tD, -1, tD cur, rfl, rfl, ?_, rfl, _, cur, v.1, v.2.1, v.2.2, rfl, .inl rfl, hv v (by simp), hc, by omega, (done ++ [cur]).map tD, rfl, small1000 (by simp; omega), hK _ ⟨done ++ [cur], blW cur v.2, some (.val v.1), ?_, ?_, blW_ne hc v.2, by rw [blW_len]; exact hcl, by simp; omega, fun p q => hv p (by simp [q])⟩⟩
      · rw [em]; exact atI_last _ _
      · rw [show (done ++ [cur] ++ [blW cur v.2]).map tD = (done ++ [cur]).map tD ++ [tD (blW cur v.2)] by simp]; rfl
      · rw [e3]; simp [daysL]
    · obtain ⟨done, cur, w, rfl, e3, hc, hcl, hlen, hv⟩ := hI
      have : daysL ns (ps.map Prod.snd) = done ++ [cur] := e3
      show C (.own b ((done ++ [cur]).map tD))
      rw [← this]; exact hC b
  have hz : (1 : Nat) ≤ sizeLine := by decide
  rcases hd with rfl | rfl <;> rcases ha with rfl | rfl <;> exact ⟨hz, fun b => key b⟩
end Pl
namespace Pl
open PySem PySem.Spec PyProof.Rows L2 LamX
abbrev Fct := D → D → D → Str → Int → Bool → Prop
section
variable {T : List NdefX.NTab} {K : PySem.W.Frag} {G F H H' : Hp} {σ : L2.St} {ρ : Ro}
theorem Sim.same (S : @Sim (tjTab T) K G F H σ ρ) (e : Same H H') : @Sim (tjTab T) K G F H' σ ρ := by
  letI : TJ := tjTab T
  exact ⟨S.hF.trans e, S.hG.trans e, S.len, S.val, fun i a xs q => by
    obtain ⟨h1, h2, h3, vs, h4, h5⟩ := S.own i a xs q
    exact ⟨h1, h2, h3, vs, e _ _ h4, h5⟩, S.ne, S.bx.heap (.refl _) fun p m => let ⟨f, g, o, h⟩ := S.bx.free m; ⟨f, g, (e _ _ h).trans h.symm⟩⟩
end
end Pl
namespace Pl
open PySem PySem.Spec PyProof.Rows L2
abbrev negL (l : List Int) : List Int := l.map fun x => -x
def conW (w : Wd) : Wd := (!w.1, w.2)
theorem blW_neg (l : List Int) (w : Wd) : blW (negL l) (conW w) = negL (blW l w) := blown_neg (c := w.1) (s := w.2) l
end Pl
namespace Pl
open PySem PySem.Spec PyProof.Rows L2
def flipO (o : List Bool) : List Bool := o.map fun b => !b
theorem alm_flip (cuts fills : List Int) : ∀ (o : List Bool) (i j : Nat), almL fills cuts j i (flipO o) = (almL cuts fills i j o).map conW
  | [], _, _ => rfl
  | true :: o, i, j => by
    show (false, cuts.getD i 0) :: almL fills cuts j (i + 1) (flipO o) = _
    rw [alm_flip cuts fills o (i + 1) j]; rfl
  | false :: o, i, j => by
    show (true, fills.getD j 0) :: almL fills cuts (j + 1) i (flipO o) = _
    rw [alm_flip cuts fills o i (j + 1)]; rfl
end Pl
namespace Pl
open PySem PySem.Spec PyProof.Rows L2
abbrev Ze := Wd ⊕ (Int × Int)
def handS : Str := "hand"
def hzD (h : Int × Int) : D := .tup [.str handS, .int h.1, .int h.2]
def zD : Ze → D
  | .inl w => windD w.1 w.2
  | .inr h => hzD h
def zsD (es : List Ze) : List D := es.map zD
theorem zsD_len (es : List Ze) : (zsD es).length = es.length := List.length_map _
def isHz : Ze → Bool
  | .inl _ => false
  | .inr _ => true
def kindZ : Ze → Str
  | .inl w => wordS w.1
  | .inr _ => handS
def keepC (c : Bool) : Ze → Bool
  | .inl w => w.1 == c
  | .inr _ => true
abbrev keptZ (c : Bool) (es : List Ze) : List Ze := es.filter (keepC c)
abbrev handsZ (es : List Ze) : List Ze := es.filter isHz
def Zq (a : D) (es : List Ze) : Prop := a = .lst (zsD es) ∨ a = .tup (zsD es)
theorem sh_hand : (D.str "hand").sh := by unfold D.sh; decide +kernel
theorem sh_kindZ (e : Ze) : (D.str (kindZ e)).sh := by
  cases e with
  | inl w => exact sh_word _
  | inr h => exact sh_hand
theorem eqv_kindZ (e : Ze) : (D.str (kindZ e)).eqv (.str "hand") = isHz e := by
  cases e with
  | inl w => show (D.str (wordS w.1)).eqv (.str "hand") = false; cases w.1 <;> decide +kernel
  | inr h => show (D.str handS).eqv (.str "hand") = true; decide +kernel
theorem zD_at0 {C : D → Prop} (e : Ze) (h : C (.str (kindZ e))) : fIx (zD e) (.int 0) C := by
  cases e with
  | inl w => exact ⟨_, atI_nat (j := 0) rfl, h⟩
  | inr x => exact ⟨_, atI_nat (j := 0) rfl, h⟩
theorem canLay_z (e : Ze) : PyData.canLay0 (toPy (zD e)) = true := by
  cases e with
  | inl w => exact canLay_wind w
  | inr h => show (PyData.canLay0 (.str "hand") && true) = true; decide +kernel
theorem canLay_zs : ∀ es : List Ze, PyData.canLayAll0 (toPys (zsD es)) = true
  | [] => rfl
  | e :: es => by
    show (PyData.canLay0 (toPy (zD e)) && PyData.canLayAll0 (toPys (zsD es))) = true
    rw [canLay_zs es, canLay_z e]; rfl
theorem depth_zs : ∀ es : List Ze, PyData.depthAll (toPys (zsD es)) ≤ 1
  | [] => by decide
  | e :: es => by
    show max (PyData.depth (toPy (zD e))) (PyData.depthAll (toPys (zsD es))) ≤ 1
    have := depth_zs es
    have h : PyData.depth (toPy (zD e)) = 1 := by cases e <;> rfl
    omega
theorem sh_zs (es : List Ze) : (D.lst (zsD es)).sh := by
  show (PyData.canLayAll0 (toPys (zsD es)) && decide (PyData.depthAll (toPys (zsD es)) + 1 ≤ 64)) = true
  rw [canLay_zs]
  have := depth_zs es
  simp; omega
theorem zs_cut (es : List Ze) (j : Nat) : cutD (zsD es) (some (j : Int)) (some ((j : Int) + 1)) = zsD ((es.drop j).take 1) := by
  rw [show (j : Int) + 1 = ((j + 1 : Nat) : Int) by omega, cutD_mid (by omega), show j + 1 - j = 1 by omega]
  unfold zsD
  rw [← List.map_drop, ← List.map_take]
theorem eqv_of_lay {d : D} (h : PyData.canLay0 (toPy d) = true) : d.eqv d = true := PySem.SeqAt.eqv_refl _ h
theorem zs_eqv (es : List Ze) : (D.lst (zsD es)).eqv (.lst (zsD es)) = true := eqv_of_lay (canLay_zs es)
def slopeZ : Ze → Option Int
  | .inl w => some w.2
  | .inr _ => none
def strS : List Ze → List (List Int)
  | [] => [[]]
  | .inl w :: r => match strS r with
    | h :: t => (w.2 :: h) :: t
    | [] => []
  | .inr _ :: r => [] :: strS r
def hzs : List Ze → List (Int × Int)
  | [] => []
  | .inl _ :: r => hzs r
  | .inr h :: r => h :: hzs r
theorem strS_ne : ∀ es : List Ze, strS es ≠ []
  | [] => by simp [strS]
  | .inl w :: r => by
    have := strS_ne r
    unfold strS
    cases h : strS r with
    | nil => exact absurd h this
    | cons a b => simp
  | .inr h :: r => by simp [strS]
theorem strS_len : ∀ es : List Ze, (strS es).length = (hzs es).length + 1
  | [] => rfl
  | .inl w :: r => by
    have := strS_len r
    unfold strS
    cases h : strS r with
    | nil => exact absurd h (strS_ne r)
    | cons a b =>
      rw [h] at this
      exact this
  | .inr h :: r => by
    show (strS r).length + 1 = (hzs r).length + 1 + 1
    rw [strS_len r]
theorem handsZ_hzs : ∀ es : List Ze, handsZ es = (hzs es).map Sum.inr
  | [] => rfl
  | .inl w :: r => handsZ_hzs r
  | .inr h :: r => by
    show Sum.inr h :: handsZ r = Sum.inr h :: (hzs r).map Sum.inr
    rw [handsZ_hzs r]
theorem zsD_hands (es : List Ze) : zsD (handsZ es) = (hzs es).map hzD := by
  rw [handsZ_hzs]; unfold zsD; rw [List.map_map]; rfl
theorem strS_some (es : List Ze) : ∃ a b, strS es = a :: b := by
  cases h : strS es with
  | nil => exact absurd h (strS_ne es)
  | cons a b => exact ⟨a, b, rfl⟩
theorem strS_wd {w : Wd} {r : List Ze} {a : List Int} {b : List (List Int)} (h : strS r = a :: b) : strS (.inl w :: r) = (w.2 :: a) :: b := by
  show (match strS r with | h :: t => (w.2 :: h) :: t | [] => []) = _
  rw [h]
theorem strS_hd {x : Int × Int} {r : List Ze} : strS (.inr x :: r) = [] :: strS r := rfl
theorem sb_str : ∀ (es : List Ze) (rs : List (List Int)) (r0 : List Int) (a : List Int) (b : List (List Int)), strS es = a :: b → ((es.map slopeZ).foldl sbR (r0 :: rs)).reverse = rs.reverse ++ (r0 ++ a) :: b
  | [], rs, r0, a, b, h => by cases h; simp
  | .inl w :: r, rs, r0, a, b, h => by
    obtain ⟨a', b', h'⟩ := strS_some r
    rw [strS_wd h'] at h
    cases h
    show ((r.map slopeZ).foldl sbR ((r0 ++ [w.2]) :: rs)).reverse = _
    rw [sb_str r rs (r0 ++ [w.2]) a' _ h']
    simp
  | .inr x :: r, rs, r0, a, b, h => by
    obtain ⟨a', b', h'⟩ := strS_some r
    rw [strS_hd, h'] at h
    cases h
    show ((r.map slopeZ).foldl sbR ([] :: r0 :: rs)).reverse = _
    rw [sb_str r (r0 :: rs) [] a' b' h']
    simp
theorem sbL_str (es : List Ze) : (sbL (es.map slopeZ)).reverse = strS es := by
  obtain ⟨a, b, h⟩ := strS_some es
  unfold sbL
  rw [sb_str es [] [] a b h, h]
  rfl
theorem isHz_slope (e : Ze) : isHz e = (slopeZ e).isNone := by cases e <;> rfl
def zR : Ze → D
  | .inl w => .lst [.str (wordS w.1), .int w.2]
  | .inr h => .lst [.str handS, .int h.1, .int h.2]
def ZnF (d : D) (e : Ze) : Prop := d = zD e ∨ d = zR e
abbrev Prs := List (D × Ze)
def PrsF (ps : Prs) : Prop := ∀ p ∈ ps, ZnF p.1 p.2
abbrev ownPrs (es : List Ze) : Prs := es.map fun e => (zD e, e)
theorem own_fst (es : List Ze) : (ownPrs es).map Prod.fst = zsD es := by unfold zsD; rw [List.map_map]; rfl
theorem own_snd (es : List Ze) : (ownPrs es).map Prod.snd = es := by rw [List.map_map]; exact List.map_id' es
theorem own_F (es : List Ze) : PrsF (ownPrs es) := fun p hp => by
  obtain ⟨e, _, rfl⟩ := List.mem_map.mp hp
  exact .inl rfl
theorem zn_at0 {C : D → Prop} {d : D} {e : Ze} (hf : ZnF d e) (h : C (.str (kindZ e))) : fIx d (.int 0) C := by
  rcases hf with rfl | rfl
  · exact zD_at0 e h
  · cases e with
    | inl w => exact ⟨_, atI_nat (j := 0) rfl, h⟩
    | inr x => exact ⟨_, atI_nat (j := 0) rfl, h⟩
def g_is_hand : FA := fun ds C => ∃ d e, ds = [d] ∧ ZnF d e ∧ C (.val (.bl (isHz e)))
theorem rd_is_hand : ∀ ds C, ds.length = 1 → g_is_hand ds C → T_is_hand (EA C) (startA N_is_hand ds) := by
  rintro ds C - ⟨d, e, rfl, hf, hC⟩
  have q : fIx d (.int 0) fun z => fEq z (.str "hand") fun y => C (.val y) := zn_at0 hf ⟨sh_kindZ e, sh_hand, by rw [eqv_kindZ]; exact hC⟩
  rcases hf with rfl | rfl <;> cases e <;> exact q
def keepW (ws : List Str) (e : Ze) : Bool := (ws.map D.str).any fun z => z.eqv (.str (kindZ e))
theorem keepW_two (c : Bool) (e : Ze) : keepW [wordS c, "hand"] e = keepC c e := by
  cases e with
  | inl w =>
    obtain ⟨b, x⟩ := w
    show ((D.str (wordS c)).eqv (.str (wordS b)) || ((D.str "hand").eqv (.str (wordS b)) || false)) = (b == c)
    cases b <;> cases c <;> decide +kernel
  | inr h =>
    show ((D.str (wordS c)).eqv (.str handS) || ((D.str "hand").eqv (.str handS) || false)) = true
    cases c <;> decide +kernel
theorem keepW_hand (e : Ze) : keepW ["hand"] e = isHz e := by
  cases e with
  | inl w =>
    obtain ⟨b, x⟩ := w
    show ((D.str "hand").eqv (.str (wordS b)) || false) = false
    cases b <;> decide +kernel
  | inr h => show ((D.str "hand").eqv (.str handS) || false) = true; decide +kernel
theorem sh_ch (c : Bool) : (D.tup ([wordS c, ("hand" : Str)].map D.str)).sh := by cases c <;> (unfold D.sh; decide +kernel)
theorem sh_h1 : (D.tup ([("hand" : Str)].map D.str)).sh := by unfold D.sh; decide +kernel
def g_entries_with : FA := fun ds C => ∃ a es ws, ds = [a, .tup (ws.map D.str)] ∧ Zq a es ∧ (D.tup (ws.map D.str)).sh ∧ es.length ≤ 900 ∧ ∀ p, C (.own p (zsD (es.filter (keepW ws))))
theorem rd_entries_with : ∀ ds C, ds.length = 2 → g_entries_with ds C → T_entries_with (EA C) (startA N_entries_with ds) := by
  rintro ds C - ⟨a, es, ws, rfl, ha, hs, hl, hC⟩
  have fin : ∀ (a' : D) (Q : List D → Ro → Prop), Q ((es.filter (keepW ws)).map zD) [some (.val a'), some (.val (.tup (ws.map D.str))), none] → lcW [2] (hName 2) (pTest (pOp fInT (pIxO 2 (pC (.int 0))) (pVar 1))) (pCB fTup (pCons (pVar 2) pNil)) Q (zsD es) [] [some (.val a'), some (.val (.tup (ws.map D.str))), none] := by
    intro a' Q hQ
    refine lc_fl es zD zD (keepW ws) rfl (fun e _ K hK => ?_) (by omega) hQ
    cases e with
    | inl w => exact ⟨_, atI_nat (j := 0) rfl, sh_word _, hs, hK _ rfl fun _ K2 h => h _ rfl⟩
    | inr h => exact ⟨_, atI_nat (j := 0) rfl, sh_hand, hs, hK _ rfl fun _ K2 h => h _ rfl⟩
  rcases ha with rfl | rfl
  · exact fin _ _ fun p => hC p
  · exact fin _ _ fun p => hC p
def g_slopes_between : FA := fun ds C => ∃ a es, ds = [a] ∧ Zq a es ∧ es.length ≤ 900 ∧ ∀ p, C (.own p (rowsD (strS es)))
theorem rd_slopes_between : ∀ ds C, ds.length = 1 → g_slopes_between ds C → T_slopes_between g_is_hand (EA C) (startA N_slopes_between ds) := by
  rintro ds C - ⟨a, es, rfl, ha, hl, hC⟩
  refine ⟨a, es.map fun e => (zD e, slopeZ e), rfl, ?_, fun p hp => ?_, by rw [List.length_map]; omega, fun R => ?_⟩
  · rw [List.map_map]; exact ha
  · obtain ⟨e, _, rfl⟩ := List.mem_map.mp hp
    refine ⟨fun C h => ⟨_, e, rfl, .inl rfl, by rw [isHz_slope]; exact h⟩, fun s hs => ?_⟩
    cases e with
    | inl w => cases hs; exact ⟨_, [], .inl rfl⟩
    | inr h => cases hs
  · have e : (es.map fun e => (zD e, slopeZ e)).map Prod.snd = es.map slopeZ := by rw [List.map_map]; rfl
    rw [e, sbL_str]
    exact hC R
def g_same_hands : FA := fun ds C => ∃ a es b fs, ds = [a, b] ∧ Zq a es ∧ Zq b fs ∧ es.length ≤ 900 ∧ fs.length ≤ 900 ∧ handsZ es = handsZ fs ∧ (∀ p, C (.own p (zsD (handsZ es)))) ∧ C (.val (.lst (zsD (handsZ es))))
theorem hands_le (es : List Ze) : (handsZ es).length ≤ es.length := List.length_filter_le _ _
theorem rd_same_hands : ∀ ds C, ds.length = 2 → g_same_hands ds C → T_same_hands g_entries_with (EA C) (startA N_same_hands ds) := by
  rintro ds C - ⟨a, es, b, fs, rfl, ha, hb, h1, h2, hh, hC, hV⟩
  have eW : keepW ["hand"] = isHz := funext keepW_hand
  refine ⟨by show (1 : Nat) ≤ sizeLine; decide, rfl, a, es, ["hand"], rfl, ha, sh_h1, h1, fun p => ?_⟩
  refine ⟨by show (1 : Nat) ≤ sizeLine; decide, rfl, b, fs, ["hand"], rfl, hb, sh_h1, h2, fun q => ?_⟩
  rw [eW, show fs.filter isHz = es.filter isHz from hh.symm]
  have l1 := hands_le es
  refine ⟨by show (-(2 ^ 62) : Int) ≤ max ((zsD (handsZ es)).length : Int) ((zsD (handsZ es)).length : Int); rw [zsD_len]; omega, by show max ((zsD (handsZ es)).length : Int) ((zsD (handsZ es)).length : Int) < 2 ^ 62; rw [zsD_len]; omega, ?_⟩
  refine fr_rg (handsZ es).length (fun j ρ => ∃ c2 c3 w4, (c2 = some (.own p (zsD (handsZ es))) ∨ c2 = some (.val (.lst (zsD (handsZ es))))) ∧ (c3 = some (.own q (zsD (handsZ es))) ∨ c3 = some (.val (.lst (zsD (handsZ es))))) ∧ ρ = [some (.val a), some (.val b), c2, c3, w4]) (by rw [zsD_len]; simp) ⟨_, _, _, .inl rfl, .inl rfl, rfl⟩ (fun j ρ K hj hI hK => ?_) (fun ρ hI => ?_)
  · obtain ⟨c2, c3, w4, e2, e3, rfl⟩ := hI
    have same : (!(D.lst (cutD (zsD (handsZ es)) (some (j : Int)) (some ((j : Int) + 1)))).eqv (.lst (cutD (zsD (handsZ es)) (some (j : Int)) (some ((j : Int) + 1))))) = false := by
      rw [zs_cut, zs_eqv]; rfl
    have shc : (D.lst (cutD (zsD (handsZ es)) (some (j : Int)) (some ((j : Int) + 1)))).sh := by rw [zs_cut]; exact sh_zs _
    rcases e2 with rfl | rfl <;> rcases e3 with rfl | rfl
    all_goals exact ⟨shc, shc, ifF same (hK _ ⟨_, _, _, .inr rfl, .inr rfl, rfl⟩)⟩
  · obtain ⟨c2, c3, w4, e2, e3, rfl⟩ := hI
    rcases e2 with rfl | rfl
    · exact hC p
    · exact hV
abbrev Pt := List Int × List Int × Option (Int × Int)
def hoD : Option (Int × Int) → D
  | none => .non
  | some h => hzD h
def ptD (q : Pt) : D := .tup [.lst (dI q.1), .lst (dI q.2.1), hoD q.2.2]
def partsZ (es fs : List Ze) : List Pt := (strS es).zip ((strS fs).zip ((hzs es).map some ++ [none]))
theorem tri_map {α β γ : Type} (f : α → D) (g : β → D) (k : γ → D) : ∀ (xs : List α) (ys : List β) (zs : List γ), tri (xs.map f) (ys.map g) (zs.map k) = (xs.zip (ys.zip zs)).map fun q => .tup [f q.1, g q.2.1, k q.2.2]
  | [], _, _ => rfl
  | _ :: _, [], _ => rfl
  | _ :: _, _ :: _, [] => rfl
  | x :: xs, y :: ys, z :: zs => by
    show D.tup [f x, g y, k z] :: tri (xs.map f) (ys.map g) (zs.map k) = _
    rw [tri_map f g k xs ys zs]; rfl
theorem parts_tri (es fs : List Ze) : tri (rowsD (strS es)) (rowsD (strS fs)) (zsD (handsZ es) ++ [.non]) = (partsZ es fs).map ptD := by
  rw [zsD_hands]
  have e : (hzs es).map hzD ++ [D.non] = ((hzs es).map some ++ [none]).map hoD := by rw [List.map_append, List.map_map]; rfl
  rw [e]
  exact tri_map (fun r : List Int => D.lst (r.map D.int)) (fun r : List Int => D.lst (r.map D.int)) hoD _ _ _
def g_stretches : FA := fun ds C => ∃ a es b fs, ds = [a, b] ∧ Zq a es ∧ Zq b fs ∧ es.length ≤ 900 ∧ fs.length ≤ 900 ∧ hzs es = hzs fs ∧ C (.val (.lst ((partsZ es fs).map ptD)))
theorem rd_stretches : ∀ ds C, ds.length = 2 → g_stretches ds C → T_stretches g_slopes_between g_same_hands (EA C) (startA N_stretches ds) := by
  rintro ds C - ⟨a, es, b, fs, rfl, ha, hb, h1, h2, hh, hC⟩
  have hl := hands_le es
  have lr : ∀ xs : List Ze, (rowsD (strS xs)).length = (hzs xs).length + 1 := fun xs => by unfold rowsD; rw [List.length_map, strS_len]
  have lh : (zsD (handsZ es) ++ [D.non]).length = (hzs es).length + 1 := by rw [zsD_hands, List.length_append, List.length_map]; rfl
  have sz : (zsD (handsZ es) ++ [D.non]).length ≤ sizeLine := Nat.le_trans (show _ ≤ 1000 by rw [List.length_append, zsD_len]; show _ + 1 ≤ _; omega) (by decide)
  rw [← parts_tri] at hC
  have c1 : (rowsD (strS es)).length = (rowsD (strS fs)).length := by rw [lr, lr, hh]
  have c2 : (rowsD (strS es)).length = (zsD (handsZ es) ++ [D.non]).length := by rw [lr, lh]
  refine ⟨rfl, a, es, b, fs, rfl, ha, hb, h1, h2, by rw [handsZ_hzs, handsZ_hzs, hh], fun p => ?_, ?_⟩
  · exact ⟨rfl, a, es, rfl, ha, h1, fun q => ⟨rfl, b, fs, rfl, hb, h2, fun q2 => ⟨sz, c1, c2, hC⟩⟩⟩
  · exact ⟨rfl, a, es, rfl, ha, h1, fun q => ⟨rfl, b, fs, rfl, hb, h2, fun q2 => ⟨sz, c1, c2, hC⟩⟩⟩
def GoodZ (n : Int) : Ze → Prop
  | .inl w => 0 ≤ w.2
  | .inr h => 0 ≤ h.1 ∧ h.1 < n ∧ -20 ≤ h.2 ∧ h.2 ≤ 20
theorem lit_f1 : ("f" : Str) = ⟨#[102]⟩ := by decide +kernel
theorem mul_f (n : Nat) : Txt.mul ("f" : Str) ((n : Nat) : Int) = txt (List.replicate n false) := by
  refine str_ext ?_
  rw [lit_f1, mul_one_list]
  show List.replicate (Int.toNat (n : Int)) 102 = (List.replicate n false).map sg
  rw [List.map_replicate, Int.toNat_natCast]; rfl
def totP (ps : List Pt) : Nat := (ps.map fun q => q.1.length + q.2.1.length + 1).sum
def waysZ (q : Pt) : List (List Wd) := (allO q.1.length q.2.1.length).map (almL q.1 q.2.1 0 0)
def hoZ : Option (Int × Int) → List Ze
  | none => []
  | some h => [.inr h]
theorem hoZ_len (h : Option (Int × Int)) : (hoZ h).length ≤ 1 := by cases h <;> simp [hoZ]
theorem zsD_app (a b : List Ze) : zsD a ++ zsD b = zsD (a ++ b) := by unfold zsD; rw [List.map_append]
theorem sl900 {n : Nat} (h : n ≤ 2000) : n ≤ sizeLine := Nat.le_trans h (by decide)
theorem windsZ (ws : List Wd) : windsD ws = zsD (ws.map Sum.inl) := by unfold windsD zsD; rw [List.map_map]; rfl
def slopesC (c : Bool) (ws : List Wd) : List Int := (ws.filter fun w => w.1 == c).map fun w => w.2
def splZ : List Ze → List (List Wd × Option (Int × Int))
  | [] => [([], none)]
  | .inl w :: r => match splZ r with
    | (ws, h) :: t => (w :: ws, h) :: t
    | [] => []
  | .inr h :: r => ([], some h) :: splZ r
theorem splZ_some : ∀ es : List Ze, ∃ ws h t, splZ es = (ws, h) :: t
  | [] => ⟨_, _, _, rfl⟩
  | .inl w :: r => by
    obtain ⟨ws, h, t, e⟩ := splZ_some r
    refine ⟨w :: ws, h, t, ?_⟩
    show (match splZ r with | (ws, h) :: t => (w :: ws, h) :: t | [] => []) = _
    rw [e]
  | .inr h :: r => ⟨_, _, _, rfl⟩
theorem splZ_wd {w : Wd} {r : List Ze} {ws : List Wd} {h : Option (Int × Int)} {t : List (List Wd × Option (Int × Int))} (e : splZ r = (ws, h) :: t) : splZ (.inl w :: r) = (w :: ws, h) :: t := by
  show (match splZ r with | (ws, h) :: t => (w :: ws, h) :: t | [] => []) = _
  rw [e]
theorem spl_hands : ∀ es : List Ze, (splZ es).map (·.2) = (hzs es).map some ++ [none]
  | [] => rfl
  | .inl w :: r => by
    obtain ⟨ws, h, t, e⟩ := splZ_some r
    have := spl_hands r
    rw [splZ_wd e]
    rw [e] at this
    exact this
  | .inr h :: r => by
    show some h :: (splZ r).map (·.2) = some h :: ((hzs r).map some ++ [none])
    rw [spl_hands r]
theorem hzs_kept (c : Bool) : ∀ es : List Ze, hzs (keptZ c es) = hzs es
  | [] => rfl
  | .inl w :: r => by
    show hzs (List.filter (keepC c) (.inl w :: r)) = hzs r
    rw [List.filter_cons]
    split
    · exact hzs_kept c r
    · exact hzs_kept c r
  | .inr h :: r => by
    show hzs (List.filter (keepC c) (.inr h :: r)) = h :: hzs r
    rw [List.filter_cons, if_pos (show keepC c (.inr h) = true from rfl), ← hzs_kept c r]
    rfl
theorem spl_slopes (c : Bool) : ∀ es : List Ze, strS (keptZ c es) = (splZ es).map fun p => slopesC c p.1
  | [] => rfl
  | .inl w :: r => by
    obtain ⟨ws, h, t, e⟩ := splZ_some r
    have ih := spl_slopes c r
    rw [e] at ih
    rw [splZ_wd e]
    show strS (List.filter (keepC c) (.inl w :: r)) = slopesC c (w :: ws) :: t.map fun p => slopesC c p.1
    have ih : strS (keptZ c r) = slopesC c ws :: t.map fun p => slopesC c p.1 := ih
    rw [List.filter_cons]
    unfold slopesC
    rw [List.filter_cons]
    by_cases hc : (w.1 == c) = true
    · rw [if_pos hc, if_pos (show keepC c (.inl w) = true from hc), strS_wd ih]
      rfl
    · rw [if_neg hc, if_neg (show ¬ keepC c (.inl w) = true from hc)]
      exact ih
  | .inr h :: r => by
    show strS (List.filter (keepC c) (.inr h :: r)) = [] :: (splZ r).map fun p => slopesC c p.1
    rw [List.filter_cons, if_pos (show keepC c (.inr h) = true from rfl), strS_hd, ← spl_slopes c r]
def toP (p : List Wd × Option (Int × Int)) : Pt := (slopesC true p.1, slopesC false p.1, p.2)
theorem zip3_same {α β γ δ : Type} (f : α → β) (g : α → γ) (k : α → δ) : ∀ l : List α, (l.map f).zip ((l.map g).zip (l.map k)) = l.map fun x => (f x, g x, k x)
  | [] => rfl
  | x :: l => by
    show (f x, g x, k x) :: (l.map f).zip ((l.map g).zip (l.map k)) = _
    rw [zip3_same f g k l]; rfl
theorem parts_own (es : List Ze) : partsZ (keptZ true es) (keptZ false es) = (splZ es).map toP := by
  unfold partsZ
  rw [hzs_kept, ← spl_hands, spl_slopes, spl_slopes]
  exact zip3_same (fun p => slopesC true p.1) (fun p => slopesC false p.1) (fun p => p.2) (splZ es)
def zB (l : List Int) : Ze → List Int
  | .inl w => blW l w
  | .inr h => handL h.2 h.1.toNat l
def zDone (l : List Int) (es : List Ze) : List Int := es.foldl zB l
def okZ (n : Nat) : Ze → Prop
  | .inl w => 0 ≤ w.2
  | .inr h => 0 ≤ h.1 ∧ h.1 < (n : Int)
theorem zB_len (l : List Int) (e : Ze) : (zB l e).length = l.length := by
  cases e with
  | inl w => exact blW_len l w
  | inr h => exact handL_len _ _ l
theorem zDone_len : ∀ (es : List Ze) (l : List Int), (zDone l es).length = l.length
  | [], _ => rfl
  | e :: es, l => by
    show (zDone (zB l e) es).length = _
    rw [zDone_len es, zB_len]
theorem zDone_app (l : List Int) (a b : List Ze) : zDone l (a ++ b) = zDone (zDone l a) b := by unfold zDone; rw [List.foldl_append]
theorem handL_mono (v : Int) : ∀ {a b : List Int} (q : Nat), Lq a b → Lq (handL v q a) (handL v q b)
  | [], [], q, _ => by cases q <;> trivial
  | x :: a, y :: b, 0, h => ⟨by show x + v ≤ y + v; have := h.1; omega, h.2⟩
  | x :: a, y :: b, q + 1, h => ⟨h.1, handL_mono v q h.2⟩
  | [], _ :: _, _, h => h.elim
  | _ :: _, [], _, h => h.elim
def firstO (c : Bool) (m n : Nat) : List Bool := if c then List.replicate m true ++ List.replicate n false else List.replicate n false ++ List.replicate m true
def firstW (c : Bool) (q : Pt) : List Wd := almL q.1 q.2.1 0 0 (firstO c q.1.length q.2.1.length)
def allF (c : Bool) (ps : List Pt) : List Ze := ps.flatMap fun q => (firstW c q).map Sum.inl ++ hoZ q.2.2
theorem firstO_ct (c : Bool) (m n : Nat) : cT (firstO c m n) = m ∧ cF (firstO c m n) = n := by
  cases c
  · show cT (List.replicate n false ++ List.replicate m true) = m ∧ cF (List.replicate n false ++ List.replicate m true) = n
    rw [cT_append, cF_append, (ct_repT m).1, (ct_repF n).2, (ct_repT m).2, (ct_repF n).1]; omega
  · show cT (List.replicate m true ++ List.replicate n false) = m ∧ cF (List.replicate m true ++ List.replicate n false) = n
    rw [cT_append, cF_append, (ct_repT m).1, (ct_repF n).2, (ct_repT m).2, (ct_repF n).1]; omega
theorem firstO_len (c : Bool) (m n : Nat) : (firstO c m n).length = m + n := by
  have h1 := cT_cF (firstO c m n)
  have h2 := firstO_ct c m n
  omega
theorem firstW_mem (c : Bool) (q : Pt) : firstW c q ∈ waysZ q := List.mem_map.mpr ⟨_, (mem_allO _ _ _ (Nat.le_refl _) _).mpr (firstO_ct c _ _), rfl⟩
theorem way_nonneg {q : Pt} {w : List Wd} (hw : w ∈ waysZ q) (pc : Pos0 q.1) (pf : Pos0 q.2.1) : ∀ v ∈ w, 0 ≤ v.2 := by
  obtain ⟨o, ho, rfl⟩ := List.mem_map.mp hw
  exact almL_nonneg pc pf o 0 0
theorem way_len {q : Pt} {w : List Wd} (hw : w ∈ waysZ q) : w.length = q.1.length + q.2.1.length := by
  obtain ⟨o, ho, rfl⟩ := List.mem_map.mp hw
  obtain ⟨h1, h2⟩ := (mem_allO _ _ _ (Nat.le_refl _) o).mp ho
  have := cT_cF o
  rw [almL_len]; omega
def IsRow : List Pt → List Ze → Prop
  | [], r => r = []
  | q :: ps, r => ∃ w ∈ waysZ q, ∃ r', IsRow ps r' ∧ r = w.map Sum.inl ++ (hoZ q.2.2 ++ r')
def PtOk (n : Nat) (q : Pt) : Prop := Pos0 q.1 ∧ Pos0 q.2.1 ∧ ∀ e ∈ hoZ q.2.2, okZ n e
theorem allF_row (c : Bool) : ∀ ps : List Pt, IsRow ps (allF c ps)
  | [] => rfl
  | q :: ps => ⟨firstW c q, firstW_mem c q, allF c ps, allF_row c ps, by unfold allF; rw [List.flatMap_cons, List.append_assoc]⟩
theorem row_ok {n : Nat} : ∀ (ps : List Pt) (r : List Ze), IsRow ps r → (∀ q ∈ ps, PtOk n q) → ∀ e ∈ r, okZ n e
  | [], r, hr, _, e, he => by
    have hr : r = [] := hr
    subst hr
    cases he
  | q :: ps, r, hr, hp, e, he => by
    obtain ⟨w, hw, r', hr', rfl⟩ := hr
    obtain ⟨pc, pf, ph⟩ := hp q List.mem_cons_self
    rcases List.mem_append.mp he with he | he
    · obtain ⟨v, hv, rfl⟩ := List.mem_map.mp he
      exact way_nonneg hw pc pf v hv
    · rcases List.mem_append.mp he with he | he
      · exact ph e he
      · exact row_ok ps r' hr' (fun x hx => hp x (List.mem_cons_of_mem _ hx)) e he
theorem str_pos {n : Nat} : ∀ (es : List Ze), (∀ e ∈ es, okZ n e) → ∀ r ∈ strS es, Pos0 r
  | [], _, r, hr => by rw [List.mem_singleton.mp hr]; intro x hx; cases hx
  | .inl w :: es, h, r, hr => by
    obtain ⟨a, b, e⟩ := strS_some es
    have ih := str_pos es fun x hx => h x (List.mem_cons_of_mem _ hx)
    rw [strS_wd e] at hr
    rw [e] at ih
    rcases List.mem_cons.mp hr with rfl | hr
    · intro x hx
      rcases List.mem_cons.mp hx with rfl | hx
      · exact h (.inl w) List.mem_cons_self
      · exact ih a List.mem_cons_self x hx
    · exact ih r (List.mem_cons_of_mem _ hr)
  | .inr x :: es, h, r, hr => by
    rw [strS_hd] at hr
    rcases List.mem_cons.mp hr with rfl | hr
    · intro x hx; cases hx
    · exact str_pos es (fun x hx => h x (List.mem_cons_of_mem _ hx)) r hr
theorem hzs_in : ∀ (es : List Ze) (h : Int × Int), h ∈ hzs es → Sum.inr h ∈ es
  | .inl w :: es, h, m => List.mem_cons_of_mem _ (hzs_in es h m)
  | .inr x :: es, h, m => by
    have m : h ∈ x :: hzs es := m
    rcases List.mem_cons.mp m with rfl | m
    · exact List.mem_cons_self
    · exact List.mem_cons_of_mem _ (hzs_in es h m)
theorem parts_ok {n : Nat} {es fs : List Ze} (h1 : ∀ e ∈ es, okZ n e) (h2 : ∀ e ∈ fs, okZ n e) : ∀ q ∈ partsZ es fs, PtOk n q := by
  intro q hq
  obtain ⟨x, y, g⟩ := q
  have m1 := (List.of_mem_zip hq).1
  have m0 := List.of_mem_zip (List.of_mem_zip hq).2
  refine ⟨str_pos es h1 x m1, str_pos fs h2 y m0.1, fun e he => ?_⟩
  cases g with
  | none => cases he
  | some h =>
    have he : e = .inr h := List.mem_singleton.mp he
    have m2 : some h ∈ (hzs es).map some ++ [none] := m0.2
    rcases List.mem_append.mp m2 with m2 | m2
    · obtain ⟨h', hh, e'⟩ := List.mem_map.mp m2
      cases e'
      rw [he]
      exact h1 _ (hzs_in es h hh)
    · cases List.mem_singleton.mp m2
theorem tot_zip : ∀ (A B : List (List Int)) (G : List (Option (Int × Int))), totP (A.zip (B.zip G)) ≤ (A.map List.length).sum + (B.map List.length).sum + G.length
  | [], _, _ => Nat.zero_le _
  | _ :: _, [], _ => Nat.zero_le _
  | _ :: _, _ :: _, [] => Nat.zero_le _
  | a :: A, b :: B, g :: G => by
    have := tot_zip A B G
    have e : totP ((a :: A).zip ((b :: B).zip (g :: G))) = a.length + b.length + 1 + totP (A.zip (B.zip G)) := rfl
    rw [e]
    simp only [List.map_cons, List.sum_cons, List.length_cons]
    omega
theorem str_sum : ∀ es : List Ze, ((strS es).map List.length).sum + (hzs es).length = es.length
  | [] => rfl
  | .inl w :: es => by
    obtain ⟨a, b, e⟩ := strS_some es
    have ih := str_sum es
    rw [e] at ih
    rw [strS_wd e]
    show ((w.2 :: a).length + (b.map List.length).sum) + (hzs es).length = es.length + 1
    have ih : (a.length + (b.map List.length).sum) + (hzs es).length = es.length := ih
    rw [List.length_cons]
    omega
  | .inr x :: es => by
    have ih := str_sum es
    show (0 + ((strS es).map List.length).sum) + ((hzs es).length + 1) = es.length + 1
    omega
theorem tot_parts (es fs : List Ze) : totP (partsZ es fs) ≤ es.length + fs.length + 1 := by
  have h := tot_zip (strS es) (strS fs) ((hzs es).map some ++ [none])
  rw [List.length_append, List.length_map] at h
  have h1 := str_sum es
  have h2 := str_sum fs
  have h : totP (partsZ es fs) ≤ ((strS es).map List.length).sum + ((strS fs).map List.length).sum + ((hzs es).length + 1) := h
  omega
theorem kept_le (c : Bool) (es : List Ze) : (keptZ c es).length ≤ es.length := List.length_filter_le _ _
theorem kept_ok {n : Nat} {es : List Ze} (c : Bool) (h : ∀ e ∈ es, okZ n e) : ∀ e ∈ keptZ c es, okZ n e := fun e he => h e (List.mem_filter.mp he).1
def g_done : FA := fun ds C => ∃ d ns ps, ds = [d, .lst (ps.map Prod.fst)] ∧ Sq d ns ∧ ns ≠ [] ∧ ns.length ≤ 1000 ∧ PrsF ps ∧ (∀ e ∈ ps.map Prod.snd, okZ ns.length e) ∧ C (.val (tD (zDone ns (ps.map Prod.snd))))
theorem done_step {P : PEnds} {d a : D} {now ns : List Int} {p : D × Ze} (hl : ns.length ≤ 1000) (hne : ns ≠ []) (h1 : now.length = ns.length) (hf : ZnF p.1 p.2) (ho : okZ ns.length p.2) (hP : P.nx [some (.val d), some (.val a), some (.val (tD (zB now p.2))), some (.val p.1)]) : pSet 2 (pVal (pIf (pTest (pFrz (pCallA 1 g_is_hand (pCons (pVar 3) pNil)))) (pFrz (pCallA 3 g_handed (pCons (pVar 2) (pCons (pIxO 3 (pC (.int 1))) (pCons (pIxO 3 (pC (.int 2))) pNil))))) (pFrz (pCallA 2 g_blownW (pCons (pVar 2) (pCons (pVar 3) pNil)))))) P [some (.val d), some (.val a), some (.val (tD now)), some (.val p.1)] := by
  have hne' : now ≠ [] := ne_len h1 hne
  obtain ⟨p1, e⟩ := p
  refine ⟨rfl, p1, e, rfl, hf, ?_⟩
  cases e with
  | inl w => exact ifF rfl ⟨rfl, _, now, p1, w.1, w.2, rfl, .inl rfl, hf, hne', by omega, hP⟩
  | inr h =>
    obtain ⟨q, v⟩ := h
    obtain ⟨h0, h2⟩ := ho
    obtain ⟨q, rfl⟩ := Int.eq_ofNat_of_zero_le h0
    have h2 : (q : Int) < (ns.length : Int) := h2
    rcases hf with hf | hf
    · have hf : p1 = .tup [.str handS, .int (q : Int), .int v] := hf
      subst hf
      exact ifT rfl ⟨_, rfl, _, rfl, rfl, _, now, q, v, rfl, .inl rfl, by omega, by omega, hP⟩
    · have hf : p1 = .lst [.str handS, .int (q : Int), .int v] := hf
      subst hf
      exact ifT rfl ⟨_, rfl, _, rfl, rfl, _, now, q, v, rfl, .inl rfl, by omega, by omega, hP⟩
theorem rd_done : ∀ ds C, ds.length = 2 → g_done ds C → T_done g_handed g_blownW g_is_hand (EA C) (startA N_done ds) := by
  rintro ds C - ⟨d, ns, ps, rfl, hd, hne, hl, hf, ho, hC⟩
  have fin : ∀ (d' : D) (P : PEnds), (∀ w3, P.nx [some (.val d'), some (.val (.lst (ps.map Prod.fst))), some (.val (tD (zDone ns (ps.map Prod.snd)))), w3]) → forW (hName 3) (pSet 2 (pVal (pIf (pTest (pFrz (pCallA 1 g_is_hand (pCons (pVar 3) pNil)))) (pFrz (pCallA 3 g_handed (pCons (pVar 2) (pCons (pIxO 3 (pC (.int 1))) (pCons (pIxO 3 (pC (.int 2))) pNil))))) (pFrz (pCallA 2 g_blownW (pCons (pVar 2) (pCons (pVar 3) pNil))))))) P (ps.map Prod.fst) [some (.val d'), some (.val (.lst (ps.map Prod.fst))), some (.val (tD ns)), none] := by
    intro d' P hP
    refine fr_mp ps Prod.fst (fun r ρ => ∃ (now : List Int) (w3 : Option Cell), now.length = ns.length ∧ PrsF r ∧ (∀ e ∈ r.map Prod.snd, okZ ns.length e) ∧ zDone now (r.map Prod.snd) = zDone ns (ps.map Prod.snd) ∧ ρ = [some (.val d'), some (.val (.lst (ps.map Prod.fst))), some (.val (tD now)), w3]) rfl ⟨ns, none, rfl, hf, ho, rfl, rfl⟩ (fun p r ρ K hI hK => ?_) (fun ρ hI => ?_)
    · obtain ⟨now, w3, h1, h0, h2, h3, rfl⟩ := hI
      exact done_step hl hne h1 (h0 p (by simp)) (h2 p.2 (by simp)) (hK _ ⟨zB now p.2, _, by rw [zB_len, h1], fun x hx => h0 x (by simp [hx]), fun x hx => h2 x (by rw [List.map_cons]; exact List.mem_cons_of_mem _ hx), h3, rfl⟩)
    · obtain ⟨now, w3, h1, h0, h2, h3, rfl⟩ := hI
      have h3 : now = zDone ns (ps.map Prod.snd) := h3
      subst h3
      exact hP w3
  rcases hd with rfl | rfl
  all_goals exact fin _ _ fun _ => hC
theorem done_own {d : D} {ns : List Int} {es : List Ze} {C : Cell → Prop} (hd : Sq d ns) (hne : ns ≠ []) (hl : ns.length ≤ 1000) (ho : ∀ e ∈ es, okZ ns.length e) (hC : C (.val (tD (zDone ns es)))) : g_done [d, .lst (zsD es)] C :=
  ⟨d, ns, ownPrs es, by rw [own_fst], hd, hne, hl, own_F es, by rw [own_snd]; exact ho, by rw [own_snd]; exact hC⟩
def g_all_of_one_first : FA := fun ds C => ∃ ps c, ds = [.lst (ps.map ptD), .str (wordS c)] ∧ totP ps ≤ 800 ∧ ∀ p, C (.own p (zsD (allF c ps)))
theorem rd_all_of_one_first : ∀ ds C, ds.length = 2 → g_all_of_one_first ds C → T_all_of_one_first g_almanac_of (EA C) (startA N_all_of_one_first ds) := by
  rintro ds C - ⟨ps, c, rfl, ht, hC⟩
  refine ⟨by show (0 : Nat) ≤ sizeLine; decide, fun p => ?_⟩
  refine fr_mp ps ptD (fun r ρ => ∃ (L : List Ze) (w3 w4 w5 w6 w7 : Option Cell), L ++ allF c r = allF c ps ∧ L.length + totP r ≤ 800 ∧ ρ = [some (.val (.lst (ps.map ptD))), some (.val (.str (wordS c))), some (.own p (zsD L)), w3, w4, w5, w6, w7]) rfl ⟨[], _, _, _, _, _, rfl, by simpa using ht, rfl⟩ (fun q r ρ K hI hK => ?_) (fun ρ hI => ?_)
  · obtain ⟨L, w3, w4, w5, w6, w7, eL, hL, rfl⟩ := hI
    have e3 : totP (q :: r) = q.1.length + q.2.1.length + 1 + totP r := rfl
    have hfl := firstO_len c q.1.length q.2.1.length
    have hct := firstO_ct c q.1.length q.2.1.length
    have wl : (firstW c q).length = q.1.length + q.2.1.length := way_len (firstW_mem c q)
    have m1 : MulOk ("c" : Str) ((dI q.1).length : Int) := mulOk_small (by decide) (by omega) (by rw [ints_len]; omega)
    have m2 : MulOk ("f" : Str) ((dI q.2.1).length : Int) := mulOk_small (by decide) (by omega) (by rw [ints_len]; omega)
    have x1 : Txt.mul ("c" : Str) ((dI q.1).length : Int) = txt (List.replicate q.1.length true) := by rw [ints_len, mul_c]
    have x2 : Txt.mul ("f" : Str) ((dI q.2.1).length : Int) = txt (List.replicate q.2.1.length false) := by rw [ints_len, mul_f]
    refine ⟨rfl, rfl, m1, ?_⟩
    rw [x1]
    refine ⟨m2, ?_⟩
    rw [x2]
    have fin : ∀ (L2 : List Ze), L2 = L ++ ((firstW c q).map Sum.inl ++ hoZ q.2.2) → K (([some (.val (.lst (ps.map ptD))), some (.val (.str (wordS c))), some (.own p (zsD L2)), some (.val (.lst (dI q.1))), some (.val (.lst (dI q.2.1))), some (.val (hoD q.2.2)), some (.val (.str (txt (List.replicate q.1.length true)))), some (.val (.str (txt (List.replicate q.2.1.length false))))] : Ro)) := fun L2 e2 => by
      refine hK _ ⟨L2, _, _, _, _, _, ?_, ?_, rfl⟩
      · rw [← eL, e2]
        unfold allF
        rw [List.flatMap_cons, List.append_assoc]
      · have := hoZ_len q.2.2
        rw [e2, List.length_append, List.length_append, List.length_map]
        omega
    have more : pIfS (pTest (pOp fNotN (pVar 5) (pC .non))) (pAppend 2 (pVar 5)) pNext { nx := K, rt := fun _ _ => True, ct := K, bk := fun _ => True } [some (.val (.lst (ps.map ptD))), some (.val (.str (wordS c))), some (.own p (zsD (L ++ (firstW c q).map Sum.inl))), some (.val (.lst (dI q.1))), some (.val (.lst (dI q.2.1))), some (.val (hoD q.2.2)), some (.val (.str (txt (List.replicate q.1.length true)))), some (.val (.str (txt (List.replicate q.2.1.length false))))] := by
      cases hq : q.2.2 with
      | none =>
        rw [hq] at fin
        exact fin _ (by show _ = L ++ (_ ++ []); rw [List.append_nil])
      | some h =>
        rw [hq] at fin
        refine ⟨_, rfl, Nat.lt_of_lt_of_le (show _ < 1000 by rw [zsD_len, List.length_append, List.length_map]; omega) (by decide), ?_⟩
        have := fin _ rfl
        rw [← List.append_assoc, ← zsD_app] at this
        exact this
    have tl : ∀ (a b : List Bool), a.length + b.length ≤ 1000 → (txt a).length + (txt b).length ≤ sizeLine := fun a b h => by rw [txt_len, txt_len]; exact sl1000 h
    have ext : (zsD L).length + (windsD (firstW c q)).length ≤ sizeLine := sl900 (by rw [zsD_len, windsD_len]; omega)
    have e4 : zsD L ++ windsD (firstW c q) = zsD (L ++ (firstW c q).map Sum.inl) := by rw [windsZ, zsD_app]
    rw [← e4] at more
    cases c
    · refine ⟨sh_word _, sh_word true, ifF (by decide +kernel) ⟨tl _ _ (by rw [List.length_replicate, List.length_replicate]; omega), ?_⟩⟩
      rw [txt_append]
      exact ⟨rfl, _, q.1, _, q.2.1, firstO false q.1.length q.2.1.length, rfl, .inr rfl, .inr rfl, by omega, by omega, by omega, fun p2 => ⟨_, rfl, ext, more⟩⟩
    · refine ⟨sh_word _, sh_word true, ifT (by decide +kernel) ⟨tl _ _ (by rw [List.length_replicate, List.length_replicate]; omega), ?_⟩⟩
      rw [txt_append]
      exact ⟨rfl, _, q.1, _, q.2.1, firstO true q.1.length q.2.1.length, rfl, .inr rfl, .inr rfl, by omega, by omega, by omega, fun p2 => ⟨_, rfl, ext, more⟩⟩
  · obtain ⟨L, w3, w4, w5, w6, w7, eL, _, rfl⟩ := hI
    have eL : L = allF c ps := by rw [← eL]; simp [allF]
    subst eL
    exact hC p
abbrev bothD (ns : List Int) (ps : List Pt) : D := .tup [tD (zDone ns (allF true ps)), tD (zDone ns (allF false ps))]
def g_long_may : FA := fun ds C => ∃ d ns a es b fs, ds = [d, a, b] ∧ Sq d ns ∧ ns ≠ [] ∧ ns.length ≤ 900 ∧ Zq a es ∧ Zq b fs ∧ es.length ≤ 300 ∧ fs.length ≤ 300 ∧ hzs es = hzs fs ∧ (∀ q ∈ partsZ es fs, PtOk ns.length q) ∧ C (.val (bothD ns (partsZ es fs)))
theorem rd_long_may : ∀ ds C, ds.length = 3 → g_long_may ds C → T_long_may g_done g_stretches g_all_of_one_first (EA C) (startA N_long_may ds) := by
  rintro ds C - ⟨d, ns, a, es, b, fs, rfl, hd, hne, hl, ha, hb, h1, h2, hh, hp, hC⟩
  have ht := tot_parts es fs
  have hok : ∀ c, ∀ e ∈ allF c (partsZ es fs), okZ ns.length e := fun c => row_ok _ _ (allF_row c _) hp
  refine ⟨rfl, a, es, b, fs, rfl, ha, hb, by omega, by omega, hh, ?_⟩
  refine ⟨rfl, _, true, rfl, by omega, fun p1 => ⟨rfl, done_own hd hne (by omega) (hok true) ?_⟩⟩
  refine ⟨rfl, _, false, rfl, by omega, fun p2 => ⟨rfl, done_own hd hne (by omega) (hok false) ?_⟩⟩
  exact ⟨by show (2 : Nat) ≤ sizeLine; decide, hC⟩
end Pl
namespace Pl
open PySem PySem.Spec PyProof.Rows L2
def g_sand : FA := fun ds C => ∃ d ns, ds = [d] ∧ Sq d ns ∧ C (.val (.int ns.sum))
theorem rd_sand : ∀ ds C, ds.length = 1 → g_sand ds C → T_sand (EA C) (startA N_sand ds) := by
  rintro ds C - ⟨d, ns, rfl, hd, hC⟩
  rcases hd with rfl | rfl
  · exact ⟨ns, rfl, hC⟩
  · exact ⟨ns, rfl, hC⟩
def amP (c : Bool) (a b : List Int) : Int × Int := if c = true then (-(b.sum - a.sum), 0) else (0, b.sum - a.sum)
def prD (p : Int × Int) : D := .tup [.int p.1, .int p.2]
def g_amountW : FA := fun ds C => ∃ w c s a b, ds = [w, tD a, tD b] ∧ Wn w c s ∧ C (.val (prD (amP c a b)))
theorem rd_amountW : ∀ ds C, ds.length = 3 → g_amountW ds C → T_amount g_sand (EA C) (startA N_amount ds) := by
  rintro ds C - ⟨w, c, s, a, b, rfl, hw, hC⟩
  have h2 : (2 : Nat) ≤ sizeLine := by decide
  refine ⟨rfl, _, b, rfl, .inl rfl, rfl, _, a, rfl, .inl rfl, ?_⟩
  rcases hw with rfl | rfl
  · cases c with
    | true => exact ⟨_, rfl, sh_cut, sh_cut, ifT (by decide +kernel) ⟨h2, hC⟩⟩
    | false => exact ⟨_, rfl, sh_fill, sh_cut, ifF (by decide +kernel) ⟨h2, hC⟩⟩
  · cases c with
    | true => exact ⟨_, rfl, sh_cut, sh_cut, ifT (by decide +kernel) ⟨h2, hC⟩⟩
    | false => exact ⟨_, rfl, sh_fill, sh_cut, ifF (by decide +kernel) ⟨h2, hC⟩⟩
def g_amounts1 : FA := fun ds C => ∃ (ns : List Int) (d : D) (c : Bool) (s : Int), ds = [tD ns, .lst [d]] ∧ Wn d c s ∧ ns ≠ [] ∧ ns.length ≤ 900 ∧ ∀ p : Addr, C (.own p [prD (amP c ns (blW ns (c, s)))])
theorem rd_amounts1 : ∀ ds C, ds.length = 2 → g_amounts1 ds C → T_amounts g_daysW g_amountW (EA C) (startA N_amounts ds) := by
  rintro ds C - ⟨ns, d, c, s, rfl, hd, hne, hl, hC⟩
  refine ⟨rfl, tD ns, ns, .lst [d], [(c, s)], rfl, .inl rfl, ⟨[(d, (c, s))], .inl rfl, fun p hp => by rw [List.mem_singleton.mp hp]; exact hd, rfl⟩, hne, by omega, by show (1 : Nat) ≤ 900; decide, fun p => ?_⟩
  refine ⟨rfl, rfl, rfl, d, c, s, ns, blW ns (c, s), rfl, hd, ?_⟩
  exact ⟨by show (0 : Nat) < sizeLine; decide, fun a => hC a⟩
def tellZ (ns : List Int) : Ze → D
  | .inl w => prD (amP w.1 ns (blW ns w))
  | .inr _ => .non
def tellsZ : List Int → List Ze → List D
  | _, [] => []
  | ns, e :: es => tellZ ns e :: tellsZ (zB ns e) es
def g_outcome : FA := fun ds C => ∃ ns d e, ds = [tD ns, d] ∧ ZnF d e ∧ ns ≠ [] ∧ ns.length ≤ 900 ∧ okZ ns.length e ∧ C (.val (.tup [tD (zB ns e), tellZ ns e]))
theorem rd_outcome : ∀ ds C, ds.length = 2 → g_outcome ds C → T_outcome g_amounts1 g_is_hand g_done (EA C) (startA N_outcome ds) := by
  rintro ds C - ⟨ns, d, e, rfl, hf, hne, hl, ho, hC⟩
  have s1 : (1 : Nat) ≤ sizeLine := by decide
  have s2 : (2 : Nat) ≤ sizeLine := by decide
  refine ⟨s1, rfl, tD ns, ns, [(d, e)], rfl, .inl rfl, hne, by omega, fun p hp => by rw [List.mem_singleton.mp hp]; exact hf, fun x hx => by rw [List.mem_singleton.mp hx]; exact ho, ?_⟩
  refine ⟨rfl, d, e, rfl, hf, ?_⟩
  cases e with
  | inl w => exact ifF rfl ⟨s1, rfl, ns, d, w.1, w.2, rfl, hf, hne, hl, fun p => ⟨_, rfl, s2, hC⟩⟩
  | inr h => exact ifT rfl ⟨s2, hC⟩
def dpD (es : List Ze) : D := .tup (zsD es)
def ydF (l : List Int) (ess : List (List Ze)) (p q : Addr) (nt : List D) : Fds := [("origin", .val (tD l)), ("standing", .own p (ess.map dpD)), ("notes", .own q nt)]
theorem yd_o {l : List Int} {ess : List (List Ze)} {p q : Addr} {nt : List D} : (ydF l ess p q nt).lookup ("origin" : Str) = some (.val (tD l)) := rfl
theorem yd_s {l : List Int} {ess : List (List Ze)} {p q : Addr} {nt : List D} : (ydF l ess p q nt).lookup ("standing" : Str) = some (.own p (ess.map dpD)) := rfl
theorem yd_n {l : List Int} {ess : List (List Ze)} {p q : Addr} {nt : List D} : (ydF l ess p q nt).lookup ("notes" : Str) = some (.own q nt) := rfl
theorem put_n {l : List Int} {ess : List (List Ze)} {p q : Addr} {nt nt' : List D} : putFd ("notes" : Str) (.own q nt') (ydF l ess p q nt) = ydF l ess p q nt' := rfl
theorem put_s2 {l : List Int} {ess : List (List Ze)} {es : List Ze} {p q : Addr} {nt : List D} : putFd ("standing" : Str) (.own p (ess.map dpD ++ [dpD es])) (ydF l ess p q nt) = ydF l (ess ++ [es]) p q nt := by
  have e : ess.map dpD ++ [dpD es] = (ess ++ [es]).map dpD := by rw [List.map_append]; rfl
  rw [e]; rfl
theorem put_s3 {l : List Int} {ess : List (List Ze)} {es : List Ze} {p q : Addr} {nt : List D} : putFd ("standing" : Str) (.own p (((ess ++ [es]).map dpD).dropLast)) (ydF l (ess ++ [es]) p q nt) = ydF l ess p q nt := by
  have e : ((ess ++ [es]).map dpD).dropLast = ess.map dpD := by rw [List.map_append]; exact List.dropLast_concat
  rw [e]; rfl
theorem noL_zs : ∀ es : List Ze, noLs (zsD es) = true
  | [] => rfl
  | .inl w :: es => by
    show (noL (windD w.1 w.2) && noLs (zsD es)) = true
    rw [noL_zs es]; rfl
  | .inr h :: es => by
    show (noL (hzD h) && noLs (zsD es)) = true
    rw [noL_zs es]; rfl
theorem flat_zs (ess : List (List Ze)) : ess.flatMap (fun es => zsD es) = zsD ess.flatten := by
  unfold zsD
  rw [List.map_flatten, List.flatMap_def]
theorem fl_snoc (ess : List (List Ze)) (es : List Ze) : (ess ++ [es]).flatten = ess.flatten ++ es := by rw [List.flatten_append, List.flatten_cons, List.flatten_nil, List.append_nil]
theorem lt100 {n : Nat} (h : n ≤ 100000) : n < sizeLine := Nat.lt_of_le_of_lt h (by decide)
abbrev lgI (w : Str) : D := .tup [.str "in", .str w]
abbrev lgO (w : Str) : D := .tup [.str "out", .str w]
def verbZ (e : Ze) : Str := if isHz e = true then "hand" else "blow"
def lgsZ (es : List Ze) : List D := es.flatMap fun e => [lgI (verbZ e), lgO (verbZ e)]
theorem lgsZ_len (es : List Ze) : (lgsZ es).length = 2 * es.length := by
  unfold lgsZ
  induction es with
  | nil => rfl
  | cons e es ih => rw [List.flatMap_cons, List.length_append, ih]; show 2 + _ = 2 * (es.length + 1); omega
theorem lgsZ_app (a b : List Ze) : lgsZ (a ++ b) = lgsZ a ++ lgsZ b := List.flatMap_append
section
variable {Cy : Addr}
def g_Yard___init__ : FM := fun fs ds C => ∃ d ns, fs = [] ∧ ds = [d] ∧ Sq d ns ∧ ∀ p q, C (.val .non) (ydF ns [] p q [])
theorem rd_Yard___init__ : ∀ a dx fs ds Cn, ds.length + 1 = 2 → g_Yard___init__ fs ds Cn → T_Yard___init__ Cy (EM a Cy dx Cn) (startM N_Yard___init__ (.ins a Cy dx fs) ds) := by
  rintro a dx fs ds Cn - ⟨d, ns, rfl, rfl, hd, hC⟩
  rcases hd with rfl | rfl
  all_goals
    refine ⟨a, dx, [], rfl, by decide, ?_⟩
    refine ⟨by decide, fun p => ⟨a, dx, _, rfl, by show (1 : Nat) < 1000; decide, ?_⟩⟩
    refine ⟨by decide, fun q => ⟨a, dx, _, rfl, by show (2 : Nat) < 1000; decide, ?_⟩⟩
    exact ⟨_, rfl, hC p q⟩
structure YdOk (l : List Int) (ess : List (List Ze)) : Prop where
  ne : l ≠ []
  len : l.length ≤ 900
  few : ess.flatten.length ≤ 250
  ok : ∀ e ∈ ess.flatten, okZ l.length e
theorem YdOk.nil {l : List Int} (h : l ≠ []) (h2 : l.length ≤ 900) : YdOk l [] := ⟨h, h2, by show (0 : Nat) ≤ 250; decide, fun e he => absurd he List.not_mem_nil⟩
theorem YdOk.snoc {l : List Int} {ess : List (List Ze)} {es : List Ze} (h : YdOk l ess) (h2 : ess.flatten.length + es.length ≤ 250) (h3 : ∀ e ∈ es, okZ l.length e) : YdOk l (ess ++ [es]) :=
  ⟨h.ne, h.len, by rw [fl_snoc, List.length_append]; exact h2, fun e he => by
    rw [fl_snoc] at he
    rcases List.mem_append.mp he with he | he
    · exact h.ok e he
    · exact h3 e he⟩
def g_Yard_entries : FM := fun fs ds C => ∃ l ess p q nt, fs = ydF l ess p q nt ∧ ds = [] ∧ ess.flatten.length ≤ 900 ∧ ∀ r, C (.own r (zsD ess.flatten)) fs
theorem rd_Yard_entries : ∀ a dx fs ds Cn, ds.length + 1 = 1 → g_Yard_entries fs ds Cn → T_Yard_entries Cy (EM a Cy dx Cn) (startM N_Yard_entries (.ins a Cy dx fs) ds) := by
  rintro a dx fs ds Cn - ⟨l, ess, p, q, nt, rfl, rfl, hl, hC⟩
  refine ⟨a, dx, _, p, ess.map dpD, rfl, fun j c h => ?_, yd_s, ?_⟩
  · match j, h with
    | 0, _ => rfl
    | 1, h => cases h
    | 2, h => cases h
  · refine lc2_fm ess dpD (fun es => zsD es) [] (fun es _ acc Kn hk hK => ?_) (by rw [flat_zs, zsD_len, List.length_nil]; omega) ?_
    · refine lc2In_fl es zD zD (fun _ => true) acc (fun y _ K h => h _ rfl fun _ K2 h2 => h2 _ rfl) (by rw [zsD_len] at hk; exact sl1000 hk) ?_
      rw [List.filter_eq_self.mpr fun _ _ => rfl]
      exact hK _ rfl
    · rw [List.nil_append, flat_zs]
      exact ⟨noL_zs _, fun r => ⟨_, rfl, hC r⟩⟩
def g_Yard_dune : FM := fun fs ds C => ∃ l ess p q nt, fs = ydF l ess p q nt ∧ ds = [] ∧ YdOk l ess ∧ C (.val (tD (zDone l ess.flatten))) fs
theorem rd_Yard_dune : ∀ a dx fs ds Cn, ds.length + 1 = 1 → g_Yard_dune fs ds Cn → T_Yard_dune Cy g_done g_Yard_entries (EM a Cy dx Cn) (startM N_Yard_dune (.ins a Cy dx fs) ds) := by
  rintro a dx fs ds Cn - ⟨l, ess, p, q, nt, rfl, rfl, hy, hC⟩
  have := hy.few
  have := hy.len
  refine ⟨a, dx, _, tD l, rfl, yd_o, a, dx, _, rfl, rfl, dx, _, rfl, rfl, l, ess, p, q, nt, rfl, rfl, by omega, fun r => ?_⟩
  exact ⟨rfl, done_own (.inl rfl) hy.ne (by omega) hy.ok ⟨_, rfl, hC⟩⟩
def g_Yard_kept_by : FM := fun fs ds C => ∃ l ess p q nt c, fs = ydF l ess p q nt ∧ ds = [.str (wordS c)] ∧ ess.flatten.length ≤ 900 ∧ ∀ r, C (.own r (zsD (keptZ c ess.flatten))) fs
theorem rd_Yard_kept_by : ∀ a dx fs ds Cn, ds.length + 1 = 2 → g_Yard_kept_by fs ds Cn → T_Yard_kept_by Cy g_entries_with g_Yard_entries (EM a Cy dx Cn) (startM N_Yard_kept_by (.ins a Cy dx fs) ds) := by
  rintro a dx fs ds Cn - ⟨l, ess, p, q, nt, c, rfl, rfl, hy, hC⟩
  refine ⟨a, dx, _, rfl, rfl, dx, _, rfl, rfl, l, ess, p, q, nt, rfl, rfl, by omega, fun r => ?_⟩
  refine ⟨by show (2 : Nat) ≤ sizeLine; decide, rfl, _, ess.flatten, [wordS c, "hand"], rfl, .inl rfl, sh_ch c, by omega, fun r2 => ?_⟩
  rw [show keepW [wordS c, "hand"] = keepC c from funext (keepW_two c)]
  exact ⟨_, rfl, hC r2⟩
abbrev yParts (es : List Ze) : List Pt := partsZ (keptZ true es) (keptZ false es)
def g_Yard_may : FM := fun fs ds C => ∃ l ess p q nt, fs = ydF l ess p q nt ∧ ds = [] ∧ YdOk l ess ∧ C (.val (bothD l (yParts ess.flatten))) fs
theorem rd_Yard_may : ∀ a dx fs ds Cn, ds.length + 1 = 1 → g_Yard_may fs ds Cn → T_Yard_may Cy g_long_may g_Yard_kept_by (EM a Cy dx Cn) (startM N_Yard_may (.ins a Cy dx fs) ds) := by
  rintro a dx fs ds Cn - ⟨l, ess, p, q, nt, rfl, rfl, hy, hC⟩
  have h1 := hy.few
  have h2 := hy.len
  have k1 := kept_le true ess.flatten
  have k2 := kept_le false ess.flatten
  refine ⟨a, dx, _, tD l, rfl, yd_o, a, dx, _, rfl, rfl, dx, _, rfl, rfl, l, ess, p, q, nt, true, rfl, rfl, by omega, fun r => ?_⟩
  refine ⟨a, dx, _, rfl, rfl, dx, _, rfl, rfl, l, ess, p, q, nt, false, rfl, rfl, by omega, fun r2 => ?_⟩
  refine ⟨rfl, tD l, l, _, _, _, _, rfl, .inl rfl, hy.ne, h2, .inl rfl, .inl rfl, by omega, by omega, by rw [hzs_kept, hzs_kept], parts_ok (kept_ok true hy.ok) (kept_ok false hy.ok), _, rfl, hC⟩
def g_Yard_undo : FM := fun fs ds C => ∃ l ess p q nt, fs = ydF l ess p q nt ∧ ds = [] ∧ nt.length ≤ 90000 ∧ C (.val (.bl (decide (ess ≠ [])))) (ydF l ess.dropLast p q (nt ++ [lgI "undo", lgO "undo"]))
theorem rd_Yard_undo : ∀ a dx fs ds Cn, ds.length + 1 = 1 → g_Yard_undo fs ds Cn → T_Yard_undo Cy (EM a Cy dx Cn) (startM N_Yard_undo (.ins a Cy dx fs) ds) := by
  rintro a dx fs ds Cn - ⟨l, ess, p, q, nt, rfl, rfl, hl, hC⟩
  have s2 : (2 : Nat) ≤ sizeLine := by decide
  have e2 : nt ++ [lgI "undo", lgO "undo"] = nt ++ [lgI "undo"] ++ [lgO "undo"] := by rw [List.append_assoc]; rfl
  rw [e2] at hC
  refine ⟨a, dx, _, q, nt, rfl, yd_n, s2, dx, _, nt, rfl, yd_n, lt100 (by omega), ?_⟩
  rw [put_n]
  refine ⟨a, dx, _, p, _, rfl, yd_s, ?_⟩
  rcases List.eq_nil_or_concat ess with rfl | ⟨ess, es, rfl⟩
  · refine ⟨a, dx, _, q, _, rfl, yd_n, s2, dx, _, _, rfl, yd_n, lt100 (by rw [List.length_append]; show nt.length + 1 ≤ _; omega), ?_⟩
    rw [put_n]
    exact ⟨_, rfl, hC⟩
  · have hd : decide ((0 : Int) < ((((ess ++ [es]).map dpD).length : Nat) : Int)) = true := by rw [decide_eq_true_eq, List.length_map, List.length_append]; show (0 : Int) < ((_ + 1 : Nat) : Int); omega
    rw [List.concat_eq_append] at *
    refine ifT hd ?_
    refine ⟨a, dx, _, p, _, dpD es, rfl, yd_s, ?_, ?_⟩
    · rw [List.map_append, List.length_append]
      show (ess.map dpD ++ [dpD es])[(ess.map dpD).length + 1 - 1]? = _
      rw [Nat.add_sub_cancel, List.getElem?_append_right (Nat.le_refl _), Nat.sub_self]; rfl
    rw [put_s3]
    refine ⟨a, dx, _, q, _, rfl, yd_n, s2, dx, _, _, rfl, yd_n, lt100 (by rw [List.length_append]; show nt.length + 1 ≤ _; omega), ?_⟩
    rw [put_n]
    refine ⟨_, rfl, ?_⟩
    show Cn (.val (.bl (decide ((0 : Int) < ((((ess ++ [es]).map dpD).length : Nat) : Int))))) _
    rw [hd]
    have e3 : decide (ess ++ [es] ≠ []) = true := by simp
    rw [e3, List.dropLast_concat] at hC
    exact hC
def g_Yard_do_all : FM := fun fs ds C => ∃ l ess p q nt es, fs = ydF l ess p q nt ∧ ds = [.lst (es.map Prod.fst)] ∧ PrsF es ∧ YdOk l ess ∧ (∀ e ∈ es.map Prod.snd, okZ l.length e) ∧ es.length ≤ 250 ∧ ess.length ≤ 1000 ∧ nt.length ≤ 90000 ∧ ∀ r, C (.own r (tellsZ (zDone l ess.flatten) (es.map Prod.snd))) (ydF l (ess ++ [es.map Prod.snd]) p q (nt ++ lgsZ (es.map Prod.snd)))
abbrev daF (a Cy dx : Addr) (l : List Int) (ess : List (List Ze)) (p q : Addr) (nt : List D) (xs : List D) (now : List Int) (r3 : Addr) (told : List D) (w4 : Option D) (w5 w6 : Option Cell) : Ro := [some (.box (.ins a Cy dx (ydF l ess p q nt))), some (.val (.lst xs)), some (.val (tD now)), some (.own r3 told), w4.map Cell.val, w5, w6]
theorem lgs_one (nt : List D) (e : Ze) : nt ++ [lgI (verbZ e)] ++ [lgO (verbZ e)] = nt ++ lgsZ [e] := by
  rw [List.append_assoc]; rfl
theorem rd_Yard_do_all : ∀ a dx fs ds Cn, ds.length + 1 = 2 → g_Yard_do_all fs ds Cn → T_Yard_do_all Cy g_is_hand g_outcome g_Yard_dune (EM a Cy dx Cn) (startM N_Yard_do_all (.ins a Cy dx fs) ds) := by
  rintro a dx fs ds Cn - ⟨l, ess, p, q, nt, es, rfl, rfl, hf, hy, ho, hel, hsl, hnl, hC⟩
  have s0 : (0 : Nat) ≤ sizeLine := by decide
  have s2 : (2 : Nat) ≤ sizeLine := by decide
  have hlen := hy.len
  refine ⟨a, dx, _, rfl, rfl, dx, _, rfl, rfl, l, ess, p, q, nt, rfl, rfl, hy, ?_⟩
  refine ⟨s0, fun r3 => ?_⟩
  refine fr_mp es Prod.fst (fun r ρ => ∃ (now : List Int) (told : List D) (nt1 : List D) (w4 : Option D) (w5 w6 : Option Cell), now.length = l.length ∧ told ++ tellsZ now (r.map Prod.snd) = tellsZ (zDone l ess.flatten) (es.map Prod.snd) ∧ told.length ≤ 250 ∧ told.length + r.length = es.length ∧ nt1 ++ lgsZ (r.map Prod.snd) = nt ++ lgsZ (es.map Prod.snd) ∧ nt1.length ≤ 95000 ∧ PrsF r ∧ (∀ e ∈ r.map Prod.snd, okZ l.length e) ∧ ρ = daF a Cy dx l ess p q nt1 (es.map Prod.fst) now r3 told w4 w5 w6) rfl ⟨zDone l ess.flatten, [], nt, none, none, none, zDone_len _ _, rfl, by simp, by simp, rfl, by omega, hf, ho, rfl⟩ (fun e r ρ K hI hK => ?_) (fun ρ hI => ?_)
  · obtain ⟨now, told, nt1, w4, w5, w6, h1, h2, h2b, h2c, h3, h3b, h3c, h4, rfl⟩ := hI
    have hne : now ≠ [] := ne_len h1 hy.ne
    have e1 : (e :: r).length = r.length + 1 := rfl
    obtain ⟨d, e⟩ := e
    have fe : ZnF d e := h3c (d, e) List.mem_cons_self
    have oe : okZ now.length e := by rw [h1]; exact h4 e (by rw [List.map_cons]; exact List.mem_cons_self)
    have nl : nt1.length ≤ 94000 := by
      have := congrArg List.length h3
      rw [List.length_append, List.length_append, lgsZ_len, lgsZ_len, List.length_map, List.length_map] at this
      omega
    have tail : K (daF a Cy dx l ess p q (nt1 ++ lgsZ [e]) (es.map Prod.fst) (zB now e) r3 (told ++ [tellZ now e]) (some d) (some (.val (.str (verbZ e)))) (some (.val (tellZ now e)))) := hK _ ⟨zB now e, told ++ [tellZ now e], _, some d, _, _, by rw [zB_len, h1], by rw [← h2, List.append_assoc]; rfl, by rw [List.length_append]; show told.length + 1 ≤ _; omega, by rw [List.length_append]; show told.length + 1 + r.length = _; omega, by rw [← h3, List.append_assoc, ← lgsZ_app]; rfl, by rw [List.length_append, lgsZ_len]; show _ + 2 ≤ _; omega, fun x hx => h3c x (List.mem_cons_of_mem _ hx), fun x hx => h4 x (by rw [List.map_cons]; exact List.mem_cons_of_mem _ hx), rfl⟩
    refine ⟨rfl, d, e, rfl, fe, ?_⟩
    have fin : ∀ PP : PEnds, PP.nx (daF a Cy dx l ess p q (nt1 ++ lgsZ [e]) (es.map Prod.fst) (zB now e) r3 (told ++ [tellZ now e]) (some d) (some (.val (.str (verbZ e)))) (some (.val (tellZ now e)))) → (pSeq (pFldApp 0 Cy "notes" (pTup (pCons (pC (.str "in")) (pCons (pVar 5) pNil))))
    (pSeq (pTryFin (pAsg (pFrz (pCallA 2 g_outcome (pCons (pVar 2) (pCons (pVar 4) pNil)))) (hTup 2 (hCons (hName 2) (hCons (hName 6) hNil))))
    (pFldApp 0 Cy "notes" (pTup (pCons (pC (.str "out")) (pCons (pVar 5) pNil)))))
    (pAppend 3 (pVar 6)))) PP (daF a Cy dx l ess p q nt1 (es.map Prod.fst) now r3 told (some d) (some (.val (.str (verbZ e)))) w6) := by
      intro PP hPP
      refine ⟨a, dx, _, q, nt1, rfl, yd_n, s2, dx, _, nt1, rfl, yd_n, lt100 (by omega), ?_⟩
      rw [put_n]
      refine ⟨rfl, now, d, e, rfl, fe, hne, by omega, oe, rfl, rfl, ?_⟩
      refine ⟨a, dx, _, q, _, rfl, yd_n, s2, dx, _, _, rfl, yd_n, lt100 (by rw [List.length_append]; show nt1.length + 1 ≤ _; omega), ?_⟩
      rw [put_n, lgs_one]
      exact ⟨_, rfl, lt100 (by omega), hPP⟩
    cases e with
    | inl w => exact ifF rfl (fin _ tail)
    | inr h => exact ifT rfl (fin _ tail)
  · obtain ⟨now, told, nt1, w4, w5, w6, h1, h2, h2b, h2c, h3, h3b, -, -, rfl⟩ := hI
    have h2 : told = tellsZ (zDone l ess.flatten) (es.map Prod.snd) := by rw [← h2]; exact (List.append_nil _).symm
    have h3 : nt1 = nt ++ lgsZ (es.map Prod.snd) := by rw [← h3]; exact (List.append_nil _).symm
    subst h2; subst h3
    have fin : pSeq (pFldApp 0 Cy "standing" (pCB fTup (pCons (pLc (jSeq (pVar 1)) (hName 4) pYes (pCB fTup (pCons (pVar 4) pNil)) [4]) pNil))) (pRet (pMove 3)) (EM a Cy dx Cn) (daF a Cy dx l ess p q (nt ++ lgsZ (es.map Prod.snd)) (es.map Prod.fst) now r3 (tellsZ (zDone l ess.flatten) (es.map Prod.snd)) w4 w5 w6) := by
      refine ⟨a, dx, _, p, _, rfl, yd_s, ?_⟩
      refine lc_mp es Prod.fst (fun p => zD p.2) rfl (fun e he K hK => ?_) (by omega) ?_
      · obtain ⟨d, e⟩ := e
        have hf := hf (d, e) he
        rcases hf with h | h
        · have h : d = zD e := h
          subst h
          cases e <;> cases w4 <;> exact hK _ rfl
        · have h : d = zR e := h
          subst h
          cases e <;> cases w4 <;> exact hK _ rfl
      · refine ⟨dx, _, ess.map dpD, rfl, yd_s, lt100 (by rw [List.length_map]; omega), ?_⟩
        refine ⟨_, rfl, ?_⟩
        have e3 : (es.map fun p => zD p.2) = zsD (es.map Prod.snd) := by unfold zsD; rw [List.map_map]; rfl
        show Cn _ (putFd ("standing" : Str) (.own p (ess.map dpD ++ [.tup (es.map fun p => zD p.2)])) _)
        rw [e3, show (D.tup (zsD (es.map Prod.snd))) = dpD (es.map Prod.snd) from rfl, put_s2]
        exact hC r3
    exact fin
def g_Yard_blow : FM := fun fs ds C => ∃ l ess p q nt c s, fs = ydF l ess p q nt ∧ ds = [.str (wordS c), .int s] ∧ YdOk l ess ∧ 0 ≤ s ∧ ess.length ≤ 1000 ∧ nt.length ≤ 80000 ∧ C (.val (tellZ (zDone l ess.flatten) (.inl (c, s)))) (ydF l (ess ++ [[.inl (c, s)]]) p q (nt ++ [lgI "blow", lgO "blow"]))
theorem rd_Yard_blow : ∀ a dx fs ds Cn, ds.length + 1 = 3 → g_Yard_blow fs ds Cn → T_Yard_blow Cy g_Yard_do_all (EM a Cy dx Cn) (startM N_Yard_blow (.ins a Cy dx fs) ds) := by
  rintro a dx fs ds Cn - ⟨l, ess, p, q, nt, c, s, rfl, rfl, hy, h0, hsl, hnl, hC⟩
  have s1 : (1 : Nat) ≤ sizeLine := by decide
  have s2 : (2 : Nat) ≤ sizeLine := by decide
  refine ⟨a, dx, _, rfl, rfl, s2, s1, dx, _, rfl, rfl, l, ess, p, q, nt, ownPrs [.inl (c, s)], rfl, rfl, own_F _, hy, fun e he => by rw [own_snd] at he; rw [List.mem_singleton.mp he]; exact h0, by show (1 : Nat) ≤ 250; decide, hsl, by omega, fun r => ?_⟩
  exact ⟨_, rfl, _, rfl, hC⟩
def g_Yard_hand : FM := fun fs ds C => ∃ l ess p q nt h v, fs = ydF l ess p q nt ∧ ds = [.int h, .int v] ∧ YdOk l ess ∧ 0 ≤ h ∧ h < (l.length : Int) ∧ ess.length ≤ 1000 ∧ nt.length ≤ 80000 ∧ C (.val .non) (ydF l (ess ++ [[.inr (h, v)]]) p q (nt ++ [lgI "hand", lgO "hand"]))
theorem rd_Yard_hand : ∀ a dx fs ds Cn, ds.length + 1 = 3 → g_Yard_hand fs ds Cn → T_Yard_hand Cy g_Yard_do_all (EM a Cy dx Cn) (startM N_Yard_hand (.ins a Cy dx fs) ds) := by
  rintro a dx fs ds Cn - ⟨l, ess, p, q, nt, h, v, rfl, rfl, hy, h0, h1, hsl, hnl, hC⟩
  have s1 : (1 : Nat) ≤ sizeLine := by decide
  have s3 : (3 : Nat) ≤ sizeLine := by decide
  refine ⟨a, dx, _, rfl, rfl, s3, s1, dx, _, rfl, rfl, l, ess, p, q, nt, ownPrs [.inr (h, v)], rfl, rfl, own_F _, hy, fun e he => by rw [own_snd] at he; rw [List.mem_singleton.mp he]; exact ⟨h0, h1⟩, by show (1 : Nat) ≤ 250; decide, hsl, by omega, fun r => ?_⟩
  exact ⟨_, rfl, hC⟩
theorem good_one {n : Nat} {e : Ze} (h : GoodZ (n : Int) e) : okZ n e := by
  cases e with
  | inl w => exact h
  | inr x => exact ⟨h.1, h.2.1⟩
def g__law_do_one : FM := fun fs ds C => ∃ l ess p q nt e, fs = ydF l ess p q nt ∧ ds = [zD e] ∧ YdOk l ess ∧ okZ l.length e ∧ ess.length ≤ 1000 ∧ nt.length ≤ 80000 ∧ C (.val (tellZ (zDone l ess.flatten) e)) (ydF l (ess ++ [[e]]) p q (nt ++ lgsZ [e]))
theorem rd__law_do_one : ∀ a dx fs ds Cn, ds.length + 1 = 2 → g__law_do_one fs ds Cn → T__law_do_one Cy g_Yard_blow g_Yard_hand (EM a Cy dx Cn) (startM N__law_do_one (.ins a Cy dx fs) ds) := by
  rintro a dx fs ds Cn - ⟨l, ess, p, q, nt, e, rfl, rfl, hy, ho, hsl, hnl, hC⟩
  cases e with
  | inl w =>
    refine ⟨_, rfl, sh_word _, sh_hand, ifF (eqv_kindZ (.inl w)) ?_⟩
    exact ⟨a, dx, _, rfl, rfl, _, rfl, _, rfl, dx, _, rfl, rfl, l, ess, p, q, nt, w.1, w.2, rfl, rfl, hy, ho, hsl, hnl, _, rfl, hC⟩
  | inr h =>
    refine ⟨_, rfl, sh_hand, sh_hand, ifT (by decide +kernel) ?_⟩
    exact ⟨a, dx, _, rfl, rfl, _, rfl, _, rfl, dx, _, rfl, rfl, l, ess, p, q, nt, h.1, h.2, rfl, rfl, hy, ho.1, ho.2, hsl, hnl, _, rfl, hC⟩
end
def g__law_entry : FB := fun xs ds C => ∃ n posts, n ≤ 100000000 ∧ Bx n xs ∧ ds = [.int posts] ∧ 0 < posts ∧ posts ≤ 1000 ∧ ∀ e zs, GoodZ posts e → Bx (n + 30) zs → C (.val (zD e)) zs
theorem rd__law_entry : ∀ a xs ds C, ds.length + 1 = 2 → g__law_entry xs ds C → T__law_entry (g_take 100000000000000) g__law_slope (EB a C) (startB N__law_entry a xs ds) := by
  rintro a0 xs ds C - ⟨n, posts, hn, hB, rfl, p0, p1, hC⟩
  refine ⟨xs, rfl, rfl, n, 4, by omega, hB, rfl, by decide, by decide, fun way z1 a1 a2 b1 => ?_⟩
  refine ⟨z1, rfl, rfl, _, 20, by omega, b1, rfl, by decide, by decide, fun u z2 u1 u2 b2 => ?_⟩
  refine ⟨z2, rfl, rfl, _, 20, by omega, b2, rfl, by decide, by decide, fun v z3 v1 v2 b3 => ⟨by show (4 : Nat) ≤ sizeLine; decide, ?_⟩⟩
  refine ⟨z3, rfl, rfl, _, 4, by omega, b3, rfl, by decide, by decide, fun t z4 t1 t2 b4 => ?_⟩
  obtain ⟨by', hby⟩ := atI_below (xs := [D.int 1, .int (-1), .int (1 + u), .int (-1 - v)]) t1 t2
  refine ⟨by', hby, ?_⟩
  obtain ⟨y, rfl, y1, y2⟩ : ∃ y, by' = .int y ∧ -20 ≤ y ∧ y ≤ 20 := by
    have := mem_of_atI hby
    simp at this
    rcases this with e | e | e | e <;> subst e
    · exact ⟨_, rfl, by decide, by decide⟩
    · exact ⟨_, rfl, by decide, by decide⟩
    · exact ⟨_, rfl, by omega, by omega⟩
    · exact ⟨_, rfl, by omega, by omega⟩
  obtain ⟨wd, hwd⟩ := atI_below (xs := [D.str "cut", .str "fill"]) (i := way % 2) (by omega) (by show way % 2 < ((2 : Nat) : Int); omega)
  refine ⟨by show (2 : Nat) ≤ sizeLine; decide, by show (0 : Int) < 2; decide, wd, hwd, ?_⟩
  obtain ⟨c, rfl⟩ : ∃ c, wd = .str (wordS c) := by
    have := mem_of_atI hwd
    simp at this
    rcases this with e | e
    · exact ⟨true, e⟩
    · exact ⟨false, e⟩
  refine ⟨z4, rfl, rfl, _, by omega, b4, rfl, fun s z5 g0 g1 b5 => ⟨by show (2 : Nat) ≤ sizeLine; decide, sh_int _, sh_int _, ifB (fun _ => ?_) (fun _ => ?_)⟩⟩
  · refine ⟨z5, rfl, rfl, _, posts, by omega, b5, rfl, p0, by omega, fun h z6 h1 h2 b6 => ⟨by show (3 : Nat) ≤ sizeLine; decide, ?_⟩⟩
    exact ⟨z6, rfl, hC (.inr (h, y)) z6 ⟨h1, h2, y1, y2⟩ (b6.mono (by omega))⟩
  · exact ⟨z5, rfl, hC (.inl (c, s)) z5 g0 (b5.mono (by omega))⟩
end Pl
namespace Pl
open PySem PySem.Spec PyProof.Rows L2
theorem okN_int (m : Nat) (i : Int) : okN m (.int i) := by cases m <;> trivial
end Pl
namespace Pl
open PySem PySem.Spec PyProof.Rows L2
def hpos : Nat → List Ze → List Nat
  | _, [] => []
  | k, .inr _ :: r => k :: hpos (k + 1) r
  | k, .inl _ :: r => hpos (k + 1) r
instance : DecidableEq Ze := inferInstanceAs (DecidableEq (Wd ⊕ (Int × Int)))
end Pl
namespace Pl
open PySem PySem.Spec PyProof.Rows L2
abbrev N__law_turned : List Str := [("_law_entry_here" : Str)]
def T__law_turned : TSp :=
  (pSeq (pIfS (pTest (pOp fEq (pIxO 0 (pC (.int 0))) (pC (.str "hand"))))
    (pRet (pVal (pTup (pCons (pC (.str "hand")) (pCons (pIxO 0 (pC (.int 1))) (pCons (pOp fSub (pC (.int 0)) (pIxO 0 (pC (.int 2)))) pNil))))))
    pNext)
    (pRet (pVal (pTup (pCons (pUn (fDix "cut" "fill" "fill" "cut") (pIxO 0 (pC (.int 0)))) (pCons (pIxO 0 (pC (.int 1))) pNil))))))
abbrev N__law_right : List Str := [("_law_box_here" : Str), ("_law_one" : Str), ("_law_post" : Str), ("_law_far" : Str), ("_law_height" : Str), ("_law_more" : Str), ("_law_other" : Str), ("_law_any_one" : Str), ("_law_yards" : Str), ("_law_turn" : Str), ("_law_k" : Str), ("_law_apart" : Str), ("_law_yard" : Str), ("_law_entry_here" : Str), ("_law_told" : Str), ("_law_later" : Str), ("_law_two" : Str), ("_law_gap" : Str), ("_law_pairs" : Str)]
def T__law_right_1 (g__law_dune : FB) : TSp :=
  (pSet 1 (pCallB 0 2 g__law_dune (pCons (pC (.int 8)) pNil)))
def T__law_right_2 (g__law_take : FB) : TSp :=
  (pSet 3 (pVal (pLc (jSeq (pVar 1)) (hName 2) pYes (pOp fMulI (pFrz (pCallB 0 2 g__law_take (pCons (pC (.int 20)) pNil))) (pCB fInt1 (pCons (pOp fGt (pFrz (pCallB 0 2 g__law_take (pCons (pC (.int 3)) pNil))) (pC (.int 0))) pNil))) [2])))
def T__law_right_3 : TSp :=
  (pSet 6 (pVal (pCB fTup (pCons (pLc (jZ2 (pCons (pVar 1) (pCons (pVar 3) pNil))) (hTup 2 (hCons (hName 4) (hCons (hName 5) hNil))) pYes (pOp fAdd (pVar 4) (pVar 5)) [4, 5]) pNil))))
def T__law_right_4 (g__law_take : FB) : TSp :=
  (pSet 7 (pVal (pCB fTup (pCons (pLc (jSeq (pVar 1)) (hName 2) pYes (pOp fSub (pFrz (pCallB 0 2 g__law_take (pCons (pC (.int 40)) pNil))) (pC (.int 20))) [2]) pNil))))
def T__law_right_5 (Cy : Addr) (g_upside : FA) (g_Yard___init__ : FM) : TSp :=
  (pSetI 8 Cy (pConsB (pMake Cy 2 g_Yard___init__ (pCons (pVar 1) pNil)) (pConsB (pMake Cy 2 g_Yard___init__ (pCons (pVar 6) pNil)) (pConsB (pMake Cy 2 g_Yard___init__ (pCons (pVar 7) pNil)) (pConsB (pMake Cy 2 g_Yard___init__ (pCons (pFrz (pCallA 1 g_upside (pCons (pVar 1) pNil))) pNil)) pNilC)))))
def T__law_right_6_1 (Cy : Addr) (g_width : FA) (g_Yard_dune : FM) : TSp :=
  (pSet 11 (pVal (pLc (jSeq (pTup (pCons (pC (.int 1)) (pCons (pC (.int 2)) pNil)))) (hName 10) pYes (pFrz (pCallA 2 g_width (pCons (pFrz (pCallMI 8 Cy "dune" 1 g_Yard_dune (pOp fIx (pVarI 8) (pC (.int 0))) pNil)) (pCons (pFrz (pCallMI 8 Cy "dune" 1 g_Yard_dune (pOp fIx (pVarI 8) (pVar 10)) pNil)) pNil)))) [10])))
def T__law_right_6_2_1_1 : TSp :=
  (pRet (pVal (pC (.bl false))))
def T__law_right_6_2_1 (Cy : Addr) (g_Yard_undo : FM) : TSp :=
  (pIfS (pTest (pOp fNe (pLenSetB (pLc (jSeq (pVarI 8)) (hName 12) pYes (pFrz (pCallMI 8 Cy "undo" 1 g_Yard_undo (pVar 12) pNil)) [12])) (pC (.int 1))))
    T__law_right_6_2_1_1
    pNext)
def T__law_right_6_2_e_1 (g__law_entry : FB) : TSp :=
  (pSet 13 (pCallB 0 2 g__law_entry (pCons (pLenO 1) pNil)))
def T__law_right_6_2_e_2 (Cy : Addr) (g__law_do_one : FM) (g__law_turned : FA) : TSp :=
  (pSet 14 (pVal (pLc (jE (pCons (pVarI 8) pNil)) (hTup 2 (hCons (hName 10) (hCons (hName 12) hNil))) pYes (pFrz (pCallII 8 Cy 2 g__law_do_one (pVar 12) (pCons (pOp fIx (pLst (pCons (pVar 13) (pCons (pFrz (pCallA 1 g__law_turned (pCons (pVar 13) pNil))) pNil))) (pCB fInt1 (pCons (pOp fEq (pVar 10) (pC (.int 3))) pNil))) pNil))) [10, 12])))
def T__law_right_6_2_e_3 (Cy : Addr) (g_width : FA) (g_Yard_dune : FM) : TSp :=
  (pSet 15 (pVal (pLc (jSeq (pTup (pCons (pC (.int 1)) (pCons (pC (.int 2)) pNil)))) (hName 10) pYes (pFrz (pCallA 2 g_width (pCons (pFrz (pCallMI 8 Cy "dune" 1 g_Yard_dune (pOp fIx (pVarI 8) (pC (.int 0))) pNil)) (pCons (pFrz (pCallMI 8 Cy "dune" 1 g_Yard_dune (pOp fIx (pVarI 8) (pVar 10)) pNil)) pNil)))) [10])))
def T__law_right_6_2_e_4_1 : TSp :=
  (pRet (pVal (pC (.bl false))))
def T__law_right_6_2_e_4 : TSp :=
  (pIfS (pOr (pTest (pCB fAny (pCons (pLc (jZ2 (pCons (pVar 15) (pCons (pVar 11) pNil))) (hTup 2 (hCons (hName 16) (hCons (hName 17) hNil))) pYes (pOp fGt (pVar 16) (pVar 17)) [16, 17]) pNil))) (pAnd (pTest (pOp fEq (pIxO 13 (pC (.int 0))) (pC (.str "hand")))) (pTest (pOp fNe (pVar 15) (pVar 11)))))
    T__law_right_6_2_e_4_1
    pNext)
def T__law_right_6_2_e_5_1 : TSp :=
  (pRet (pVal (pC (.bl false))))
def T__law_right_6_2_e_5 (g__law_same : FA) : TSp :=
  (pIfS (pAnd (pTest (pOp fNotN (pIxO 14 (pC (.int 0))) (pC .non))) (pNot (pTest (pFrz (pCallA 2 g__law_same (pCons (pIxO 14 (pC (.int 3))) (pCons (pUn fRev (pIxO 14 (pC (.int 0)))) pNil)))))))
    T__law_right_6_2_e_5_1
    pNext)
def T__law_right_6_2 (Cy : Addr) (g_width : FA) (g__law_take : FB) (g__law_same : FA) (g__law_entry : FB) (g__law_do_one : FM) (g__law_turned : FA) (g_Yard_undo : FM) (g_Yard_dune : FM) : TSp :=
  (pIfS (pTest (pOp fEq (pFrz (pCallB 0 2 g__law_take (pCons (pC (.int 6)) pNil))) (pC (.int 0))))
    (T__law_right_6_2_1 Cy g_Yard_undo)
    (pSeq (T__law_right_6_2_e_1 g__law_entry)
    (pSeq (T__law_right_6_2_e_2 Cy g__law_do_one g__law_turned)
    (pSeq (T__law_right_6_2_e_3 Cy g_width g_Yard_dune)
    (pSeq T__law_right_6_2_e_4
    (T__law_right_6_2_e_5 g__law_same))))))
def T__law_right_6_3_1 : TSp :=
  (pRet (pVal (pC (.bl false))))
def T__law_right_6_3 (Cy : Addr) (g_upside : FA) (g_is_below : FA) (g_Yard_dune : FM) : TSp :=
  (pIfS (pOr (pTest (pOp fNotB (pFrz (pCallA 2 g_is_below (pCons (pFrz (pCallMI 8 Cy "dune" 1 g_Yard_dune (pOp fIx (pVarI 8) (pC (.int 0))) pNil)) (pCons (pFrz (pCallMI 8 Cy "dune" 1 g_Yard_dune (pOp fIx (pVarI 8) (pC (.int 1))) pNil)) pNil)))) (pC (.bl true)))) (pTest (pOp fNe (pFrz (pCallMI 8 Cy "dune" 1 g_Yard_dune (pOp fIx (pVarI 8) (pC (.int 3))) pNil)) (pFrz (pCallA 1 g_upside (pCons (pFrz (pCallMI 8 Cy "dune" 1 g_Yard_dune (pOp fIx (pVarI 8) (pC (.int 0))) pNil)) pNil))))))
    T__law_right_6_3_1
    pNext)
def T__law_right_6 (Cy : Addr) (g_upside : FA) (g_width : FA) (g_is_below : FA) (g__law_take : FB) (g__law_same : FA) (g__law_entry : FB) (g__law_do_one : FM) (g__law_turned : FA) (g_Yard_undo : FM) (g_Yard_dune : FM) : TSp :=
  (pFor (jRng1 (pCons (pFrz (pCallB 0 2 g__law_take (pCons (pC (.int 31)) pNil))) pNil)) (hName 9)
    (pSeq (T__law_right_6_1 Cy g_width g_Yard_dune)
    (pSeq (T__law_right_6_2 Cy g_width g__law_take g__law_same g__law_entry g__law_do_one g__law_turned g_Yard_undo g_Yard_dune)
    (T__law_right_6_3 Cy g_upside g_is_below g_Yard_dune))))
def T__law_right_7 (Cy : Addr) (g_Yard_may : FM) : TSp :=
  (pSet 18 (pVal (pLc (jSeq (pVarI 8)) (hName 12) pYes (pFrz (pCallMI 8 Cy "may" 1 g_Yard_may (pVar 12) pNil)) [12])))
def T__law_right_8_1 : TSp :=
  (pRet (pVal (pC (.bl false))))
def T__law_right_8 (g_is_below : FA) : TSp :=
  (pIfS (pNot (pTest (pCB fAll (pCons (pLc (jRng1 (pCons (pC (.int 2)) pNil)) (hName 10) pYes (pOp fIsB (pFrz (pCallA 2 g_is_below (pCons (pOp fIx (pIxO 18 (pC (.int 0))) (pVar 10)) (pCons (pOp fIx (pIxO 18 (pC (.int 1))) (pVar 10)) pNil)))) (pC (.bl true))) [10]) pNil))))
    T__law_right_8_1
    pNext)
def T__law_right_9 (g_upside : FA) (g__law_same : FA) : TSp :=
  (pRet (pCallA 2 g__law_same (pCons (pIxO 18 (pC (.int 3))) (pCons (pTup (pCons (pFrz (pCallA 1 g_upside (pCons (pOp fIx (pIxO 18 (pC (.int 0))) (pC (.int 1))) pNil))) (pCons (pFrz (pCallA 1 g_upside (pCons (pOp fIx (pIxO 18 (pC (.int 0))) (pC (.int 0))) pNil))) pNil))) pNil))))
def T__law_right (Cy : Addr) (g_upside : FA) (g_Yard___init__ : FM) (g_Yard_undo : FM) (g_Yard_dune : FM) (g_Yard_may : FM) (g_width : FA) (g_is_below : FA) (g__law_take : FB) (g__law_same : FA) (g__law_dune : FB) (g__law_entry : FB) (g__law_do_one : FM) (g__law_turned : FA) : TSp :=
  (pSeq (T__law_right_1 g__law_dune)
    (pSeq (T__law_right_2 g__law_take)
    (pSeq T__law_right_3
    (pSeq (T__law_right_4 g__law_take)
    (pSeq (T__law_right_5 Cy g_upside g_Yard___init__)
    (pSeq (T__law_right_6 Cy g_upside g_width g_is_below g__law_take g__law_same g__law_entry g__law_do_one g__law_turned g_Yard_undo g_Yard_dune)
    (pSeq (T__law_right_7 Cy g_Yard_may)
    (pSeq (T__law_right_8 g_is_below)
    (T__law_right_9 g_upside g__law_same)))))))))
abbrev N_law : List Str := [("_law_script" : Str), ("_law_k" : Str)]
def T_law_1 (g__law_box : FA) (g__law_right : FB) : TSp :=
  (pRet (pVal (pCB fAll (pCons (pLc (jRng1 (pCons (pOp fAdd (pC (.int 1)) (pCB fMin2 (pCons (pC (.int 2)) (pCons (pLenO 0) pNil)))) pNil)) (hName 1) pYes (pFrz (pCallX 1 g__law_right (pCallA 2 g__law_box (pCons (pVar 0) (pCons (pVar 1) pNil))) pNil)) [1]) pNil))))
def T_law (g__law_box : FA) (g__law_right : FB) : TSp :=
  (T_law_1 g__law_box g__law_right)
def trh (h : Int × Int) : Int × Int := (h.1, 0 - h.2)
def trn : Ze → Ze
  | .inl w => .inl (conW w)
  | .inr h => .inr (trh h)
theorem handL_trn (v : Int) : ∀ (q : Nat) (l : List Int), handL (0 - v) q (negL l) = negL (handL v q l)
  | _, [] => by cases ‹Nat› <;> rfl
  | 0, x :: r => by
    show (-x + (0 - v)) :: negL r = (-(x + v)) :: negL r
    rw [show -x + (0 - v) = -(x + v) by omega]
  | q + 1, x :: r => by
    show -x :: handL (0 - v) q (negL r) = -x :: negL (handL v q r)
    rw [handL_trn v q r]
theorem zB_trn (l : List Int) (e : Ze) : zB (negL l) (trn e) = negL (zB l e) := by
  cases e with
  | inl w => exact blW_neg l w
  | inr h => exact handL_trn h.2 h.1.toNat l
theorem zDone_trn : ∀ (es : List Ze) (l : List Int), zDone (negL l) (es.map trn) = negL (zDone l es)
  | [], _ => rfl
  | e :: es, l => by
    show zDone (zB (negL l) (trn e)) (es.map trn) = negL (zDone (zB l e) es)
    rw [zB_trn, zDone_trn es]
theorem okZ_trn {n : Nat} {e : Ze} (h : okZ n e) : okZ n (trn e) := by cases e <;> exact h
theorem negL_len (l : List Int) : (negL l).length = l.length := List.length_map _
theorem sum_negL : ∀ l : List Int, (negL l).sum = -l.sum
  | [] => rfl
  | x :: r => by
    show (-x :: negL r).sum = -(x :: r).sum
    rw [List.sum_cons, List.sum_cons, sum_negL r]; omega
theorem tell_trn (l : List Int) (w : Wd) : tellZ (negL l) (.inl (conW w)) = .tup [.int (amP w.1 l (blW l w)).2, .int (amP w.1 l (blW l w)).1] := by
  show prD (amP (!w.1) (negL l) (blW (negL l) (conW w))) = _
  rw [blW_neg]
  obtain ⟨c, s⟩ := w
  cases c
  · show D.tup [.int (-((negL (blW l (false, s))).sum - (negL l).sum)), .int 0] = D.tup [.int ((blW l (false, s)).sum - l.sum), .int 0]
    rw [sum_negL, sum_negL, show -(-(blW l (false, s)).sum - -l.sum) = (blW l (false, s)).sum - l.sum by omega]
  · show D.tup [.int 0, .int ((negL (blW l (true, s))).sum - (negL l).sum)] = D.tup [.int 0, .int (-((blW l (true, s)).sum - l.sum))]
    rw [sum_negL, sum_negL, show -(blW l (true, s)).sum - -l.sum = -((blW l (true, s)).sum - l.sum) by omega]
theorem spl_trn : ∀ es : List Ze, splZ (es.map trn) = (splZ es).map fun p => (p.1.map conW, p.2.map trh)
  | [] => rfl
  | .inr h :: r => by
    show ([], some (trh h)) :: splZ (r.map trn) = ([], some (trh h)) :: (splZ r).map _
    rw [spl_trn r]
  | .inl w :: r => by
    obtain ⟨ws, h, t, e⟩ := splZ_some r
    have e2 := spl_trn r
    rw [e] at e2
    have e3 : splZ (r.map trn) = (ws.map conW, h.map trh) :: t.map fun p => (p.1.map conW, p.2.map trh) := e2
    show splZ (.inl (conW w) :: r.map trn) = (splZ (.inl w :: r)).map _
    rw [splZ_wd e3, splZ_wd e]; rfl
theorem slopes_con (c : Bool) : ∀ ws : List Wd, slopesC c (ws.map conW) = slopesC (!c) ws
  | [] => rfl
  | (b, s) :: r => by
    have ih := slopes_con c r
    unfold slopesC at *
    cases c <;> cases b <;> simp_all [conW]
def exP (q : Pt) : Pt := (q.2.1, q.1, q.2.2.map trh)
theorem parts_trn (es : List Ze) : yParts (es.map trn) = (yParts es).map exP := by
  unfold yParts
  rw [parts_own, parts_own, spl_trn, List.map_map, List.map_map]
  refine List.map_congr_left fun p _ => ?_
  show (slopesC true (p.1.map conW), slopesC false (p.1.map conW), p.2.map trh) = (slopesC false p.1, slopesC true p.1, p.2.map trh)
  rw [slopes_con, slopes_con]; rfl
theorem firstO_flip (c : Bool) (m n : Nat) : firstO c n m = flipO (firstO (!c) m n) := by
  cases c <;> simp [firstO, flipO]
theorem firstW_ex (c : Bool) (q : Pt) : firstW c (exP q) = (firstW (!c) q).map conW := by
  show almL q.2.1 q.1 0 0 (firstO c q.2.1.length q.1.length) = (almL q.1 q.2.1 0 0 (firstO (!c) q.1.length q.2.1.length)).map conW
  rw [firstO_flip, alm_flip]
theorem hoZ_tr (h : Option (Int × Int)) : hoZ (h.map trh) = (hoZ h).map trn := by cases h <;> rfl
theorem allF_ex (c : Bool) : ∀ ps : List Pt, allF c (ps.map exP) = (allF (!c) ps).map trn
  | [] => rfl
  | q :: ps => by
    have ih := allF_ex c ps
    unfold allF at *
    rw [List.map_cons, List.flatMap_cons, List.flatMap_cons, ih, firstW_ex, List.map_append, List.map_append]
    show (_ ++ hoZ (q.2.2.map trh)) ++ _ = _
    rw [hoZ_tr, List.map_map, List.map_map]; rfl
theorem both_trn (l : List Int) (es : List Ze) : bothD (negL l) (yParts (es.map trn)) = .tup [tD (negL (zDone l (allF false (yParts es)))), tD (negL (zDone l (allF true (yParts es))))] := by
  show D.tup [tD (zDone (negL l) (allF true (yParts (es.map trn)))), tD (zDone (negL l) (allF false (yParts (es.map trn))))] = _
  rw [parts_trn, allF_ex, allF_ex, zDone_trn, zDone_trn]; rfl
theorem zB_mono {n : Nat} {a b : List Int} {e : Ze} (ho : okZ n e) (h : Lq a b) : Lq (zB a e) (zB b e) := by
  cases e with
  | inl w => exact behindL_mono (ws := [w]) (fun x hx => by rw [List.mem_singleton.mp hx]; exact ho) h
  | inr h' => exact handL_mono _ _ h
theorem zDone_mono {n : Nat} : ∀ {es : List Ze} {a b : List Int}, (∀ e ∈ es, okZ n e) → Lq a b → Lq (zDone a es) (zDone b es)
  | [], _, _, _, h => h
  | e :: es, a, b, ho, h => zDone_mono (es := es) (a := zB a e) (b := zB b e) (fun x hx => ho x (List.mem_cons_of_mem _ hx)) (zB_mono (ho e List.mem_cons_self) h)
theorem difL_hand (v : Int) : ∀ (q : Nat) (a b : List Int), a.length = b.length → difL (handL v q a) (handL v q b) = difL a b
  | _, [], [], _ => by cases ‹Nat› <;> rfl
  | 0, x :: a, y :: b, _ => by
    show ((y + v) - (x + v)) :: difL a b = (y - x) :: difL a b
    rw [show (y + v) - (x + v) = y - x by omega]
  | q + 1, x :: a, y :: b, h => by
    show (y - x) :: difL (handL v q a) (handL v q b) = (y - x) :: difL a b
    rw [difL_hand v q a b (by simpa using h)]
  | _, [], _ :: _, h => by cases h
  | _, _ :: _, [], h => by cases h
theorem wid_zB {n : Nat} {a b : List Int} {e : Ze} (ho : okZ n e) (hl : a.length = b.length) (hne : a ≠ []) : widL (zB a e) (zB b e) ≤ widL a b := by
  cases e with
  | inl w => exact widL_blW ho hl hne
  | inr h => unfold widL; rw [show difL (zB a (.inr h)) (zB b (.inr h)) = difL a b from difL_hand _ _ _ _ hl]; exact Int.le_refl _
theorem wid_hand {a b : List Int} {e : Ze} (hz : isHz e = true) (hl : a.length = b.length) : widL (zB a e) (zB b e) = widL a b := by
  cases e with
  | inl w => cases hz
  | inr h => unfold widL; rw [show difL (zB a (.inr h)) (zB b (.inr h)) = difL a b from difL_hand _ _ _ _ hl]
theorem zsnoc (l : List Int) (ess : List (List Ze)) (e : Ze) : zDone l (ess ++ [[e]]).flatten = zB (zDone l ess.flatten) e := by rw [fl_snoc, zDone_app]; rfl
def g__law_turned : FA := fun ds C => ∃ e, ds = [zD e] ∧ C (.val (zD (trn e)))
theorem rd__law_turned : ∀ ds C, ds.length = 1 → g__law_turned ds C → T__law_turned (EA C) (startA N__law_turned ds) := by
  rintro ds C - ⟨e, rfl, hC⟩
  have s3 : (3 : Nat) ≤ sizeLine := by decide
  have s2 : (2 : Nat) ≤ sizeLine := by decide
  cases e with
  | inl w =>
    obtain ⟨c, s⟩ := w
    refine ⟨_, rfl, ?_⟩
    refine ⟨sh_kindZ (.inl (c, s)), sh_hand, ifF (eqv_kindZ (.inl (c, s))) ?_⟩
    refine ⟨_, rfl, c, by cases c <;> rfl, _, rfl, s2, ?_⟩
    have : zD (trn (.inl (c, s))) = .tup [.str (pick2 c "fill" "cut"), .int s] := by cases c <;> rfl
    rw [this] at hC
    exact hC
  | inr h =>
    refine ⟨_, rfl, ?_⟩
    refine ⟨sh_kindZ (.inr h), sh_hand, ifT (eqv_kindZ (.inr h)) ?_⟩
    exact ⟨_, rfl, _, rfl, s3, hC⟩
structure Yv where
  a : Addr
  dx : Addr
  p : Addr
  q : Addr
  nt : List D
def Yv.it (y : Yv) (l : List Int) (ess : List (List Ze)) : It3 := (y.a, y.dx, ydF l ess y.p y.q y.nt)
abbrev trS (ess : List (List Ze)) : List (List Ze) := ess.map fun es => es.map trn
theorem trS_flat (ess : List (List Ze)) : (trS ess).flatten = ess.flatten.map trn := by
  induction ess with
  | nil => rfl
  | cons es ess ih =>
    show es.map trn ++ (trS ess).flatten = (es ++ ess.flatten).map trn
    rw [ih, List.map_append]
structure Yq (l0 l1 l2 : List Int) (ess : List (List Ze)) : Prop where
  ne : l0 ≠ []
  len : l0.length ≤ 8
  e1 : l1.length = l0.length
  e2 : l2.length = l0.length
  lq : Lq l0 l1
  few : ess.flatten.length ≤ 40
  cnt : ess.length ≤ 40
  ok : ∀ e ∈ ess.flatten, okZ l0.length e
theorem Yq.n1 {l0 l1 l2 : List Int} {ess : List (List Ze)} (h : Yq l0 l1 l2 ess) : l1 ≠ [] := fun z => h.ne (List.eq_nil_of_length_eq_zero (by rw [← h.e1, z]; rfl))
theorem Yq.n2 {l0 l1 l2 : List Int} {ess : List (List Ze)} (h : Yq l0 l1 l2 ess) : l2 ≠ [] := fun z => h.ne (List.eq_nil_of_length_eq_zero (by rw [← h.e2, z]; rfl))
theorem Yq.y0 {l0 l1 l2 : List Int} {ess : List (List Ze)} (h : Yq l0 l1 l2 ess) : YdOk l0 ess := ⟨h.ne, by have := h.len; omega, by have := h.few; omega, h.ok⟩
theorem Yq.y1 {l0 l1 l2 : List Int} {ess : List (List Ze)} (h : Yq l0 l1 l2 ess) : YdOk l1 ess := ⟨h.n1, by have := h.len; have := h.e1; omega, by have := h.few; omega, by rw [h.e1]; exact h.ok⟩
theorem Yq.y2 {l0 l1 l2 : List Int} {ess : List (List Ze)} (h : Yq l0 l1 l2 ess) : YdOk l2 ess := ⟨h.n2, by have := h.len; have := h.e2; omega, by have := h.few; omega, by rw [h.e2]; exact h.ok⟩
theorem Yq.y3 {l0 l1 l2 : List Int} {ess : List (List Ze)} (h : Yq l0 l1 l2 ess) : YdOk (negL l0) (trS ess) := ⟨fun z => h.ne (List.map_eq_nil_iff.mp z), by have := h.len; rw [negL_len]; omega, by have := h.few; rw [trS_flat, List.length_map]; omega, fun e he => by
  rw [trS_flat] at he
  obtain ⟨x, hx, rfl⟩ := List.mem_map.mp he
  rw [negL_len]
  exact okZ_trn (h.ok x hx)⟩
theorem Yq.snoc {l0 l1 l2 : List Int} {ess : List (List Ze)} {e : Ze} (h : Yq l0 l1 l2 ess) (h1 : ess.flatten.length < 40) (h2 : ess.length < 40) (h3 : okZ l0.length e) : Yq l0 l1 l2 (ess ++ [[e]]) :=
  ⟨h.ne, h.len, h.e1, h.e2, h.lq, by rw [fl_snoc, List.length_append]; show _ + 1 ≤ 40; omega, by rw [List.length_append]; show _ + 1 ≤ 40; omega, fun x hx => by
    rw [fl_snoc] at hx
    rcases List.mem_append.mp hx with hx | hx
    · exact h.ok x hx
    · rw [List.mem_singleton.mp hx]; exact h3⟩
theorem Yq.dl {l0 l1 l2 : List Int} {ess : List (List Ze)} (h : Yq l0 l1 l2 ess) : Yq l0 l1 l2 ess.dropLast ∧ ess.dropLast.flatten.length ≤ ess.flatten.length := by
  rcases List.eq_nil_or_concat ess with rfl | ⟨ess0, es, rfl⟩
  · exact ⟨h, Nat.le_refl _⟩
  · rw [List.concat_eq_append] at *
    rw [List.dropLast_concat]
    have f : (ess0 ++ [es]).flatten = ess0.flatten ++ es := fl_snoc _ _
    have h1 := h.few
    have h2 := h.cnt
    rw [f, List.length_append] at h1
    rw [List.length_append] at h2
    exact ⟨⟨h.ne, h.len, h.e1, h.e2, h.lq, by omega, by omega, fun x hx => h.ok x (by rw [f]; exact List.mem_append_left _ hx)⟩, by rw [f, List.length_append]; omega⟩
section
abbrev rho (w0 : Option Cell) (w1 : Option Cell) (w3 : Option Cell) (w6 : Option Cell) (w7 : Option Cell) (w8 : Option Cell) (w9 : Option Cell) (w11 : Option Cell) (w13 : Option Cell) (w14 : Option Cell) (w15 : Option Cell) (w18 : Option Cell) : Ro := [w0, w1, none, w3, none, none, w6, w7, w8, w9, none, w11, none, w13, w14, w15, none, none, w18]
variable {w0 w1 w3 w6 w7 w8 w9 w11 w13 w14 w15 w18 : Option Cell}
variable {Cy b a0 : Addr} {l0 l1 l2 : List Int} {ess : List (List Ze)} {y0 y1 y2 y3 : Yv} {zs : List D} {P : PEnds} {n j m : Nat} {e : Ze}
abbrev vQ (Cy b : Addr) (y0 y1 y2 y3 : Yv) (l0 l1 l2 : List Int) (ess : List (List Ze)) : Option Cell := nI Cy b [y0.it l0 ess, y1.it l1 ess, y2.it l2 ess, y3.it (negL l0) (trS ess)]
abbrev N4 (k : Nat) (y0 y1 y2 y3 : Yv) : Prop := y0.nt.length ≤ k ∧ y1.nt.length ≤ k ∧ y2.nt.length ≤ k ∧ y3.nt.length ≤ k
theorem s1 (hB : Bx 0 zs) (hP : ∀ l zs, l ≠ [] → l.length ≤ 8 → Bx 2000 zs → P.nx (rho (vo a0 zs) (vT l) w3 w6 w7 w8 w9 w11 w13 w14 w15 w18)) : T__law_right_1 g__law_dune P (rho (vo a0 zs) w1 w3 w6 w7 w8 w9 w11 w13 w14 w15 w18) := by
  refine ⟨zs, rfl, rfl, 0, 8, by decide, hB, rfl, by decide, by decide, fun l z1 hne hl hb b1 => ?_⟩
  exact hP l z1 hne (by omega) (b1.mono (by omega))
theorem s2 (hB : Bx n zs) (hn : n ≤ 1000000) (hl : l0.length ≤ 8) (hP : ∀ far zs, far.length = l0.length → (∀ x ∈ far, 0 ≤ x) → Bx (n + 40) zs → P.nx (rho (vo a0 zs) (vT l0) (some (.val (.lst (dI far)))) w6 w7 w8 w9 w11 w13 w14 w15 w18)) : T__law_right_2 (g_take 100000000000000) P (rho (vo a0 zs) (vT l0) w3 w6 w7 w8 w9 w11 w13 w14 w15 w18) := by
  refine lcW_draw (fun zs => (rho (vo a0 zs) (vT l0) w3 w6 w7 w8 w9 w11 w13 w14 w15 w18)) 4 2000000 (fun _ => True) (fun _ y => 0 ≤ y) (fun d zs m K _ hz hm hK => ?_) (dI l0) [] n zs hB (by rw [ints_len]; omega) (fun _ _ => trivial) (by rw [ints_len]; show 0 + l0.length ≤ 1000; omega) (fun out zs ho hz => ?_)
  · refine ⟨zs, rfl, rfl, m, 20, by omega, hz, rfl, by decide, by decide, fun v zs' v1 v2 hz' => ?_⟩
    refine ⟨zs', rfl, rfl, _, 3, by omega, hz', rfl, by decide, by decide, fun u zs'' u1 u2 hz'' => ?_⟩
    have e01 : ∀ b : Bool, (-(2 ^ 64) : Int) < (if b = true then 1 else 0) ∧ (if b = true then (1 : Int) else 0) < 2 ^ 64 ∧ 0 ≤ v * (if b = true then 1 else 0) := fun b => by
      cases b with
      | true => refine ⟨by decide, by decide, ?_⟩; rw [if_pos rfl]; omega
      | false => refine ⟨by decide, by decide, ?_⟩; rw [if_neg (by decide)]; omega
    obtain ⟨c1, c2, c3⟩ := e01 (decide (0 < u))
    exact ⟨.inr ⟨c1, c2⟩, hK _ zs'' _ (hz''.mono (by omega)) c3 rfl⟩
  · refine hP out zs (by rw [ho.length, ints_len]) (fun y hy => ?_) (hz.mono (by rw [ints_len]; omega))
    obtain ⟨d, _, h1⟩ := ho.mem hy
    exact h1
theorem lq_far : ∀ {a f : List Int}, f.length = a.length → (∀ x ∈ f, 0 ≤ x) → Lq a (List.zipWith (fun x y => x + y) a f)
  | [], _, _, _ => by rw [List.zipWith_nil_left]; trivial
  | x :: a, [], h, _ => by cases h
  | x :: a, y :: f, h, hp => ⟨by have := hp y List.mem_cons_self; show x ≤ x + y; omega, lq_far (by simpa using h) fun z hz => hp z (List.mem_cons_of_mem _ hz)⟩
theorem s3 {far : List Int} (hl : l0.length ≤ 8) (hP : P.nx (rho w0 (vT l0) (some (.val (.lst (dI far)))) (vT (List.zipWith (fun x y => x + y) l0 far)) w7 w8 w9 w11 w13 w14 w15 w18)) : T__law_right_3 P (rho w0 (vT l0) (some (.val (.lst (dI far)))) w6 w7 w8 w9 w11 w13 w14 w15 w18) := by
  refine lcW_z2 (h := fun x y => .int (x + y)) (fun x _ y _ K hK => ⟨rfl, rfl, hK _ rfl⟩) (by omega) ?_
  rw [zip_int]; exact hP
theorem s4 (hB : Bx n zs) (hn : n ≤ 1000000) (hl : l0.length ≤ 8) (hP : ∀ l2 zs, l2.length = l0.length → Bx (n + 40) zs → P.nx (rho (vo a0 zs) (vT l0) w3 w6 (vT l2) w8 w9 w11 w13 w14 w15 w18)) : T__law_right_4 (g_take 100000000000000) P (rho (vo a0 zs) (vT l0) w3 w6 w7 w8 w9 w11 w13 w14 w15 w18) := by
  refine lcW_draw (fun zs => (rho (vo a0 zs) (vT l0) w3 w6 w7 w8 w9 w11 w13 w14 w15 w18)) 2 2000000 (fun _ => True) (fun _ y => True) (fun d zs m K _ hz hm hK => ?_) (dI l0) [] n zs hB (by rw [ints_len]; omega) (fun _ _ => trivial) (by rw [ints_len]; show 0 + l0.length ≤ 1000; omega) (fun out zs ho hz => ?_)
  · refine ⟨zs, rfl, rfl, m, 40, by omega, hz, rfl, by decide, by decide, fun v zs' v1 v2 hz' => ?_⟩
    exact hK _ zs' _ (hz'.mono (by omega)) trivial rfl
  · exact hP out zs (by rw [ho.length, ints_len]) (hz.mono (by rw [ints_len]; omega))
theorem s5 (hl : l0.length ≤ 8) (hP : ∀ b y0 y1 y2 y3, N4 0 y0 y1 y2 y3 → P.nx (rho w0 (vT l0) w3 (vT l1) (vT l2) (vQ Cy b y0 y1 y2 y3 l0 l1 l2 []) w9 w11 w13 w14 w15 w18)) : T__law_right_5 Cy g_upside g_Yard___init__ P (rho w0 (vT l0) w3 (vT l1) (vT l2) w8 w9 w11 w13 w14 w15 w18) := by
  refine ⟨rfl, fun a0 dx0 => ⟨tD l0, l0, rfl, rfl, .inl rfl, fun p0 q0 => ⟨rfl, ?_⟩⟩⟩
  refine ⟨rfl, fun a1 dx1 => ⟨tD l1, l1, rfl, rfl, .inl rfl, fun p1 q1 => ⟨rfl, ?_⟩⟩⟩
  refine ⟨rfl, fun a2 dx2 => ⟨tD l2, l2, rfl, rfl, .inl rfl, fun p2 q2 => ⟨rfl, ?_⟩⟩⟩
  refine ⟨rfl, _, l0, rfl, .inl rfl, by omega, ?_⟩
  refine ⟨rfl, fun a3 dx3 => ⟨tD (negL l0), negL l0, rfl, rfl, .inl rfl, fun p3 q3 => ⟨rfl, ?_⟩⟩⟩
  exact ⟨[Yv.it ⟨a0, dx0, p0, q0, []⟩ l0 [], Yv.it ⟨a1, dx1, p1, q1, []⟩ l1 [], Yv.it ⟨a2, dx2, p2, q2, []⟩ l2 [], Yv.it ⟨a3, dx3, p3, q3, []⟩ (negL l0) []], rfl, by show (4 : Nat) ≤ sizeLine; decide, fun b => hP b ⟨a0, dx0, p0, q0, []⟩ ⟨a1, dx1, p1, q1, []⟩ ⟨a2, dx2, p2, q2, []⟩ ⟨a3, dx3, p3, q3, []⟩ ⟨Nat.le_refl _, Nat.le_refl _, Nat.le_refl _, Nat.le_refl _⟩⟩
abbrev nowZ (l : List Int) (ess : List (List Ze)) : List Int := zDone l ess.flatten
theorem nowZ_len (l : List Int) (ess : List (List Ze)) : (nowZ l ess).length = l.length := zDone_len _ _
theorem nowZ_ne {l : List Int} (ess : List (List Ze)) (h : l ≠ []) : nowZ l ess ≠ [] := fun z => h (List.eq_nil_of_length_eq_zero (by rw [← nowZ_len l ess, z]; rfl))
abbrev vGap (l0 l1 l2 : List Int) (ess : List (List Ze)) : Option Cell := some (.val (.lst [.int (widL (nowZ l0 ess) (nowZ l1 ess)), .int (widL (nowZ l0 ess) (nowZ l2 ess))]))
theorem gapsQ (i : Nat) (hi : i = 11 ∨ i = 15) {ρ : Ro} (hy : Yq l0 l1 l2 ess) (he : ρ = (rho w0 w1 w3 w6 w7 (vQ Cy b y0 y1 y2 y3 l0 l1 l2 ess) w9 w11 w13 w14 w15 w18)) (hP : P.nx (ρ.set i (vGap l0 l1 l2 ess))) :
    (pSet i (pVal (pLc (jSeq (pTup (pCons (pC (.int 1)) (pCons (pC (.int 2)) pNil)))) (hName 10) pYes (pFrz (pCallA 2 g_width (pCons (pFrz (pCallMI 8 Cy "dune" 1 g_Yard_dune (pOp fIx (pVarI 8) (pC (.int 0))) pNil)) (pCons (pFrz (pCallMI 8 Cy "dune" 1 g_Yard_dune (pOp fIx (pVarI 8) (pVar 10)) pNil)) pNil)))) [10]))) P ρ := by
  subst he
  have hl := hy.len
  refine ⟨by show (2 : Nat) ≤ sizeLine; decide, ?_⟩
  refine ⟨Cy, b, _, rfl, _, rfl, b, [], y0.it l0 ess, [y1.it l1 ess, y2.it l2 ess, y3.it (negL l0) (trS ess)], rfl, rfl, rfl, [], y0.dx, _, [y1.it l1 ess, y2.it l2 ess, y3.it (negL l0) (trS ess)], rfl, rfl, l0, ess, y0.p, y0.q, y0.nt, rfl, rfl, hy.y0, ?_⟩
  refine ⟨Cy, b, _, rfl, _, rfl, b, [y0.it l0 ess], y1.it l1 ess, [y2.it l2 ess, y3.it (negL l0) (trS ess)], rfl, rfl, rfl, [y0.it l0 ess], y1.dx, _, [y2.it l2 ess, y3.it (negL l0) (trS ess)], rfl, rfl, l1, ess, y1.p, y1.q, y1.nt, rfl, rfl, hy.y1, ?_⟩
  refine ⟨rfl, _, nowZ l0 ess, _, nowZ l1 ess, rfl, .inl rfl, .inl rfl, by rw [nowZ_len, nowZ_len, hy.e1], nowZ_ne ess hy.ne, by rw [nowZ_len]; omega, by show (0 : Nat) < sizeLine; decide, ?_⟩
  refine ⟨Cy, b, _, rfl, _, rfl, b, [], y0.it l0 ess, [y1.it l1 ess, y2.it l2 ess, y3.it (negL l0) (trS ess)], rfl, rfl, rfl, [], y0.dx, _, [y1.it l1 ess, y2.it l2 ess, y3.it (negL l0) (trS ess)], rfl, rfl, l0, ess, y0.p, y0.q, y0.nt, rfl, rfl, hy.y0, ?_⟩
  refine ⟨Cy, b, _, rfl, _, rfl, b, [y0.it l0 ess, y1.it l1 ess], y2.it l2 ess, [y3.it (negL l0) (trS ess)], rfl, rfl, rfl, [y0.it l0 ess, y1.it l1 ess], y2.dx, _, [y3.it (negL l0) (trS ess)], rfl, rfl, l2, ess, y2.p, y2.q, y2.nt, rfl, rfl, hy.y2, ?_⟩
  refine ⟨rfl, _, nowZ l0 ess, _, nowZ l2 ess, rfl, .inl rfl, .inl rfl, by rw [nowZ_len, nowZ_len, hy.e2], nowZ_ne ess hy.ne, by rw [nowZ_len]; omega, by show (1 : Nat) < sizeLine; decide, ?_⟩
  rcases hi with rfl | rfl <;> exact hP
theorem s61 (hy : Yq l0 l1 l2 ess) (hP : P.nx (rho w0 w1 w3 w6 w7 (vQ Cy b y0 y1 y2 y3 l0 l1 l2 ess) w9 (vGap l0 l1 l2 ess) w13 w14 w15 w18)) : T__law_right_6_1 Cy g_width g_Yard_dune P (rho w0 w1 w3 w6 w7 (vQ Cy b y0 y1 y2 y3 l0 l1 l2 ess) w9 w11 w13 w14 w15 w18) :=
  gapsQ 11 (.inl rfl) hy rfl hP
theorem s623 (hy : Yq l0 l1 l2 ess) (hP : P.nx (rho w0 w1 w3 w6 w7 (vQ Cy b y0 y1 y2 y3 l0 l1 l2 ess) w9 w11 w13 w14 (vGap l0 l1 l2 ess) w18)) : T__law_right_6_2_e_3 Cy g_width g_Yard_dune P (rho w0 w1 w3 w6 w7 (vQ Cy b y0 y1 y2 y3 l0 l1 l2 ess) w9 w11 w13 w14 w15 w18) :=
  gapsQ 15 (.inr rfl) hy rfl hP
abbrev Yv.un (y : Yv) : Yv := { y with nt := y.nt ++ [lgI "undo", lgO "undo"] }
theorem trS_dl (ess : List (List Ze)) : (trS ess).dropLast = trS ess.dropLast := by unfold trS; rw [List.map_dropLast]
theorem trS_ne (ess : List (List Ze)) : decide (trS ess ≠ []) = decide (ess ≠ []) := by cases ess <;> rfl
abbrev lcM (Cy : Addr) (m : Str) (g : FM) (Q : List D → Ro → Prop) : List D → List D → Ro → Prop := lcW [12] (hName 12) pYes (pFrz (pCallMI 8 Cy m 1 g (pVar 12) pNil)) Q
theorem undo_one {Q : List D → Ro → Prop} {l : List Int} {es : List (List Ze)} (L : List It3) (y : Yv) (R : List It3) (ds acc : List D) (hn : y.nt.length ≤ 90000) (ha : acc.length < sizeLine) (h : lcM Cy "undo" g_Yard_undo Q ds (acc ++ [.bl (decide (es ≠ []))]) (rho w0 w1 w3 w6 w7 (nI Cy b (L ++ y.un.it l es.dropLast :: R)) w9 w11 w13 w14 w15 w18)) : lcM Cy "undo" g_Yard_undo Q (.adr y.a :: ds) acc (rho w0 w1 w3 w6 w7 (nI Cy b (L ++ y.it l es :: R)) w9 w11 w13 w14 w15 w18) :=
  ⟨b, L, y.it l es, R, rfl, rfl, rfl, L, y.dx, _, R, rfl, rfl, l, es, y.p, y.q, y.nt, rfl, rfl, hn, ha, h⟩
theorem may_one {Q : List D → Ro → Prop} {l : List Int} {es : List (List Ze)} (L : List It3) (y : Yv) (R : List It3) (ds acc : List D) (hy : YdOk l es) (ha : acc.length < sizeLine) (h : lcM Cy "may" g_Yard_may Q ds (acc ++ [bothD l (yParts es.flatten)]) (rho w0 w1 w3 w6 w7 (nI Cy b (L ++ y.it l es :: R)) w9 w11 w13 w14 w15 w18)) : lcM Cy "may" g_Yard_may Q (.adr y.a :: ds) acc (rho w0 w1 w3 w6 w7 (nI Cy b (L ++ y.it l es :: R)) w9 w11 w13 w14 w15 w18) :=
  ⟨b, L, y.it l es, R, rfl, rfl, rfl, L, y.dx, _, R, rfl, rfl, l, es, y.p, y.q, y.nt, rfl, rfl, hy, ha, h⟩
theorem s621 (hn : N4 90000 y0 y1 y2 y3) (hP : P.nx (rho w0 w1 w3 w6 w7 (vQ Cy b y0.un y1.un y2.un y3.un l0 l1 l2 ess.dropLast) w9 w11 w13 w14 w15 w18)) : T__law_right_6_2_1 Cy g_Yard_undo P (rho w0 w1 w3 w6 w7 (vQ Cy b y0 y1 y2 y3 l0 l1 l2 ess) w9 w11 w13 w14 w15 w18) := by
  refine ⟨Cy, b, _, rfl, ?_⟩
  refine undo_one [] y0 [y1.it l1 ess, y2.it l2 ess, y3.it (negL l0) (trS ess)] _ _ hn.1 (by decide) ?_
  refine undo_one [y0.un.it l0 ess.dropLast] y1 [y2.it l2 ess, y3.it (negL l0) (trS ess)] _ _ hn.2.1 (by show (1 : Nat) < sizeLine; decide) ?_
  refine undo_one [y0.un.it l0 ess.dropLast, y1.un.it l1 ess.dropLast] y2 [y3.it (negL l0) (trS ess)] _ _ hn.2.2.1 (by show (2 : Nat) < sizeLine; decide) ?_
  refine undo_one [y0.un.it l0 ess.dropLast, y1.un.it l1 ess.dropLast, y2.un.it l2 ess.dropLast] y3 [] _ _ hn.2.2.2 (by show (3 : Nat) < sizeLine; decide) ?_
  rw [trS_ne, trS_dl]
  refine ⟨decide (ess ≠ []), by simp, by show (4 : Nat) < 64; decide, fun d hd => ?_, sh_int _, sh_int _, hP⟩
  have hd : d ∈ [D.bl (decide (ess ≠ [])), .bl (decide (ess ≠ [])), .bl (decide (ess ≠ [])), .bl (decide (ess ≠ []))] := hd
  simpa using hd
theorem s6e1 (hy : Yq l0 l1 l2 ess) (hB : Bx n zs) (hn : n ≤ 1000000) (hP : ∀ e zs, okZ l0.length e → Bx (n + 30) zs → P.nx (rho (vo a0 zs) (vT l0) w3 w6 w7 w8 w9 w11 (some (.val (zD e))) w14 w15 w18)) : T__law_right_6_2_e_1 g__law_entry P (rho (vo a0 zs) (vT l0) w3 w6 w7 w8 w9 w11 w13 w14 w15 w18) := by
  have h0 := List.length_pos_iff.mpr hy.ne
  have hl := hy.len
  refine ⟨zs, rfl, ?_, n, (l0.length : Int), by omega, hB, ?_, by omega, by omega, fun e z1 ge b1 => hP e z1 (good_one ge) b1⟩
  · rfl
  · show [D.int ((dI l0).length : Int)] = _; rw [ints_len]
abbrev Yv.dn (y : Yv) (e : Ze) : Yv := { y with nt := y.nt ++ lgsZ [e] }
abbrev vE (e : Ze) : Option Cell := some (.val (zD e))
abbrev vTold (l0 l1 l2 : List Int) (ess : List (List Ze)) (e : Ze) : Option Cell := some (.val (.lst [tellZ (nowZ l0 ess) e, tellZ (nowZ l1 ess) e, tellZ (nowZ l2 ess) e, tellZ (nowZ (negL l0) (trS ess)) (trn e)]))
theorem trS_snoc (ess : List (List Ze)) (e : Ze) : trS ess ++ [[trn e]] = trS (ess ++ [[e]]) := by unfold trS; rw [List.map_append]; rfl
theorem eq3 (k : Int) (h : k ≠ 3) : (D.int k).eqv (.int 3) = false := by rw [eqv_int]; exact decide_eq_false h
abbrev lcD (Cy : Addr) (Q : List D → Ro → Prop) : List D → List D → Ro → Prop := lcW [10, 12] (hTup 2 (hCons (hName 10) (hCons (hName 12) hNil))) pYes (pFrz (pCallII 8 Cy 2 g__law_do_one (pVar 12) (pCons (pOp fIx (pLst (pCons (pVar 13) (pCons (pFrz (pCallA 1 g__law_turned (pCons (pVar 13) pNil))) pNil))) (pCB fInt1 (pCons (pOp fEq (pVar 10) (pC (.int 3))) pNil))) pNil))) Q
theorem do_one {Q : List D → Ro → Prop} {l : List Int} {es : List (List Ze)} {x : Ze} (k : Int) (L : List It3) (y : Yv) (R : List It3) (ds acc : List D) (ix : ∀ K : D → Prop, K (zD x) → fIx (.lst [zD e, zD (trn e)]) (.int (if (D.int k).eqv (.int 3) = true then 1 else 0)) K) (hy : YdOk l es) (ho : okZ l.length x) (hc : es.length ≤ 1000) (hn : y.nt.length ≤ 80000) (ha : acc.length < sizeLine) (h : lcD Cy Q ds (acc ++ [tellZ (zDone l es.flatten) x]) (rho w0 w1 w3 w6 w7 (nI Cy b (L ++ (y.dn x).it l (es ++ [[x]]) :: R)) w9 w11 (vE e) w14 w15 w18)) : lcD Cy Q (.tup [.int k, .adr y.a] :: ds) acc (rho w0 w1 w3 w6 w7 (nI Cy b (L ++ y.it l es :: R)) w9 w11 (vE e) w14 w15 w18) :=
  have s2 : (2 : Nat) ≤ sizeLine := by decide
  ⟨rfl, rfl, b, y.a, rfl, rfl, e, rfl, s2, sh_int _, sh_int _, ix _ ⟨L, y.dx, _, R, rfl, rfl, l, es, y.p, y.q, y.nt, x, rfl, rfl, hy, ho, hc, hn, ha, h⟩⟩
theorem s6e2 (hy : Yq l0 l1 l2 ess) (ho : okZ l0.length e) (hn : N4 80000 y0 y1 y2 y3) (hP : P.nx (rho w0 w1 w3 w6 w7 (vQ Cy b (y0.dn e) (y1.dn e) (y2.dn e) (y3.dn (trn e)) l0 l1 l2 (ess ++ [[e]])) w9 w11 (vE e) (vTold l0 l1 l2 ess e) w15 w18)) : T__law_right_6_2_e_2 Cy g__law_do_one g__law_turned P (rho w0 w1 w3 w6 w7 (vQ Cy b y0 y1 y2 y3 l0 l1 l2 ess) w9 w11 (vE e) w14 w15 w18) := by
  have h1 := hy.cnt
  have s2 : (2 : Nat) ≤ sizeLine := by decide
  have ix : ∀ (k : Int), k ≠ 3 → ∀ (K : D → Prop), K (zD e) → fIx (.lst [zD e, zD (trn e)]) (.int (if (D.int k).eqv (.int 3) = true then 1 else 0)) K := fun k hk K hK => by
    rw [eq3 k hk]; exact ⟨_, rfl, hK⟩
  have ix3 : ∀ (K : D → Prop), K (zD (trn e)) → fIx (.lst [zD e, zD (trn e)]) (.int (if (D.int 3).eqv (.int 3) = true then 1 else 0)) K := fun K hK => by
    rw [show (D.int 3).eqv (.int 3) = true by rw [eqv_int]; rfl]; exact ⟨_, rfl, hK⟩
  refine ⟨Cy, b, _, rfl, ?_⟩
  refine do_one 0 [] y0 [y1.it l1 ess, y2.it l2 ess, y3.it (negL l0) (trS ess)] _ _ (ix 0 (by decide)) hy.y0 ho (by omega) hn.1 (by decide) ?_
  refine do_one 1 [(y0.dn e).it l0 (ess ++ [[e]])] y1 [y2.it l2 ess, y3.it (negL l0) (trS ess)] _ _ (ix 1 (by decide)) hy.y1 (by rw [hy.e1]; exact ho) (by omega) hn.2.1 (by show (1 : Nat) < sizeLine; decide) ?_
  refine do_one 2 [(y0.dn e).it l0 (ess ++ [[e]]), (y1.dn e).it l1 (ess ++ [[e]])] y2 [y3.it (negL l0) (trS ess)] _ _ (ix 2 (by decide)) hy.y2 (by rw [hy.e2]; exact ho) (by omega) hn.2.2.1 (by show (2 : Nat) < sizeLine; decide) ?_
  refine do_one 3 [(y0.dn e).it l0 (ess ++ [[e]]), (y1.dn e).it l1 (ess ++ [[e]]), (y2.dn e).it l2 (ess ++ [[e]])] y3 [] _ _ ix3 hy.y3 (by rw [negL_len]; exact okZ_trn ho) (by unfold trS; rw [List.length_map]; omega) hn.2.2.2 (by show (3 : Nat) < sizeLine; decide) ?_
  rw [trS_snoc]
  exact hP
theorem gap_lst (x y : Int) : (D.lst [.int x, .int y]).sh := sh_lstI [x, y]
theorem s6e4 {x y u v : Int} (h1 : u ≤ x) (h2 : v ≤ y) (h3 : isHz e = true → u = x ∧ v = y) (hP : P.nx (rho w0 w1 w3 w6 w7 w8 w9 (some (.val (.lst [.int x, .int y]))) (vE e) w14 (some (.val (.lst [.int u, .int v]))) w18)) : T__law_right_6_2_e_4 P (rho w0 w1 w3 w6 w7 w8 w9 (some (.val (.lst [.int x, .int y]))) (vE e) w14 (some (.val (.lst [.int u, .int v]))) w18) := by
  have key : ∀ Q : List D → Ro → Prop, Q [.bl (decide (x < u)), .bl (decide (y < v))] (rho w0 w1 w3 w6 w7 w8 w9 (some (.val (.lst [.int x, .int y]))) (vE e) w14 (some (.val (.lst [.int u, .int v]))) w18) → lcW [16, 17] (hTup 2 (hCons (hName 16) (hCons (hName 17) hNil))) pYes (pOp fGt (pVar 16) (pVar 17)) Q (zipD [.int u, .int v] [.int x, .int y]) [] (rho w0 w1 w3 w6 w7 w8 w9 (some (.val (.lst [.int x, .int y]))) (vE e) w14 (some (.val (.lst [.int u, .int v]))) w18) := fun Q hQ =>
    lcW_z2 (a := [u, v]) (b := [x, y]) (h := fun p q => .bl (decide (q < p))) (fun p _ q _ K hK => ⟨rfl, rfl, hK _ rfl⟩) (by show (2 : Nat) ≤ 1000; decide) hQ
  refine key _ ⟨[decide (x < u), decide (y < v)], rfl, ifF ?_ ?_⟩
  · simp [Int.not_lt.mpr h1, Int.not_lt.mpr h2]
  refine zD_at0 e ⟨sh_kindZ e, sh_hand, ifB (fun hz => ?_) (fun hz => hP)⟩
  rw [eqv_kindZ] at hz
  obtain ⟨rfl, rfl⟩ := h3 hz
  refine ⟨gap_lst _ _, gap_lst _ _, ifF ?_ hP⟩
  rw [show (D.lst [.int u, .int v]).eqv (.lst [.int u, .int v]) = decide ([u, v] = [u, v]) from eqv_lstI [u, v] [u, v]]; simp
theorem s6e5 (hP : P.nx (rho w0 w1 w3 w6 w7 w8 w9 w11 w13 (vTold l0 l1 l2 ess e) w15 w18)) : T__law_right_6_2_e_5 (gS 4) P (rho w0 w1 w3 w6 w7 w8 w9 w11 w13 (vTold l0 l1 l2 ess e) w15 w18) := by
  cases e with
  | inr h => exact ⟨_, rfl, hP⟩
  | inl w =>
    have e3 : tellZ (nowZ (negL l0) (trS ess)) (trn (.inl w)) = .tup [.int (amP w.1 (nowZ l0 ess) (blW (nowZ l0 ess) w)).2, .int (amP w.1 (nowZ l0 ess) (blW (nowZ l0 ess) w)).1] := by
      have : nowZ (negL l0) (trS ess) = negL (nowZ l0 ess) := by show zDone (negL l0) (trS ess).flatten = _; rw [trS_flat, zDone_trn]
      rw [this]
      exact tell_trn (nowZ l0 ess) w
    have fin : ∀ t : D, t = .tup [.int (amP w.1 (nowZ l0 ess) (blW (nowZ l0 ess) w)).2, .int (amP w.1 (nowZ l0 ess) (blW (nowZ l0 ess) w)).1] → P.nx (rho w0 w1 w3 w6 w7 w8 w9 w11 w13 (some (.val (.lst [tellZ (nowZ l0 ess) (.inl w), tellZ (nowZ l1 ess) (.inl w), tellZ (nowZ l2 ess) (.inl w), t]))) w15 w18) → T__law_right_6_2_e_5 (gS 4) P (rho w0 w1 w3 w6 w7 w8 w9 w11 w13 (some (.val (.lst [tellZ (nowZ l0 ess) (.inl w), tellZ (nowZ l1 ess) (.inl w), tellZ (nowZ l2 ess) (.inl w), t]))) w15 w18) := fun t ht hP => by
      refine ⟨_, rfl, _, rfl, _, rfl, rfl, t, ?_, ?_, hP⟩
      · rw [ht]; rfl
      · rw [ht]
        exact ⟨by show (2 : Nat) ≤ 1000; decide, fun x hx => by
          rcases List.mem_cons.mp hx with rfl | hx
          · exact okN_int _ _
          · rw [List.mem_singleton.mp hx]; exact okN_int _ _⟩
    exact fin _ e3 hP
theorem s63 (hy : Yq l0 l1 l2 ess) (hP : P.nx (rho w0 w1 w3 w6 w7 (vQ Cy b y0 y1 y2 y3 l0 l1 l2 ess) w9 w11 w13 w14 w15 w18)) : T__law_right_6_3 Cy g_upside g_is_below g_Yard_dune P (rho w0 w1 w3 w6 w7 (vQ Cy b y0 y1 y2 y3 l0 l1 l2 ess) w9 w11 w13 w14 w15 w18) := by
  have hl := hy.len
  have lq : Lq (nowZ l0 ess) (nowZ l1 ess) := zDone_mono hy.ok hy.lq
  refine ⟨Cy, b, _, rfl, _, rfl, b, [], y0.it l0 ess, [y1.it l1 ess, y2.it l2 ess, y3.it (negL l0) (trS ess)], rfl, rfl, rfl, [], y0.dx, _, [y1.it l1 ess, y2.it l2 ess, y3.it (negL l0) (trS ess)], rfl, rfl, l0, ess, y0.p, y0.q, y0.nt, rfl, rfl, hy.y0, ?_⟩
  refine ⟨Cy, b, _, rfl, _, rfl, b, [y0.it l0 ess], y1.it l1 ess, [y2.it l2 ess, y3.it (negL l0) (trS ess)], rfl, rfl, rfl, [y0.it l0 ess], y1.dx, _, [y2.it l2 ess, y3.it (negL l0) (trS ess)], rfl, rfl, l1, ess, y1.p, y1.q, y1.nt, rfl, rfl, hy.y1, ?_⟩
  refine ⟨rfl, _, nowZ l0 ess, _, nowZ l1 ess, rfl, .inl rfl, .inl rfl, by rw [nowZ_len, nowZ_len, hy.e1], nowZ_ne ess hy.ne, by rw [nowZ_len]; omega, ?_⟩
  refine ifF (by rw [below_lq lq (nowZ_ne ess hy.ne)]; rfl) ?_
  refine ⟨Cy, b, _, rfl, _, rfl, b, [y0.it l0 ess, y1.it l1 ess, y2.it l2 ess], y3.it (negL l0) (trS ess), [], rfl, rfl, rfl, [y0.it l0 ess, y1.it l1 ess, y2.it l2 ess], y3.dx, _, [], rfl, rfl, (negL l0), (trS ess), y3.p, y3.q, y3.nt, rfl, rfl, hy.y3, ?_⟩
  refine ⟨Cy, b, _, rfl, _, rfl, b, [], y0.it l0 ess, [y1.it l1 ess, y2.it l2 ess, y3.it (negL l0) (trS ess)], rfl, rfl, rfl, [], y0.dx, _, [y1.it l1 ess, y2.it l2 ess, y3.it (negL l0) (trS ess)], rfl, rfl, l0, ess, y0.p, y0.q, y0.nt, rfl, rfl, hy.y0, ?_⟩
  refine ⟨rfl, _, nowZ l0 ess, rfl, .inl rfl, by rw [nowZ_len]; omega, sh_tupI _, sh_tupI _, ifF ?_ hP⟩
  have e : zDone (negL l0) (trS ess).flatten = negL (nowZ l0 ess) := by rw [trS_flat, zDone_trn]
  rw [e]
  show (!(D.tup (dI (negL (nowZ l0 ess)))).eqv (.tup (dI (negL (nowZ l0 ess))))) = false
  rw [eqv_tupI]; simp
abbrev vPairs (l0 l1 l2 : List Int) (ess : List (List Ze)) : Option Cell := some (.val (.lst [bothD l0 (yParts ess.flatten), bothD l1 (yParts ess.flatten), bothD l2 (yParts ess.flatten), bothD (negL l0) (yParts (trS ess).flatten)]))
theorem s7 (hy : Yq l0 l1 l2 ess) (hP : P.nx (rho w0 w1 w3 w6 w7 (vQ Cy b y0 y1 y2 y3 l0 l1 l2 ess) w9 w11 w13 w14 w15 (vPairs l0 l1 l2 ess))) : T__law_right_7 Cy g_Yard_may P (rho w0 w1 w3 w6 w7 (vQ Cy b y0 y1 y2 y3 l0 l1 l2 ess) w9 w11 w13 w14 w15 w18) := by
  refine ⟨Cy, b, _, rfl, ?_⟩
  refine may_one [] y0 [y1.it l1 ess, y2.it l2 ess, y3.it (negL l0) (trS ess)] _ _ hy.y0 (by decide) ?_
  refine may_one [y0.it l0 ess] y1 [y2.it l2 ess, y3.it (negL l0) (trS ess)] _ _ hy.y1 (by show (1 : Nat) < sizeLine; decide) ?_
  refine may_one [y0.it l0 ess, y1.it l1 ess] y2 [y3.it (negL l0) (trS ess)] _ _ hy.y2 (by show (2 : Nat) < sizeLine; decide) ?_
  refine may_one [y0.it l0 ess, y1.it l1 ess, y2.it l2 ess] y3 [] _ _ hy.y3 (by show (3 : Nat) < sizeLine; decide) ?_
  exact hP
theorem may_lq (hy : Yq l0 l1 l2 ess) (c : Bool) : Lq (zDone l0 (allF c (yParts ess.flatten))) (zDone l1 (allF c (yParts ess.flatten))) :=
  zDone_mono (row_ok _ _ (allF_row c _) (parts_ok (n := l0.length) (kept_ok true hy.ok) (kept_ok false hy.ok))) hy.lq
theorem s8 (hy : Yq l0 l1 l2 ess) (hP : P.nx (rho w0 w1 w3 w6 w7 w8 w9 w11 w13 w14 w15 (vPairs l0 l1 l2 ess))) : T__law_right_8 g_is_below P (rho w0 w1 w3 w6 w7 w8 w9 w11 w13 w14 w15 (vPairs l0 l1 l2 ess)) := by
  have hl := hy.len
  have ne : ∀ c, zDone l0 (allF c (yParts ess.flatten)) ≠ [] := fun c z => hy.ne (List.eq_nil_of_length_eq_zero (by rw [← zDone_len (allF c (yParts ess.flatten)) l0, z]; rfl))
  have bl : ∀ c, (decide (0 ≤ minOf (difL (zDone l0 (allF c (yParts ess.flatten))) (zDone l1 (allF c (yParts ess.flatten)))))) = true := fun c => below_lq (may_lq hy c) (ne c)
  refine ⟨by decide, by decide, ?_⟩
  refine lc_rg 2 (fun _ => .bl true) rfl (fun j hj K hK => ?_) (by decide) ?_
  · match j, hj with
    | 0, _ =>
      refine ⟨_, rfl, _, rfl, _, rfl, _, rfl, rfl, _, zDone l0 (allF true (yParts ess.flatten)), _, zDone l1 (allF true (yParts ess.flatten)), rfl, .inl rfl, .inl rfl, by rw [zDone_len, zDone_len, hy.e1], ne true, by rw [zDone_len]; omega, ?_⟩
      rw [bl true]
      exact hK _ rfl
    | 1, _ =>
      refine ⟨_, rfl, _, rfl, _, rfl, _, rfl, rfl, _, zDone l0 (allF false (yParts ess.flatten)), _, zDone l1 (allF false (yParts ess.flatten)), rfl, .inl rfl, .inl rfl, by rw [zDone_len, zDone_len, hy.e1], ne false, by rw [zDone_len]; omega, ?_⟩
      rw [bl false]
      exact hK _ rfl
    | j + 2, h => omega
  · exact ⟨[true, true], rfl, hP⟩
theorem s9 (hy : Yq l0 l1 l2 ess) (hP : P.rt (.val (.bl true)) (rho w0 w1 w3 w6 w7 w8 w9 w11 w13 w14 w15 (vPairs l0 l1 l2 ess))) : T__law_right_9 g_upside (gS 4) P (rho w0 w1 w3 w6 w7 w8 w9 w11 w13 w14 w15 (vPairs l0 l1 l2 ess)) := by
  have hl := hy.len
  have e : bothD (negL l0) (yParts (trS ess).flatten) = .tup [tD (negL (zDone l0 (allF false (yParts ess.flatten)))), tD (negL (zDone l0 (allF true (yParts ess.flatten))))] := by rw [trS_flat]; exact both_trn l0 ess.flatten
  refine ⟨_, rfl, _, rfl, _, rfl, rfl, _, zDone l0 (allF false (yParts ess.flatten)), rfl, .inl rfl, by rw [zDone_len]; omega, _, rfl, _, rfl, rfl, _, zDone l0 (allF true (yParts ess.flatten)), rfl, .inl rfl, by rw [zDone_len]; omega, by show (2 : Nat) ≤ sizeLine; decide, rfl, .tup [tD (negL (zDone l0 (allF false (yParts ess.flatten)))), tD (negL (zDone l0 (allF true (yParts ess.flatten))))], ?_, ?_, hP⟩
  · rw [e]; rfl
  · exact ⟨by show (2 : Nat) ≤ 1000; decide, fun x hx => by
      rcases List.mem_cons.mp hx with rfl | hx
      · exact okN_tD 1 (by rw [negL_len, zDone_len]; omega)
      · rw [List.mem_singleton.mp hx]; exact okN_tD 1 (by rw [negL_len, zDone_len]; omega)⟩
theorem s62 (hy : Yq l0 l1 l2 ess) (hf : ess.flatten.length < 40) (hc : ess.length < 40) (hn : N4 70000 y0 y1 y2 y3) (hB : Bx n zs) (hm : n ≤ 900000) (hP : ∀ ess' y0' y1' y2' y3' zs w13 w14 w15, Yq l0 l1 l2 ess' → ess'.flatten.length ≤ ess.flatten.length + 1 → ess'.length ≤ ess.length + 1 → (∀ k, N4 k y0 y1 y2 y3 → N4 (k + 2) y0' y1' y2' y3') → Bx (n + 40) zs → P.nx (rho (vo a0 zs) (vT l0) w3 w6 w7 (vQ Cy b y0' y1' y2' y3' l0 l1 l2 ess') w9 (vGap l0 l1 l2 ess) w13 w14 w15 w18)) :
    T__law_right_6_2 Cy g_width (g_take 100000000000000) (gS 4) g__law_entry g__law_do_one g__law_turned g_Yard_undo g_Yard_dune P (rho (vo a0 zs) (vT l0) w3 w6 w7 (vQ Cy b y0 y1 y2 y3 l0 l1 l2 ess) w9 (vGap l0 l1 l2 ess) w13 w14 w15 w18) := by
  refine ⟨zs, rfl, rfl, n, 6, by omega, hB, rfl, by decide, by decide, fun u z1 _ _ b1 => ⟨sh_int _, sh_int _, ifB (fun _ => ?_) (fun _ => ?_)⟩⟩
  · refine s621 ⟨by have := hn.1; omega, by have := hn.2.1; omega, by have := hn.2.2.1; omega, by have := hn.2.2.2; omega⟩ ?_
    have d := hy.dl
    refine hP ess.dropLast y0.un y1.un y2.un y3.un z1 _ _ _ d.1 (by omega) (by rw [List.length_dropLast]; omega) (fun k h => ?_) (b1.mono (by omega))
    have l2 : ∀ (y : Yv), y.nt.length ≤ k → y.un.nt.length ≤ k + 2 := fun y hy => by
      show (y.nt ++ [lgI "undo", lgO "undo"]).length ≤ _
      rw [List.length_append]; show y.nt.length + 2 ≤ _; omega
    exact ⟨l2 _ h.1, l2 _ h.2.1, l2 _ h.2.2.1, l2 _ h.2.2.2⟩
  · refine s6e1 hy b1 (by omega) fun e z2 ho b2 => ?_
    refine s6e2 hy ho ⟨by have := hn.1; omega, by have := hn.2.1; omega, by have := hn.2.2.1; omega, by have := hn.2.2.2; omega⟩ ?_
    have hy' := hy.snoc hf hc ho
    refine s623 hy' ?_
    have ln : ∀ l : List Int, (zDone l ess.flatten).length = l.length := fun l => zDone_len _ _
    have n0 := nowZ_ne ess hy.ne
    have o0 : okZ (nowZ l0 ess).length e := by rw [nowZ_len]; exact ho
    have e1 : (nowZ l0 ess).length = (nowZ l1 ess).length := by rw [nowZ_len, nowZ_len, hy.e1]
    have e2 : (nowZ l0 ess).length = (nowZ l2 ess).length := by rw [nowZ_len, nowZ_len, hy.e2]
    have ge : vGap l0 l1 l2 (ess ++ [[e]]) = some (.val (.lst [.int (widL (zB (nowZ l0 ess) e) (zB (nowZ l1 ess) e)), .int (widL (zB (nowZ l0 ess) e) (zB (nowZ l2 ess) e))])) := by
      unfold vGap nowZ
      rw [zsnoc, zsnoc, zsnoc]
    rw [ge]
    refine s6e4 (wid_zB o0 e1 n0) (wid_zB o0 e2 n0) (fun hz => ⟨wid_hand hz e1, wid_hand hz e2⟩) ?_
    refine s6e5 ?_
    refine hP (ess ++ [[e]]) (y0.dn e) (y1.dn e) (y2.dn e) (y3.dn (trn e)) z2 _ _ _ hy' (by rw [fl_snoc, List.length_append]; exact Nat.le_refl _) (by rw [List.length_append]; exact Nat.le_refl _) (fun k h => ?_) (b2.mono (by omega))
    have l2 : ∀ (y : Yv) (e : Ze), y.nt.length ≤ k → (y.dn e).nt.length ≤ k + 2 := fun y e hy => by
      show (y.nt ++ lgsZ [e]).length ≤ _
      rw [List.length_append, lgsZ_len]; show y.nt.length + 2 ≤ _; omega
    exact ⟨l2 _ _ h.1, l2 _ _ h.2.1, l2 _ _ h.2.2.1, l2 _ _ h.2.2.2⟩
theorem s6 (hy : Yq l0 l1 l2 []) (hn : N4 0 y0 y1 y2 y3) (hB : Bx n zs) (hm : n ≤ 100000) (hP : ∀ ess y0 y1 y2 y3 zs w9 w11 w13 w14 w15, Yq l0 l1 l2 ess → P.nx (rho (vo a0 zs) (vT l0) w3 w6 w7 (vQ Cy b y0 y1 y2 y3 l0 l1 l2 ess) w9 w11 w13 w14 w15 w18)) :
    T__law_right_6 Cy g_upside g_width g_is_below (g_take 100000000000000) (gS 4) g__law_entry g__law_do_one g__law_turned g_Yard_undo g_Yard_dune P (rho (vo a0 zs) (vT l0) w3 w6 w7 (vQ Cy b y0 y1 y2 y3 l0 l1 l2 []) w9 w11 w13 w14 w15 w18) := by
  refine ⟨zs, rfl, rfl, n, 31, by omega, hB, rfl, by decide, by decide, fun m z1 m0 m1 b1 => ⟨by omega, by omega, ?_⟩⟩
  obtain ⟨m, rfl⟩ := Int.eq_ofNat_of_zero_le m0
  refine fr_rg m (fun j ρ => ∃ (ess : List (List Ze)) (y0 y1 y2 y3 : Yv) (zs : List D) (w9 w11 w13 w14 w15 : Option Cell), Yq l0 l1 l2 ess ∧ ess.flatten.length ≤ j ∧ ess.length ≤ j ∧ N4 (2 * j) y0 y1 y2 y3 ∧ Bx (n + 2 + 50 * j) zs ∧ ρ = (rho (vo a0 zs) (vT l0) w3 w6 w7 (vQ Cy b y0 y1 y2 y3 l0 l1 l2 ess) w9 w11 w13 w14 w15 w18)) rfl ⟨[], y0, y1, y2, y3, z1, w9, w11, w13, w14, w15, hy, Nat.le_refl _, Nat.le_refl _, hn, b1.mono (by omega), rfl⟩ (fun j ρ K hj hI hK => ?_) (fun ρ hI => ?_)
  · obtain ⟨ess, y0, y1, y2, y3, zs, w9, w11, w13, w14, w15, hy, h1, h2, h3, hB, rfl⟩ := hI
    refine s61 (w9 := vI (j : Int)) hy ?_
    refine s62 (w9 := vI (j : Int)) hy (by omega) (by omega) ⟨by have := h3.1; omega, by have := h3.2.1; omega, by have := h3.2.2.1; omega, by have := h3.2.2.2; omega⟩ hB (by omega) fun ess' y0' y1' y2' y3' z2 w13' w14' w15' hy' g1 g2 g3 b2 => ?_
    refine s63 (w9 := vI (j : Int)) hy' ?_
    exact hK _ ⟨ess', y0', y1', y2', y3', z2, _, _, _, _, _, hy', by omega, by omega, g3 _ h3, b2.mono (by omega), rfl⟩
  · obtain ⟨ess, y0, y1, y2, y3, zs, w9, w11, w13, w14, w15, hy, h1, h2, h3, hB, rfl⟩ := hI
    exact hP ess y0 y1 y2 y3 zs _ _ _ _ _ hy
end
section
variable {Cy : Addr}
def g__law_right : FB := fun xs ds C => Bx 0 xs ∧ ds = [] ∧ ∀ ys, C (.val (.bl true)) ys
theorem rd__law_right : ∀ a xs ds C, ds.length + 1 = 1 → g__law_right xs ds C → T__law_right Cy g_upside g_Yard___init__ g_Yard_undo g_Yard_dune g_Yard_may g_width g_is_below (g_take 100000000000000) (gS 4) g__law_dune g__law_entry g__law_do_one g__law_turned (EB a C) (startB N__law_right a xs ds) := by
  rintro a0 xs ds C - ⟨hB, rfl, hC⟩
  refine s1 (w1 := none) (w3 := none) (w6 := none) (w7 := none) (w8 := none) (w9 := none) (w11 := none) (w13 := none) (w14 := none) (w15 := none) (w18 := none) hB fun l0 z1 hne hl b1 => ?_
  refine s2 b1 (by omega) hl fun far z2 f1 f2 b2 => ?_
  refine s3 hl ?_
  refine s4 b2 (by omega) hl fun l2 z3 f3 b3 => ?_
  refine s5 hl fun b y0 y1 y2 y3 hn => ?_
  have lq := lq_far f1 f2
  have hy : Yq l0 (List.zipWith (fun x y => x + y) l0 far) l2 [] := ⟨hne, hl, lq.length.symm, f3, lq, by decide, by decide, fun e he => absurd he List.not_mem_nil⟩
  refine s6 hy hn b3 (by omega) fun ess y0 y1 y2 y3 z4 w9 w11 w13 w14 w15 hy' => ?_
  refine s7 hy' ?_
  refine s8 hy' ?_
  exact s9 hy' ⟨z4, rfl, hC z4⟩
end
theorem rd_law : ∀ ds C, ds.length = 1 → g_law ds C → T_law g__law_box g__law_right (EA C) (startA N_law ds) := by
  rintro ds C - ⟨ns, rfl, hns, hC⟩
  refine ⟨by show (-(2 ^ 62) : Int) ≤ 1 + min 2 _; omega, by show (1 + min 2 _ : Int) < 2 ^ 62; omega, ?_⟩
  refine lc_rg (1 + min 2 (ns.length : Int)).toNat (fun _ => .bl true) rfl (fun j hj K hK => ?_) (by omega) ?_
  · refine ⟨rfl, ns, j, rfl, by omega, by omega, fun a zs hB => ?_⟩
    exact ⟨rfl, hB, rfl, fun _ => hK _ rfl⟩
  · refine ⟨List.replicate (1 + min 2 (ns.length : Int)).toNat true, ?_, ?_⟩
    · rw [List.map_const', List.length_range, List.map_replicate]
    · have e : (List.replicate (1 + min 2 (ns.length : Int)).toNat true).all id = true := by simp [List.all_replicate]
      rw [e]; exact hC
end Pl
namespace Pl
open PySem PySem.Spec PyProof.Rows L2
def topS (i : Nat) : Stmt := PySem.Challenge.pw_dunebooks_k89_whole_yards_beside_each_ot.main.body.getD i (.Pass ⟨0, 0, 0, 0⟩)
abbrev s__wall : Stmt := topS 0
abbrev s_sand : Stmt := topS 6
abbrev NN_sand : List Str := [("dune" : Str)]
theorem sc_sand : FnScope NN_sand ["dune"] (defScope s_sand) := ⟨rfl, rfl, rfl, by decide +kernel, rfl, by decide +kernel, by decide +kernel⟩
abbrev s_mirrored : Stmt := topS 7
abbrev NN_mirrored : List Str := [("dune" : Str)]
theorem sc_mirrored : FnScope NN_mirrored ["dune"] (defScope s_mirrored) := ⟨rfl, rfl, rfl, by decide +kernel, rfl, by decide +kernel, by decide +kernel⟩
abbrev s_upside : Stmt := topS 8
abbrev NN_upside : List Str := [("dune" : Str), ("height" : Str)]
theorem sc_upside : FnScope NN_upside ["dune"] (defScope s_upside) := ⟨rfl, rfl, rfl, by decide +kernel, rfl, by decide +kernel, by decide +kernel⟩
abbrev s_handed : Stmt := topS 9
abbrev NN_handed : List Str := [("dune" : Str), ("post" : Str), ("by" : Str), ("at" : Str), ("height" : Str)]
theorem sc_handed : FnScope NN_handed ["dune", "post", "by"] (defScope s_handed) := ⟨rfl, rfl, rfl, by decide +kernel, rfl, by decide +kernel, by decide +kernel⟩
abbrev s_blown : Stmt := topS 11
abbrev NN_blown : List Str := [("dune" : Str), ("wind" : Str), ("word" : Str), ("slope" : Str)]
theorem sc_blown : FnScope NN_blown ["dune", "wind"] (defScope s_blown) := ⟨rfl, rfl, rfl, by decide +kernel, rfl, by decide +kernel, by decide +kernel⟩
abbrev s_cut_to : Stmt := topS 12
abbrev NN_cut_to : List Str := [("dune" : Str), ("slope" : Str), ("onward" : Str)]
theorem sc_cut_to : FnScope NN_cut_to ["dune", "slope"] (defScope s_cut_to) := ⟨rfl, rfl, rfl, by decide +kernel, rfl, by decide +kernel, by decide +kernel⟩
abbrev s_cut_onward : Stmt := topS 13
abbrev NN_cut_onward : List Str := [("dune" : Str), ("slope" : Str), ("heights" : Str), ("height" : Str)]
theorem sc_cut_onward : FnScope NN_cut_onward ["dune", "slope"] (defScope s_cut_onward) := ⟨rfl, rfl, rfl, by decide +kernel, rfl, by decide +kernel, by decide +kernel⟩
abbrev s_days : Stmt := topS 15
abbrev NN_days : List Str := [("dune" : Str), ("almanac" : Str), ("rows" : Str), ("wind" : Str)]
theorem sc_days : FnScope NN_days ["dune", "almanac"] (defScope s_days) := ⟨rfl, rfl, rfl, by decide +kernel, rfl, by decide +kernel, by decide +kernel⟩
abbrev s_amount : Stmt := topS 16
abbrev NN_amount : List Str := [("wind" : Str), ("ahead" : Str), ("after" : Str), ("change" : Str)]
theorem sc_amount : FnScope NN_amount ["wind", "ahead", "after"] (defScope s_amount) := ⟨rfl, rfl, rfl, by decide +kernel, rfl, by decide +kernel, by decide +kernel⟩
abbrev s_amounts : Stmt := topS 17
abbrev NN_amounts : List Str := [("dune" : Str), ("almanac" : Str), ("rows" : Str), ("wind" : Str), ("ahead" : Str), ("after" : Str)]
theorem sc_amounts : FnScope NN_amounts ["dune", "almanac"] (defScope s_amounts) := ⟨rfl, rfl, rfl, by decide +kernel, rfl, by decide +kernel, by decide +kernel⟩
abbrev s_almanac_of : Stmt := topS 19
abbrev NN_almanac_of : List Str := [("cuts" : Str), ("fills" : Str), ("order" : Str), ("winds" : Str), ("cut" : Str), ("fill" : Str), ("sign" : Str)]
theorem sc_almanac_of : FnScope NN_almanac_of ["cuts", "fills", "order"] (defScope s_almanac_of) := ⟨rfl, rfl, rfl, by decide +kernel, rfl, by decide +kernel, by decide +kernel⟩
abbrev s_is_hand : Stmt := topS 21
abbrev NN_is_hand : List Str := [("entry" : Str)]
theorem sc_is_hand : FnScope NN_is_hand ["entry"] (defScope s_is_hand) := ⟨rfl, rfl, rfl, by decide +kernel, rfl, by decide +kernel, by decide +kernel⟩
abbrev s_done : Stmt := topS 22
abbrev NN_done : List Str := [("dune" : Str), ("entries" : Str), ("now" : Str), ("entry" : Str)]
theorem sc_done : FnScope NN_done ["dune", "entries"] (defScope s_done) := ⟨rfl, rfl, rfl, by decide +kernel, rfl, by decide +kernel, by decide +kernel⟩
abbrev s_entries_with : Stmt := topS 23
abbrev NN_entries_with : List Str := [("entries" : Str), ("words" : Str), ("entry" : Str)]
theorem sc_entries_with : FnScope NN_entries_with ["entries", "words"] (defScope s_entries_with) := ⟨rfl, rfl, rfl, by decide +kernel, rfl, by decide +kernel, by decide +kernel⟩
abbrev s_slopes_between : Stmt := topS 24
abbrev NN_slopes_between : List Str := [("book" : Str), ("rows" : Str), ("entry" : Str)]
theorem sc_slopes_between : FnScope NN_slopes_between ["book"] (defScope s_slopes_between) := ⟨rfl, rfl, rfl, by decide +kernel, rfl, by decide +kernel, by decide +kernel⟩
abbrev s_same_hands : Stmt := topS 25
abbrev NN_same_hands : List Str := [("cutter" : Str), ("filler" : Str), ("ours" : Str), ("theirs" : Str), ("number" : Str)]
theorem sc_same_hands : FnScope NN_same_hands ["cutter", "filler"] (defScope s_same_hands) := ⟨rfl, rfl, rfl, by decide +kernel, rfl, by decide +kernel, by decide +kernel⟩
abbrev s_stretches : Stmt := topS 26
abbrev NN_stretches : List Str := [("cutter" : Str), ("filler" : Str), ("hands" : Str)]
theorem sc_stretches : FnScope NN_stretches ["cutter", "filler"] (defScope s_stretches) := ⟨rfl, rfl, rfl, by decide +kernel, rfl, by decide +kernel, by decide +kernel⟩
abbrev s_all_of_one_first : Stmt := topS 27
abbrev NN_all_of_one_first : List Str := [("parts" : Str), ("word" : Str), ("entries" : Str), ("cuts" : Str), ("fills" : Str), ("hand" : Str), ("early" : Str), ("late" : Str)]
theorem sc_all_of_one_first : FnScope NN_all_of_one_first ["parts", "word"] (defScope s_all_of_one_first) := ⟨rfl, rfl, rfl, by decide +kernel, rfl, by decide +kernel, by decide +kernel⟩
abbrev s_long_may : Stmt := topS 28
abbrev NN_long_may : List Str := [("dune" : Str), ("cutter" : Str), ("filler" : Str), ("parts" : Str)]
theorem sc_long_may : FnScope NN_long_may ["dune", "cutter", "filler"] (defScope s_long_may) := ⟨rfl, rfl, rfl, by decide +kernel, rfl, by decide +kernel, by decide +kernel⟩
abbrev s_outcome : Stmt := topS 30
abbrev NN_outcome : List Str := [("dune" : Str), ("entry" : Str)]
theorem sc_outcome : FnScope NN_outcome ["dune", "entry"] (defScope s_outcome) := ⟨rfl, rfl, rfl, by decide +kernel, rfl, by decide +kernel, by decide +kernel⟩
abbrev s_rises : Stmt := topS 33
abbrev NN_rises : List Str := [("one" : Str), ("other" : Str), ("here" : Str), ("there" : Str)]
theorem sc_rises : FnScope NN_rises ["one", "other"] (defScope s_rises) := ⟨rfl, rfl, rfl, by decide +kernel, rfl, by decide +kernel, by decide +kernel⟩
abbrev s_gaps : Stmt := topS 34
abbrev NN_gaps : List Str := [("one" : Str), ("other" : Str), ("rise" : Str)]
theorem sc_gaps : FnScope NN_gaps ["one", "other"] (defScope s_gaps) := ⟨rfl, rfl, rfl, by decide +kernel, rfl, by decide +kernel, by decide +kernel⟩
abbrev s_width : Stmt := topS 35
abbrev NN_width : List Str := [("one" : Str), ("other" : Str)]
theorem sc_width : FnScope NN_width ["one", "other"] (defScope s_width) := ⟨rfl, rfl, rfl, by decide +kernel, rfl, by decide +kernel, by decide +kernel⟩
abbrev s_is_below : Stmt := topS 36
abbrev NN_is_below : List Str := [("one" : Str), ("other" : Str)]
theorem sc_is_below : FnScope NN_is_below ["one", "other"] (defScope s_is_below) := ⟨rfl, rfl, rfl, by decide +kernel, rfl, by decide +kernel, by decide +kernel⟩
abbrev s__law_cell_at : Stmt := topS 38
abbrev NN__law_cell_at : List Str := [("_law_script" : Str), ("_law_k" : Str)]
theorem sc__law_cell_at : FnScope NN__law_cell_at ["_law_script", "_law_k"] (defScope s__law_cell_at) := ⟨rfl, rfl, rfl, by decide +kernel, rfl, by decide +kernel, by decide +kernel⟩
abbrev s__law_box : Stmt := topS 39
abbrev NN__law_box : List Str := [("_law_script" : Str), ("_law_k" : Str), ("_law_cell" : Str)]
theorem sc__law_box : FnScope NN__law_box ["_law_script", "_law_k"] (defScope s__law_box) := ⟨rfl, rfl, rfl, by decide +kernel, rfl, by decide +kernel, by decide +kernel⟩
abbrev s__law_take : Stmt := topS 40
abbrev NN__law_take : List Str := [("_law_box_here" : Str), ("_law_size" : Str), ("_law_told" : Str), ("_law_once" : Str), ("_law_twice" : Str)]
theorem sc__law_take : FnScope NN__law_take ["_law_box_here", "_law_size"] (defScope s__law_take) := ⟨rfl, rfl, rfl, by decide +kernel, rfl, by decide +kernel, by decide +kernel⟩
abbrev s__law_same : Stmt := topS 41
abbrev NN__law_same : List Str := [("_law_told" : Str), ("_law_due" : Str), ("_law_one" : Str), ("_law_two" : Str)]
theorem sc__law_same : FnScope NN__law_same ["_law_told", "_law_due"] (defScope s__law_same) := ⟨rfl, rfl, rfl, by decide +kernel, rfl, by decide +kernel, by decide +kernel⟩
abbrev s__law_dune : Stmt := topS 42
abbrev NN__law_dune : List Str := [("_law_box_here" : Str), ("_law_size" : Str), ("_law_many" : Str), ("_law_wide" : Str), ("_law_told" : Str), ("_law_post" : Str)]
theorem sc__law_dune : FnScope NN__law_dune ["_law_box_here", "_law_size"] (defScope s__law_dune) := ⟨rfl, rfl, rfl, by decide +kernel, rfl, by decide +kernel, by decide +kernel⟩
abbrev s__law_slope : Stmt := topS 43
abbrev NN__law_slope : List Str := [("_law_box_here" : Str)]
theorem sc__law_slope : FnScope NN__law_slope ["_law_box_here"] (defScope s__law_slope) := ⟨rfl, rfl, rfl, by decide +kernel, rfl, by decide +kernel, by decide +kernel⟩
abbrev s__law_entry : Stmt := topS 44
abbrev NN__law_entry : List Str := [("_law_box_here" : Str), ("_law_posts" : Str), ("_law_way" : Str), ("_law_by" : Str), ("_law_wind" : Str)]
theorem sc__law_entry : FnScope NN__law_entry ["_law_box_here", "_law_posts"] (defScope s__law_entry) := ⟨rfl, rfl, rfl, by decide +kernel, rfl, by decide +kernel, by decide +kernel⟩
abbrev s__law_do_one : Stmt := topS 45
abbrev NN__law_do_one : List Str := [("_law_yard" : Str), ("_law_entry_here" : Str)]
theorem sc__law_do_one : FnScope NN__law_do_one ["_law_yard", "_law_entry_here"] (defScope s__law_do_one) := ⟨rfl, rfl, rfl, by decide +kernel, rfl, by decide +kernel, by decide +kernel⟩
abbrev s__law_turned : Stmt := topS 46
abbrev NN__law_turned : List Str := [("_law_entry_here" : Str)]
theorem sc__law_turned : FnScope NN__law_turned ["_law_entry_here"] (defScope s__law_turned) := ⟨rfl, rfl, rfl, by decide +kernel, rfl, by decide +kernel, by decide +kernel⟩
abbrev s__law_right : Stmt := topS 47
abbrev NN__law_right : List Str := [("_law_box_here" : Str), ("_law_one" : Str), ("_law_post" : Str), ("_law_far" : Str), ("_law_height" : Str), ("_law_more" : Str), ("_law_other" : Str), ("_law_any_one" : Str), ("_law_yards" : Str), ("_law_turn" : Str), ("_law_k" : Str), ("_law_apart" : Str), ("_law_yard" : Str), ("_law_entry_here" : Str), ("_law_told" : Str), ("_law_later" : Str), ("_law_two" : Str), ("_law_gap" : Str), ("_law_pairs" : Str)]
theorem sc__law_right : FnScope NN__law_right ["_law_box_here"] (defScope s__law_right) := ⟨rfl, rfl, rfl, by decide +kernel, rfl, by decide +kernel, by decide +kernel⟩
abbrev s_law : Stmt := topS 48
abbrev NN_law : List Str := [("_law_script" : Str), ("_law_k" : Str)]
theorem sc_law : FnScope NN_law ["_law_script"] (defScope s_law) := ⟨rfl, rfl, rfl, by decide +kernel, rfl, by decide +kernel, by decide +kernel⟩
abbrev s_Yard___init__ : Stmt := inS (topS 31) 0
abbrev NN_Yard___init__ : List Str := [("self" : Str), ("dune" : Str)]
theorem sc_Yard___init__ : FnScope NN_Yard___init__ ["self", "dune"] (defScope s_Yard___init__) := ⟨rfl, rfl, rfl, by decide +kernel, rfl, by decide +kernel, by decide +kernel⟩
abbrev s_Yard___len__ : Stmt := inS (topS 31) 2
abbrev s_Yard___repr__ : Stmt := inS (topS 31) 3
abbrev s_Yard_blow : Stmt := inS (topS 31) 4
abbrev NN_Yard_blow : List Str := [("self" : Str), ("word" : Str), ("slope" : Str)]
theorem sc_Yard_blow : FnScope NN_Yard_blow ["self", "word", "slope"] (defScope s_Yard_blow) := ⟨rfl, rfl, rfl, by decide +kernel, rfl, by decide +kernel, by decide +kernel⟩
abbrev s_Yard_hand : Stmt := inS (topS 31) 5
abbrev NN_Yard_hand : List Str := [("self" : Str), ("post" : Str), ("by" : Str)]
theorem sc_Yard_hand : FnScope NN_Yard_hand ["self", "post", "by"] (defScope s_Yard_hand) := ⟨rfl, rfl, rfl, by decide +kernel, rfl, by decide +kernel, by decide +kernel⟩
abbrev s_Yard_do : Stmt := inS (topS 31) 6
abbrev s_Yard_do_all : Stmt := inS (topS 31) 7
abbrev NN_Yard_do_all : List Str := [("self" : Str), ("entries" : Str), ("now" : Str), ("told" : Str), ("entry" : Str), ("word" : Str), ("what" : Str)]
theorem sc_Yard_do_all : FnScope NN_Yard_do_all ["self", "entries"] (defScope s_Yard_do_all) := ⟨rfl, rfl, rfl, by decide +kernel, rfl, by decide +kernel, by decide +kernel⟩
abbrev s_Yard_undo : Stmt := inS (topS 31) 8
abbrev NN_Yard_undo : List Str := [("self" : Str), ("stands" : Str)]
theorem sc_Yard_undo : FnScope NN_Yard_undo ["self"] (defScope s_Yard_undo) := ⟨rfl, rfl, rfl, by decide +kernel, rfl, by decide +kernel, by decide +kernel⟩
abbrev s_Yard_dune : Stmt := inS (topS 31) 9
abbrev NN_Yard_dune : List Str := [("self" : Str)]
theorem sc_Yard_dune : FnScope NN_Yard_dune ["self"] (defScope s_Yard_dune) := ⟨rfl, rfl, rfl, by decide +kernel, rfl, by decide +kernel, by decide +kernel⟩
abbrev s_Yard_first : Stmt := inS (topS 31) 10
abbrev s_Yard_entries : Stmt := inS (topS 31) 11
abbrev NN_Yard_entries : List Str := [("self" : Str), ("deed" : Str), ("entry" : Str)]
theorem sc_Yard_entries : FnScope NN_Yard_entries ["self"] (defScope s_Yard_entries) := ⟨rfl, rfl, rfl, by decide +kernel, rfl, by decide +kernel, by decide +kernel⟩
abbrev s_Yard_kept_by : Stmt := inS (topS 31) 12
abbrev NN_Yard_kept_by : List Str := [("self" : Str), ("word" : Str)]
theorem sc_Yard_kept_by : FnScope NN_Yard_kept_by ["self", "word"] (defScope s_Yard_kept_by) := ⟨rfl, rfl, rfl, by decide +kernel, rfl, by decide +kernel, by decide +kernel⟩
abbrev s_Yard_may : Stmt := inS (topS 31) 13
abbrev NN_Yard_may : List Str := [("self" : Str)]
theorem sc_Yard_may : FnScope NN_Yard_may ["self"] (defScope s_Yard_may) := ⟨rfl, rfl, rfl, by decide +kernel, rfl, by decide +kernel, by decide +kernel⟩
abbrev s_Yard_deeds : Stmt := inS (topS 31) 15
set_option maxHeartbeats 4000000 in
structure Tx (K : PySem.W.Frag) (mg : Str → Option Value) where
  C_Yard : Addr
  c_Yard : L2.Cls K C_Yard
  m_Yard : mg "Yard" = some (.ref C_Yard)
  na_origin : L2.NoAttr K C_Yard "origin"
  na_standing : L2.NoAttr K C_Yard "standing"
  na_notes : L2.NoAttr K C_Yard "notes"
  f__wall : Addr
  fd__wall : FuncData
  F__wall : Fun K "_wall" "_wall" s__wall f__wall fd__wall
  m__wall : mg "_wall" = some (.ref f__wall)
  b__wall : L2.Binds K fd__wall ["k"] []
  f_sand : Addr
  fd_sand : FuncData
  F_sand : Fun K "sand" "sand" s_sand f_sand fd_sand
  m_sand : mg "sand" = some (.ref f_sand)
  b_sand : L2.Binds K fd_sand ["dune"] []
  f_mirrored : Addr
  fd_mirrored : FuncData
  F_mirrored : Fun K "mirrored" "mirrored" s_mirrored f_mirrored fd_mirrored
  m_mirrored : mg "mirrored" = some (.ref f_mirrored)
  b_mirrored : L2.Binds K fd_mirrored ["dune"] []
  f_upside : Addr
  fd_upside : FuncData
  F_upside : Fun K "upside" "upside" s_upside f_upside fd_upside
  m_upside : mg "upside" = some (.ref f_upside)
  b_upside : L2.Binds K fd_upside ["dune"] []
  f_handed : Addr
  fd_handed : FuncData
  F_handed : Fun K "handed" "handed" s_handed f_handed fd_handed
  m_handed : mg "handed" = some (.ref f_handed)
  b_handed : L2.Binds K fd_handed ["dune", "post", "by"] []
  f_blown : Addr
  fd_blown : FuncData
  F_blown : Fun K "blown" "blown" s_blown f_blown fd_blown
  m_blown : mg "blown" = some (.ref f_blown)
  b_blown : L2.Binds K fd_blown ["dune", "wind"] []
  f_cut_to : Addr
  fd_cut_to : FuncData
  F_cut_to : Fun K "cut_to" "cut_to" s_cut_to f_cut_to fd_cut_to
  m_cut_to : mg "cut_to" = some (.ref f_cut_to)
  b_cut_to : L2.Binds K fd_cut_to ["dune", "slope"] []
  f_cut_onward : Addr
  fd_cut_onward : FuncData
  F_cut_onward : Fun K "cut_onward" "cut_onward" s_cut_onward f_cut_onward fd_cut_onward
  m_cut_onward : mg "cut_onward" = some (.ref f_cut_onward)
  b_cut_onward : L2.Binds K fd_cut_onward ["dune", "slope"] []
  f_days : Addr
  fd_days : FuncData
  F_days : Fun K "days" "days" s_days f_days fd_days
  m_days : mg "days" = some (.ref f_days)
  b_days : L2.Binds K fd_days ["dune", "almanac"] []
  f_amount : Addr
  fd_amount : FuncData
  F_amount : Fun K "amount" "amount" s_amount f_amount fd_amount
  m_amount : mg "amount" = some (.ref f_amount)
  b_amount : L2.Binds K fd_amount ["wind", "ahead", "after"] []
  f_amounts : Addr
  fd_amounts : FuncData
  F_amounts : Fun K "amounts" "amounts" s_amounts f_amounts fd_amounts
  m_amounts : mg "amounts" = some (.ref f_amounts)
  b_amounts : L2.Binds K fd_amounts ["dune", "almanac"] []
  f_almanac_of : Addr
  fd_almanac_of : FuncData
  F_almanac_of : Fun K "almanac_of" "almanac_of" s_almanac_of f_almanac_of fd_almanac_of
  m_almanac_of : mg "almanac_of" = some (.ref f_almanac_of)
  b_almanac_of : L2.Binds K fd_almanac_of ["cuts", "fills", "order"] []
  f_is_hand : Addr
  fd_is_hand : FuncData
  F_is_hand : Fun K "is_hand" "is_hand" s_is_hand f_is_hand fd_is_hand
  m_is_hand : mg "is_hand" = some (.ref f_is_hand)
  b_is_hand : L2.Binds K fd_is_hand ["entry"] []
  f_done : Addr
  fd_done : FuncData
  F_done : Fun K "done" "done" s_done f_done fd_done
  m_done : mg "done" = some (.ref f_done)
  b_done : L2.Binds K fd_done ["dune", "entries"] []
  f_entries_with : Addr
  fd_entries_with : FuncData
  F_entries_with : Fun K "entries_with" "entries_with" s_entries_with f_entries_with fd_entries_with
  m_entries_with : mg "entries_with" = some (.ref f_entries_with)
  b_entries_with : L2.Binds K fd_entries_with ["entries", "words"] []
  f_slopes_between : Addr
  fd_slopes_between : FuncData
  F_slopes_between : Fun K "slopes_between" "slopes_between" s_slopes_between f_slopes_between fd_slopes_between
  m_slopes_between : mg "slopes_between" = some (.ref f_slopes_between)
  b_slopes_between : L2.Binds K fd_slopes_between ["book"] []
  f_same_hands : Addr
  fd_same_hands : FuncData
  F_same_hands : Fun K "same_hands" "same_hands" s_same_hands f_same_hands fd_same_hands
  m_same_hands : mg "same_hands" = some (.ref f_same_hands)
  b_same_hands : L2.Binds K fd_same_hands ["cutter", "filler"] []
  f_stretches : Addr
  fd_stretches : FuncData
  F_stretches : Fun K "stretches" "stretches" s_stretches f_stretches fd_stretches
  m_stretches : mg "stretches" = some (.ref f_stretches)
  b_stretches : L2.Binds K fd_stretches ["cutter", "filler"] []
  f_all_of_one_first : Addr
  fd_all_of_one_first : FuncData
  F_all_of_one_first : Fun K "all_of_one_first" "all_of_one_first" s_all_of_one_first f_all_of_one_first fd_all_of_one_first
  m_all_of_one_first : mg "all_of_one_first" = some (.ref f_all_of_one_first)
  b_all_of_one_first : L2.Binds K fd_all_of_one_first ["parts", "word"] []
  f_long_may : Addr
  fd_long_may : FuncData
  F_long_may : Fun K "long_may" "long_may" s_long_may f_long_may fd_long_may
  m_long_may : mg "long_may" = some (.ref f_long_may)
  b_long_may : L2.Binds K fd_long_may ["dune", "cutter", "filler"] []
  f_outcome : Addr
  fd_outcome : FuncData
  F_outcome : Fun K "outcome" "outcome" s_outcome f_outcome fd_outcome
  m_outcome : mg "outcome" = some (.ref f_outcome)
  b_outcome : L2.Binds K fd_outcome ["dune", "entry"] []
  f_rises : Addr
  fd_rises : FuncData
  F_rises : Fun K "rises" "rises" s_rises f_rises fd_rises
  m_rises : mg "rises" = some (.ref f_rises)
  b_rises : L2.Binds K fd_rises ["one", "other"] []
  f_gaps : Addr
  fd_gaps : FuncData
  F_gaps : Fun K "gaps" "gaps" s_gaps f_gaps fd_gaps
  m_gaps : mg "gaps" = some (.ref f_gaps)
  b_gaps : L2.Binds K fd_gaps ["one", "other"] []
  f_width : Addr
  fd_width : FuncData
  F_width : Fun K "width" "width" s_width f_width fd_width
  m_width : mg "width" = some (.ref f_width)
  b_width : L2.Binds K fd_width ["one", "other"] []
  f_is_below : Addr
  fd_is_below : FuncData
  F_is_below : Fun K "is_below" "is_below" s_is_below f_is_below fd_is_below
  m_is_below : mg "is_below" = some (.ref f_is_below)
  b_is_below : L2.Binds K fd_is_below ["one", "other"] []
  f__law_cell_at : Addr
  fd__law_cell_at : FuncData
  F__law_cell_at : Fun K "_law_cell_at" "_law_cell_at" s__law_cell_at f__law_cell_at fd__law_cell_at
  m__law_cell_at : mg "_law_cell_at" = some (.ref f__law_cell_at)
  b__law_cell_at : L2.Binds K fd__law_cell_at ["_law_script", "_law_k"] []
  f__law_box : Addr
  fd__law_box : FuncData
  F__law_box : Fun K "_law_box" "_law_box" s__law_box f__law_box fd__law_box
  m__law_box : mg "_law_box" = some (.ref f__law_box)
  b__law_box : L2.Binds K fd__law_box ["_law_script", "_law_k"] []
  f__law_take : Addr
  fd__law_take : FuncData
  F__law_take : Fun K "_law_take" "_law_take" s__law_take f__law_take fd__law_take
  m__law_take : mg "_law_take" = some (.ref f__law_take)
  b__law_take : L2.Binds K fd__law_take ["_law_box_here", "_law_size"] []
  f__law_same : Addr
  fd__law_same : FuncData
  F__law_same : Fun K "_law_same" "_law_same" s__law_same f__law_same fd__law_same
  m__law_same : mg "_law_same" = some (.ref f__law_same)
  b__law_same : L2.Binds K fd__law_same ["_law_told", "_law_due"] []
  f__law_dune : Addr
  fd__law_dune : FuncData
  F__law_dune : Fun K "_law_dune" "_law_dune" s__law_dune f__law_dune fd__law_dune
  m__law_dune : mg "_law_dune" = some (.ref f__law_dune)
  b__law_dune : L2.Binds K fd__law_dune ["_law_box_here", "_law_size"] []
  f__law_slope : Addr
  fd__law_slope : FuncData
  F__law_slope : Fun K "_law_slope" "_law_slope" s__law_slope f__law_slope fd__law_slope
  m__law_slope : mg "_law_slope" = some (.ref f__law_slope)
  b__law_slope : L2.Binds K fd__law_slope ["_law_box_here"] []
  f__law_entry : Addr
  fd__law_entry : FuncData
  F__law_entry : Fun K "_law_entry" "_law_entry" s__law_entry f__law_entry fd__law_entry
  m__law_entry : mg "_law_entry" = some (.ref f__law_entry)
  b__law_entry : L2.Binds K fd__law_entry ["_law_box_here", "_law_posts"] []
  f__law_do_one : Addr
  fd__law_do_one : FuncData
  F__law_do_one : Fun K "_law_do_one" "_law_do_one" s__law_do_one f__law_do_one fd__law_do_one
  m__law_do_one : mg "_law_do_one" = some (.ref f__law_do_one)
  b__law_do_one : L2.Binds K fd__law_do_one ["_law_yard", "_law_entry_here"] []
  f__law_turned : Addr
  fd__law_turned : FuncData
  F__law_turned : Fun K "_law_turned" "_law_turned" s__law_turned f__law_turned fd__law_turned
  m__law_turned : mg "_law_turned" = some (.ref f__law_turned)
  b__law_turned : L2.Binds K fd__law_turned ["_law_entry_here"] []
  f__law_right : Addr
  fd__law_right : FuncData
  F__law_right : Fun K "_law_right" "_law_right" s__law_right f__law_right fd__law_right
  m__law_right : mg "_law_right" = some (.ref f__law_right)
  b__law_right : L2.Binds K fd__law_right ["_law_box_here"] []
  f_law : Addr
  fd_law : FuncData
  F_law : Fun K "law" "law" s_law f_law fd_law
  m_law : mg "law" = some (.ref f_law)
  b_law : L2.Binds K fd_law ["_law_script"] []
  f_Yard___init__ : Addr
  fd_Yard___init__ : FuncData
  F_Yard___init__ : Fun K "__init__" "Yard.__init__" s_Yard___init__ f_Yard___init__ fd_Yard___init__
  mt_Yard___init__ : L2.Meth K C_Yard "__init__" f_Yard___init__
  b_Yard___init__ : L2.Binds K fd_Yard___init__ ["self", "dune"] []
  mk_Yard : L2.Mk K C_Yard f_Yard___init__
  f_Yard___len__ : Addr
  fd_Yard___len__ : FuncData
  F_Yard___len__ : Fun K "__len__" "Yard.__len__" s_Yard___len__ f_Yard___len__ fd_Yard___len__
  mt_Yard___len__ : L2.Meth K C_Yard "__len__" f_Yard___len__
  b_Yard___len__ : L2.Binds K fd_Yard___len__ ["self"] []
  f_Yard___repr__ : Addr
  fd_Yard___repr__ : FuncData
  F_Yard___repr__ : Fun K "__repr__" "Yard.__repr__" s_Yard___repr__ f_Yard___repr__ fd_Yard___repr__
  mt_Yard___repr__ : L2.Meth K C_Yard "__repr__" f_Yard___repr__
  b_Yard___repr__ : L2.Binds K fd_Yard___repr__ ["self"] []
  f_Yard_blow : Addr
  fd_Yard_blow : FuncData
  F_Yard_blow : Fun K "blow" "Yard.blow" s_Yard_blow f_Yard_blow fd_Yard_blow
  mt_Yard_blow : L2.Meth K C_Yard "blow" f_Yard_blow
  b_Yard_blow : L2.Binds K fd_Yard_blow ["self", "word", "slope"] []
  f_Yard_hand : Addr
  fd_Yard_hand : FuncData
  F_Yard_hand : Fun K "hand" "Yard.hand" s_Yard_hand f_Yard_hand fd_Yard_hand
  mt_Yard_hand : L2.Meth K C_Yard "hand" f_Yard_hand
  b_Yard_hand : L2.Binds K fd_Yard_hand ["self", "post", "by"] []
  f_Yard_do : Addr
  fd_Yard_do : FuncData
  F_Yard_do : Fun K "do" "Yard.do" s_Yard_do f_Yard_do fd_Yard_do
  mt_Yard_do : L2.Meth K C_Yard "do" f_Yard_do
  b_Yard_do : L2.Binds K fd_Yard_do ["self", "deeds"] []
  f_Yard_do_all : Addr
  fd_Yard_do_all : FuncData
  F_Yard_do_all : Fun K "do_all" "Yard.do_all" s_Yard_do_all f_Yard_do_all fd_Yard_do_all
  mt_Yard_do_all : L2.Meth K C_Yard "do_all" f_Yard_do_all
  b_Yard_do_all : L2.Binds K fd_Yard_do_all ["self", "entries"] []
  f_Yard_undo : Addr
  fd_Yard_undo : FuncData
  F_Yard_undo : Fun K "undo" "Yard.undo" s_Yard_undo f_Yard_undo fd_Yard_undo
  mt_Yard_undo : L2.Meth K C_Yard "undo" f_Yard_undo
  b_Yard_undo : L2.Binds K fd_Yard_undo ["self"] []
  f_Yard_dune : Addr
  fd_Yard_dune : FuncData
  F_Yard_dune : Fun K "dune" "Yard.dune" s_Yard_dune f_Yard_dune fd_Yard_dune
  mt_Yard_dune : L2.Meth K C_Yard "dune" f_Yard_dune
  b_Yard_dune : L2.Binds K fd_Yard_dune ["self"] []
  f_Yard_first : Addr
  fd_Yard_first : FuncData
  F_Yard_first : Fun K "first" "Yard.first" s_Yard_first f_Yard_first fd_Yard_first
  mt_Yard_first : L2.Meth K C_Yard "first" f_Yard_first
  b_Yard_first : L2.Binds K fd_Yard_first ["self"] []
  f_Yard_entries : Addr
  fd_Yard_entries : FuncData
  F_Yard_entries : Fun K "entries" "Yard.entries" s_Yard_entries f_Yard_entries fd_Yard_entries
  mt_Yard_entries : L2.Meth K C_Yard "entries" f_Yard_entries
  b_Yard_entries : L2.Binds K fd_Yard_entries ["self"] []
  f_Yard_kept_by : Addr
  fd_Yard_kept_by : FuncData
  F_Yard_kept_by : Fun K "kept_by" "Yard.kept_by" s_Yard_kept_by f_Yard_kept_by fd_Yard_kept_by
  mt_Yard_kept_by : L2.Meth K C_Yard "kept_by" f_Yard_kept_by
  b_Yard_kept_by : L2.Binds K fd_Yard_kept_by ["self", "word"] []
  f_Yard_may : Addr
  fd_Yard_may : FuncData
  F_Yard_may : Fun K "may" "Yard.may" s_Yard_may f_Yard_may fd_Yard_may
  mt_Yard_may : L2.Meth K C_Yard "may" f_Yard_may
  b_Yard_may : L2.Binds K fd_Yard_may ["self"] []
  f_Yard_deeds : Addr
  fd_Yard_deeds : FuncData
  F_Yard_deeds : Fun K "deeds" "Yard.deeds" s_Yard_deeds f_Yard_deeds fd_Yard_deeds
  mt_Yard_deeds : L2.Meth K C_Yard "deeds" f_Yard_deeds
  b_Yard_deeds : L2.Binds K fd_Yard_deeds ["self"] []
  z_abs : mg "abs" = none
  z_all : mg "all" = none
  z_any : mg "any" = none
  z_bool : mg "bool" = none
  z_enumerate : mg "enumerate" = none
  z_int : mg "int" = none
  z_isinstance : mg "isinstance" = none
  z_len : mg "len" = none
  z_list : mg "list" = none
  z_max : mg "max" = none
  z_min : mg "min" = none
  z_range : mg "range" = none
  z_set : mg "set" = none
  z_str : mg "str" = none
  z_sum : mg "sum" = none
  z_tuple : mg "tuple" = none
  z_zip : mg "zip" = none
section
variable {P : Program} {w : World} {K : PySem.W.Frag} {mg : Str → Option Value} {base : Heap} (Z : Tx K mg)
include Z
set_option maxHeartbeats 4000000 in
theorem bd_sand {k : Nat} : ∀ (cdv : Value) (A : Around) (outer : List Env) (s : Shared) (H : Hp) (E : XK), Room k (A.deeper (envOfC "sand" (defScope s_sand) s.heap.objs.size Z.f_sand cdv)) → ∃ t, PPSs (cxOf CX0 P w K mg base NN_sand "sand" (defScope s_sand) Z.f_sand cdv A outer s H E).nox (defBody s_sand) t (T_sand) :=
  fun cdv A outer s H E hr => ⟨_, (ppss_one (pps_ret (ppc_val (ppe_callB (cr_sumA rfl) cp_sumA (by rfl) Z.z_sum (by decide +kernel) (ppa_cons (ppe_var 0) ppa_nil)))))⟩
set_option maxHeartbeats 4000000 in
theorem bd_mirrored {k : Nat} : ∀ (cdv : Value) (A : Around) (outer : List Env) (s : Shared) (H : Hp) (E : XK), Room k (A.deeper (envOfC "mirrored" (defScope s_mirrored) s.heap.objs.size Z.f_mirrored cdv)) → ∃ t, PPSs (cxOf CX0 P w K mg base NN_mirrored "mirrored" (defScope s_mirrored) Z.f_mirrored cdv A outer s H E).nox (defBody s_mirrored) t (T_mirrored) :=
  fun cdv A outer s H E hr => ⟨_, (ppss_one (pps_ret (ppc_val (ppe_callTy call_tuple_of cp_tup (by rfl) Z.z_tuple (by decide +kernel) (ppa_cons (ppe_rev (ppe_var 0)) ppa_nil)))))⟩
set_option maxHeartbeats 4000000 in
theorem bd_upside {k : Nat} : ∀ (cdv : Value) (A : Around) (outer : List Env) (s : Shared) (H : Hp) (E : XK), Room k (A.deeper (envOfC "upside" (defScope s_upside) s.heap.objs.size Z.f_upside cdv)) → ∃ t, PPSs (cxOf CX0 P w K mg base NN_upside "upside" (defScope s_upside) Z.f_upside cdv A outer s H E).nox (defBody s_upside) t (T_upside) :=
  fun cdv A outer s H E hr => ⟨_, (ppss_one (pps_ret (ppc_val (ppe_callTy call_tuple_of cp_tup (by rfl) Z.z_tuple (by decide +kernel) (ppa_cons (ppe_lcL (own := [("height", 1)]) rfl sc_upside.nd (ppi_seq (ppe_var 0)) (blkOk_by (N := NN_upside) (sc := defScope s_upside) (by decide +kernel)) (fun _ _ _ _ _ => ((ptg_name (i := 1) sc_upside.nd)).lift) (fun _ _ _ _ _ => (ppts_nil).lift) (fun _ _ _ _ _ => ((ppe_neg (ppe_var 1))).lift)) ppa_nil)))))⟩
set_option maxHeartbeats 4000000 in
theorem bd_handed {k : Nat} : ∀ (cdv : Value) (A : Around) (outer : List Env) (s : Shared) (H : Hp) (E : XK), Room k (A.deeper (envOfC "handed" (defScope s_handed) s.heap.objs.size Z.f_handed cdv)) → ∃ t, PPSs (cxOf CX0 P w K mg base NN_handed "handed" (defScope s_handed) Z.f_handed cdv A outer s H E).nox (defBody s_handed) t (T_handed) :=
  fun cdv A outer s H E hr => ⟨_, (ppss_cons (pps_if (ppt_not (ppt_chain cm_le cm_lt ppe_int (ppe_var 1) (ppe_lenO 0 (by rfl) Z.z_len)))
    (ppss_one pps_never)
    ppss_nil)
    (ppss_one (pps_ret (ppc_val (ppe_callTy call_tuple_of cp_tup (by rfl) Z.z_tuple (by decide +kernel) (ppa_cons (ppe_lcL (own := [("at", 3), ("height", 4)]) rfl sc_handed.nd (ppi_e (by rfl) Z.z_enumerate (ppa_cons (ppe_var 0) ppa_nil)) (blkOk_by (N := NN_handed) (sc := defScope s_handed) (by decide +kernel)) (fun _ _ _ _ _ => ((ptg_tup (n := 2) rfl (ptgs_cons (ptg_name (i := 3) sc_handed.nd) (ptgs_cons (ptg_name (i := 4) sc_handed.nd) ptgs_nil)))).lift) (fun _ _ _ _ _ => (ppts_nil).lift) (fun _ _ _ _ _ => ((ppe_ifExp (ppt_cmp (cm_eq (hu64 hr)) (ppe_var 3) (ppe_var 1) (nomark _)) (ppe_add (ppe_var 4) (ppe_var 2)) (ppe_var 4))).lift)) ppa_nil))))))⟩
set_option maxHeartbeats 4000000 in
theorem bd_blown {k : Nat} {g_upside : FA} (O_upside : FnOk P w K mg base CX0 k Z.f_upside Z.fd_upside [("dune" : Str)] (spA K 1 g_upside)) {g_cut_to : FA} (O_cut_to : FnOk P w K mg base CX0 k Z.f_cut_to Z.fd_cut_to [("dune" : Str), ("slope" : Str)] (spA K 2 g_cut_to)) : ∀ (cdv : Value) (A : Around) (outer : List Env) (s : Shared) (H : Hp) (E : XK), Room k (A.deeper (envOfC "blown" (defScope s_blown) s.heap.objs.size Z.f_blown cdv)) → ∃ t, PPSs (cxOf CX0 P w K mg base NN_blown "blown" (defScope s_blown) Z.f_blown cdv A outer s H E).nox (defBody s_blown) t (T_blown g_upside g_cut_to) :=
  fun cdv A outer s H E hr => ⟨_, (ppss_cons (pps_asg (ppe_var 1) (ptg_tup (n := 2) rfl (ptgs_cons (ptg_name (i := 2) sc_blown.nd) (ptgs_cons (ptg_name (i := 3) sc_blown.nd) ptgs_nil))))
    (ppss_cons (pps_if (ppt_cmp (cm_eq (hu64 hr)) (ppe_var 2) ppe_str (nomark _))
    (ppss_one (pps_ret (ppc_callA O_cut_to hr (by rfl) Z.m_cut_to Z.F_cut_to.kp Z.b_cut_to (ppa_cons (ppe_var 0) (ppa_cons (ppe_var 3) ppa_nil)))))
    ppss_nil)
    (ppss_one (pps_ret (ppc_callA O_upside hr (by rfl) Z.m_upside Z.F_upside.kp Z.b_upside (ppa_cons (ppe_frz (ppc_callA O_cut_to hr (by rfl) Z.m_cut_to Z.F_cut_to.kp Z.b_cut_to (ppa_cons (ppe_frz (ppc_callA O_upside hr (by rfl) Z.m_upside Z.F_upside.kp Z.b_upside (ppa_cons (ppe_var 0) ppa_nil))) (ppa_cons (ppe_var 3) ppa_nil)))) ppa_nil))))))⟩
set_option maxHeartbeats 4000000 in
theorem bd_cut_to {k : Nat} {g_mirrored : FA} (O_mirrored : FnOk P w K mg base CX0 k Z.f_mirrored Z.fd_mirrored [("dune" : Str)] (spA K 1 g_mirrored)) {g_cut_onward : FA} (O_cut_onward : FnOk P w K mg base CX0 k Z.f_cut_onward Z.fd_cut_onward [("dune" : Str), ("slope" : Str)] (spA K 2 g_cut_onward)) : ∀ (cdv : Value) (A : Around) (outer : List Env) (s : Shared) (H : Hp) (E : XK), Room k (A.deeper (envOfC "cut_to" (defScope s_cut_to) s.heap.objs.size Z.f_cut_to cdv)) → ∃ t, PPSs (cxOf CX0 P w K mg base NN_cut_to "cut_to" (defScope s_cut_to) Z.f_cut_to cdv A outer s H E).nox (defBody s_cut_to) t (T_cut_to g_mirrored g_cut_onward) :=
  fun cdv A outer s H E hr => ⟨_, (ppss_cons (pps_set (i := 2) sc_cut_to.nd (ppc_callA O_cut_onward hr (by rfl) Z.m_cut_onward Z.F_cut_onward.kp Z.b_cut_onward (ppa_cons (ppe_var 0) (ppa_cons (ppe_var 1) ppa_nil))))
    (ppss_one (pps_ret (ppc_callA O_mirrored hr (by rfl) Z.m_mirrored Z.F_mirrored.kp Z.b_mirrored (ppa_cons (ppe_frz (ppc_callA O_cut_onward hr (by rfl) Z.m_cut_onward Z.F_cut_onward.kp Z.b_cut_onward (ppa_cons (ppe_frz (ppc_callA O_mirrored hr (by rfl) Z.m_mirrored Z.F_mirrored.kp Z.b_mirrored (ppa_cons (ppe_var 2) ppa_nil))) (ppa_cons (ppe_var 1) ppa_nil)))) ppa_nil)))))⟩
set_option maxHeartbeats 4000000 in
theorem bd_cut_onward {k : Nat} : ∀ (cdv : Value) (A : Around) (outer : List Env) (s : Shared) (H : Hp) (E : XK), Room k (A.deeper (envOfC "cut_onward" (defScope s_cut_onward) s.heap.objs.size Z.f_cut_onward cdv)) → ∃ t, PPSs (cxOf CX0 P w K mg base NN_cut_onward "cut_onward" (defScope s_cut_onward) Z.f_cut_onward cdv A outer s H E).nox (defBody s_cut_onward) t (T_cut_onward) :=
  fun cdv A outer s H E hr => ⟨_, (ppss_cons (pps_set (i := 2) sc_cut_onward.nd (ppc_lst (ppa_cons (ppe_ixO 0 ppe_int) ppa_nil)))
    (ppss_cons (pps_for PassesOwn.never rfl (ppi_seq (ppe_slice (ppe_var 0) (ppo_some ppe_int) ppo_none)) (ptg_name (i := 3) sc_cut_onward.nd)
    (ppss_one (pps_append 2 (ppe_callB (call_min2 rfl) cp_min2 (by rfl) Z.z_min (by decide +kernel) (ppa_cons (ppe_var 3) (ppa_cons (ppe_add (ppe_ixO 2 (ppe_neg ppe_int)) (ppe_var 1)) ppa_nil))))))
    (ppss_one (pps_ret (ppc_move 2)))))⟩
set_option maxHeartbeats 4000000 in
theorem bd_days {k : Nat} {g_blown : FA} (O_blown : FnOk P w K mg base CX0 k Z.f_blown Z.fd_blown [("dune" : Str), ("wind" : Str)] (spA K 2 g_blown)) : ∀ (cdv : Value) (A : Around) (outer : List Env) (s : Shared) (H : Hp) (E : XK), Room k (A.deeper (envOfC "days" (defScope s_days) s.heap.objs.size Z.f_days cdv)) → ∃ t, PPSs (cxOf CX0 P w K mg base NN_days "days" (defScope s_days) Z.f_days cdv A outer s H E).nox (defBody s_days) t (T_days g_blown) :=
  fun cdv A outer s H E hr => ⟨_, (ppss_cons (pps_set (i := 2) sc_days.nd (ppc_lst (ppa_cons (ppe_callTy call_tuple_of cp_tup (by rfl) Z.z_tuple (by decide +kernel) (ppa_cons (ppe_var 0) ppa_nil)) ppa_nil)))
    (ppss_cons (pps_for PassesOwn.never rfl (ppi_seq (ppe_var 1)) (ptg_name (i := 3) sc_days.nd)
    (ppss_one (pps_append 2 (ppe_frz (ppc_callA O_blown hr (by rfl) Z.m_blown Z.F_blown.kp Z.b_blown (ppa_cons (ppe_ixO 2 (ppe_neg ppe_int)) (ppa_cons (ppe_var 3) ppa_nil)))))))
    (ppss_one (pps_ret (ppc_move 2)))))⟩
set_option maxHeartbeats 4000000 in
theorem bd_amount {k : Nat} {g_sand : FA} (O_sand : FnOk P w K mg base CX0 k Z.f_sand Z.fd_sand [("dune" : Str)] (spA K 1 g_sand)) : ∀ (cdv : Value) (A : Around) (outer : List Env) (s : Shared) (H : Hp) (E : XK), Room k (A.deeper (envOfC "amount" (defScope s_amount) s.heap.objs.size Z.f_amount cdv)) → ∃ t, PPSs (cxOf CX0 P w K mg base NN_amount "amount" (defScope s_amount) Z.f_amount cdv A outer s H E).nox (defBody s_amount) t (T_amount g_sand) :=
  fun cdv A outer s H E hr => ⟨_, (ppss_cons (pps_set (i := 3) sc_amount.nd (ppc_val (ppe_sub (ppe_frz (ppc_callA O_sand hr (by rfl) Z.m_sand Z.F_sand.kp Z.b_sand (ppa_cons (ppe_var 2) ppa_nil))) (ppe_frz (ppc_callA O_sand hr (by rfl) Z.m_sand Z.F_sand.kp Z.b_sand (ppa_cons (ppe_var 1) ppa_nil))))))
    (ppss_one (pps_ret (ppc_val (ppe_ifExp (ppt_cmp (cm_eq (hu64 hr)) (ppe_ixO 0 ppe_int) ppe_str (nomark _)) (ppe_tup (ppa_cons (ppe_neg (ppe_var 3)) (ppa_cons ppe_int ppa_nil))) (ppe_tup (ppa_cons ppe_int (ppa_cons (ppe_var 3) ppa_nil))))))))⟩
set_option maxHeartbeats 4000000 in
theorem bd_amounts {k : Nat} {g_days : FA} (O_days : FnOk P w K mg base CX0 k Z.f_days Z.fd_days [("dune" : Str), ("almanac" : Str)] (spA K 2 g_days)) {g_amount : FA} (O_amount : FnOk P w K mg base CX0 k Z.f_amount Z.fd_amount [("wind" : Str), ("ahead" : Str), ("after" : Str)] (spA K 3 g_amount)) : ∀ (cdv : Value) (A : Around) (outer : List Env) (s : Shared) (H : Hp) (E : XK), Room k (A.deeper (envOfC "amounts" (defScope s_amounts) s.heap.objs.size Z.f_amounts cdv)) → ∃ t, PPSs (cxOf CX0 P w K mg base NN_amounts "amounts" (defScope s_amounts) Z.f_amounts cdv A outer s H E).nox (defBody s_amounts) t (T_amounts g_days g_amount) :=
  fun cdv A outer s H E hr => ⟨_, (ppss_cons (pps_set (i := 2) sc_amounts.nd (ppc_callA O_days hr (by rfl) Z.m_days Z.F_days.kp Z.b_days (ppa_cons (ppe_var 0) (ppa_cons (ppe_var 1) ppa_nil))))
    (ppss_one (pps_ret (ppc_lcL (own := [("wind", 3), ("ahead", 4), ("after", 5)]) rfl sc_amounts.nd (ppi_z3 (by rfl) Z.z_zip (ppa_cons (ppe_var 1) (ppa_cons (ppe_var 2) (ppa_cons (ppe_slice (ppe_var 2) (ppo_some ppe_int) ppo_none) ppa_nil)))) (blkOk_by (N := NN_amounts) (sc := defScope s_amounts) (by decide +kernel)) (fun _ _ _ _ _ => ((ptg_tup (n := 3) rfl (ptgs_cons (ptg_name (i := 3) sc_amounts.nd) (ptgs_cons (ptg_name (i := 4) sc_amounts.nd) (ptgs_cons (ptg_name (i := 5) sc_amounts.nd) ptgs_nil))))).lift) (fun _ _ _ _ _ => (ppts_nil).lift) (fun _ _ _ _ _ => ((ppe_frz (ppc_callA O_amount hr (by rfl) Z.m_amount Z.F_amount.kp Z.b_amount (ppa_cons (ppe_var 3) (ppa_cons (ppe_var 4) (ppa_cons (ppe_var 5) ppa_nil)))))).lift)))))⟩
set_option maxHeartbeats 4000000 in
theorem bd_almanac_of {k : Nat} : ∀ (cdv : Value) (A : Around) (outer : List Env) (s : Shared) (H : Hp) (E : XK), Room k (A.deeper (envOfC "almanac_of" (defScope s_almanac_of) s.heap.objs.size Z.f_almanac_of cdv)) → ∃ t, PPSs (cxOf CX0 P w K mg base NN_almanac_of "almanac_of" (defScope s_almanac_of) Z.f_almanac_of cdv A outer s H E).nox (defBody s_almanac_of) t (T_almanac_of) :=
  fun cdv A outer s H E hr => ⟨_, (ppss_cons (pps_set (i := 3) sc_almanac_of.nd (ppc_lst ppa_nil))
    (ppss_cons (pps_set (i := 4) sc_almanac_of.nd (ppc_val ppe_int))
    (ppss_cons (pps_set (i := 5) sc_almanac_of.nd (ppc_val ppe_int))
    (ppss_cons (pps_for PassesOwn.never rfl (ppi_str (ppe_var 2)) (ptg_name (i := 6) sc_almanac_of.nd)
    (ppss_one (pps_if (ppt_cmp (cm_eq (hu64 hr)) (ppe_var 6) ppe_str (nomark _))
    (ppss_cons (pps_append 3 (ppe_tup (ppa_cons ppe_str (ppa_cons (ppe_ixO 0 (ppe_var 4)) ppa_nil))))
    (ppss_one (pps_augAdd (i := 4) sc_almanac_of.nd ppe_int)))
    (ppss_cons (pps_append 3 (ppe_tup (ppa_cons ppe_str (ppa_cons (ppe_ixO 1 (ppe_var 5)) ppa_nil))))
    (ppss_one (pps_augAdd (i := 5) sc_almanac_of.nd ppe_int))))))
    (ppss_one (pps_ret (ppc_move 3)))))))⟩
set_option maxHeartbeats 4000000 in
theorem bd_is_hand {k : Nat} : ∀ (cdv : Value) (A : Around) (outer : List Env) (s : Shared) (H : Hp) (E : XK), Room k (A.deeper (envOfC "is_hand" (defScope s_is_hand) s.heap.objs.size Z.f_is_hand cdv)) → ∃ t, PPSs (cxOf CX0 P w K mg base NN_is_hand "is_hand" (defScope s_is_hand) Z.f_is_hand cdv A outer s H E).nox (defBody s_is_hand) t (T_is_hand) :=
  fun cdv A outer s H E hr => ⟨_, (ppss_one (pps_ret (ppc_val (ppe_cmp (cm_eq (hu64 hr)) (ppe_ixO 0 ppe_int) ppe_str (nomark _)))))⟩
set_option maxHeartbeats 4000000 in
theorem bd_done {k : Nat} {g_handed : FA} (O_handed : FnOk P w K mg base CX0 k Z.f_handed Z.fd_handed [("dune" : Str), ("post" : Str), ("by" : Str)] (spA K 3 g_handed)) {g_blown : FA} (O_blown : FnOk P w K mg base CX0 k Z.f_blown Z.fd_blown [("dune" : Str), ("wind" : Str)] (spA K 2 g_blown)) {g_is_hand : FA} (O_is_hand : FnOk P w K mg base CX0 k Z.f_is_hand Z.fd_is_hand [("entry" : Str)] (spA K 1 g_is_hand)) : ∀ (cdv : Value) (A : Around) (outer : List Env) (s : Shared) (H : Hp) (E : XK), Room k (A.deeper (envOfC "done" (defScope s_done) s.heap.objs.size Z.f_done cdv)) → ∃ t, PPSs (cxOf CX0 P w K mg base NN_done "done" (defScope s_done) Z.f_done cdv A outer s H E).nox (defBody s_done) t (T_done g_handed g_blown g_is_hand) :=
  fun cdv A outer s H E hr => ⟨_, (ppss_cons (pps_set (i := 2) sc_done.nd (ppc_val (ppe_callTy call_tuple_of cp_tup (by rfl) Z.z_tuple (by decide +kernel) (ppa_cons (ppe_var 0) ppa_nil))))
    (ppss_cons (pps_for PassesOwn.never rfl (ppi_seq (ppe_var 1)) (ptg_name (i := 3) sc_done.nd)
    (ppss_one (pps_set (i := 2) sc_done.nd (ppc_val (ppe_ifExp (ppt_val (ppe_frz (ppc_callA O_is_hand hr (by rfl) Z.m_is_hand Z.F_is_hand.kp Z.b_is_hand (ppa_cons (ppe_var 3) ppa_nil)))) (ppe_frz (ppc_callA O_handed hr (by rfl) Z.m_handed Z.F_handed.kp Z.b_handed (ppa_cons (ppe_var 2) (ppa_cons (ppe_ixO 3 ppe_int) (ppa_cons (ppe_ixO 3 ppe_int) ppa_nil))))) (ppe_frz (ppc_callA O_blown hr (by rfl) Z.m_blown Z.F_blown.kp Z.b_blown (ppa_cons (ppe_var 2) (ppa_cons (ppe_var 3) ppa_nil)))))))))
    (ppss_one (pps_ret (ppc_move 2)))))⟩
set_option maxHeartbeats 4000000 in
theorem bd_entries_with {k : Nat} : ∀ (cdv : Value) (A : Around) (outer : List Env) (s : Shared) (H : Hp) (E : XK), Room k (A.deeper (envOfC "entries_with" (defScope s_entries_with) s.heap.objs.size Z.f_entries_with cdv)) → ∃ t, PPSs (cxOf CX0 P w K mg base NN_entries_with "entries_with" (defScope s_entries_with) Z.f_entries_with cdv A outer s H E).nox (defBody s_entries_with) t (T_entries_with) :=
  fun cdv A outer s H E hr => ⟨_, (ppss_one (pps_ret (ppc_lcL (own := [("entry", 2)]) rfl sc_entries_with.nd (ppi_seq (ppe_var 0)) (blkOk_by (N := NN_entries_with) (sc := defScope s_entries_with) (by decide +kernel)) (fun _ _ _ _ _ => ((ptg_name (i := 2) sc_entries_with.nd)).lift) (fun _ _ _ _ _ => ((ppts_one (ppt_cmp (cm_inT (hu65 hr)) (ppe_ixO 2 ppe_int) (ppe_var 1) rfl))).lift) (fun _ _ _ _ _ => ((ppe_callTy call_tuple_of cp_tup (by rfl) Z.z_tuple (by decide +kernel) (ppa_cons (ppe_var 2) ppa_nil))).lift))))⟩
set_option maxHeartbeats 4000000 in
theorem bd_slopes_between {k : Nat} {g_is_hand : FA} (O_is_hand : FnOk P w K mg base CX0 k Z.f_is_hand Z.fd_is_hand [("entry" : Str)] (spA K 1 g_is_hand)) : ∀ (cdv : Value) (A : Around) (outer : List Env) (s : Shared) (H : Hp) (E : XK), Room k (A.deeper (envOfC "slopes_between" (defScope s_slopes_between) s.heap.objs.size Z.f_slopes_between cdv)) → ∃ t, PPSs (cxOf CX0 P w K mg base NN_slopes_between "slopes_between" (defScope s_slopes_between) Z.f_slopes_between cdv A outer s H E).nox (defBody s_slopes_between) t (T_slopes_between g_is_hand) :=
  fun cdv A outer s H E hr => ⟨_, (ppss_sb PassesOwn.never rfl sc_slopes_between.nd (ppt_val (ppe_frz (ppc_callA O_is_hand hr (by rfl) Z.m_is_hand Z.F_is_hand.kp Z.b_is_hand (ppa_cons (ppe_var 2) ppa_nil)))) (ppe_ixO 2 ppe_int))⟩
set_option maxHeartbeats 4000000 in
theorem bd_same_hands {k : Nat} {g_entries_with : FA} (O_entries_with : FnOk P w K mg base CX0 k Z.f_entries_with Z.fd_entries_with [("entries" : Str), ("words" : Str)] (spA K 2 g_entries_with)) : ∀ (cdv : Value) (A : Around) (outer : List Env) (s : Shared) (H : Hp) (E : XK), Room k (A.deeper (envOfC "same_hands" (defScope s_same_hands) s.heap.objs.size Z.f_same_hands cdv)) → ∃ t, PPSs (cxOf CX0 P w K mg base NN_same_hands "same_hands" (defScope s_same_hands) Z.f_same_hands cdv A outer s H E).nox (defBody s_same_hands) t (T_same_hands g_entries_with) :=
  fun cdv A outer s H E hr => ⟨_, (ppss_cons (pps_set (i := 2) sc_same_hands.nd (ppc_callA O_entries_with hr (by rfl) Z.m_entries_with Z.F_entries_with.kp Z.b_entries_with (ppa_cons (ppe_var 0) (ppa_cons (ppe_tup (ppa_cons ppe_str ppa_nil)) ppa_nil))))
    (ppss_cons (pps_set (i := 3) sc_same_hands.nd (ppc_callA O_entries_with hr (by rfl) Z.m_entries_with Z.F_entries_with.kp Z.b_entries_with (ppa_cons (ppe_var 1) (ppa_cons (ppe_tup (ppa_cons ppe_str ppa_nil)) ppa_nil))))
    (ppss_cons (pps_for PassesOwn.never rfl (ppi_range1 (by rfl) Z.z_range (ppa_cons (ppe_callB (call_max2 rfl) cp_max2 (by rfl) Z.z_max (by decide +kernel) (ppa_cons (ppe_lenO 2 (by rfl) Z.z_len) (ppa_cons (ppe_lenO 3 (by rfl) Z.z_len) ppa_nil))) ppa_nil)) (ptg_name (i := 4) sc_same_hands.nd)
    (ppss_one (pps_if (ppt_cmp (cm_ne (hu64 hr)) (ppe_slice (ppe_var 2) (ppo_some (ppe_var 4)) (ppo_some (ppe_add (ppe_var 4) ppe_int))) (ppe_slice (ppe_var 3) (ppo_some (ppe_var 4)) (ppo_some (ppe_add (ppe_var 4) ppe_int))) (nomark _))
    (ppss_one pps_never)
    ppss_nil)))
    (ppss_one (pps_ret (ppc_move 2))))))⟩
set_option maxHeartbeats 4000000 in
theorem bd_stretches {k : Nat} {g_slopes_between : FA} (O_slopes_between : FnOk P w K mg base CX0 k Z.f_slopes_between Z.fd_slopes_between [("book" : Str)] (spA K 1 g_slopes_between)) {g_same_hands : FA} (O_same_hands : FnOk P w K mg base CX0 k Z.f_same_hands Z.fd_same_hands [("cutter" : Str), ("filler" : Str)] (spA K 2 g_same_hands)) : ∀ (cdv : Value) (A : Around) (outer : List Env) (s : Shared) (H : Hp) (E : XK), Room k (A.deeper (envOfC "stretches" (defScope s_stretches) s.heap.objs.size Z.f_stretches cdv)) → ∃ t, PPSs (cxOf CX0 P w K mg base NN_stretches "stretches" (defScope s_stretches) Z.f_stretches cdv A outer s H E).nox (defBody s_stretches) t (T_stretches g_slopes_between g_same_hands) :=
  fun cdv A outer s H E hr => ⟨_, (ppss_cons (pps_set (i := 2) sc_stretches.nd (ppc_callA O_same_hands hr (by rfl) Z.m_same_hands Z.F_same_hands.kp Z.b_same_hands (ppa_cons (ppe_var 0) (ppa_cons (ppe_var 1) ppa_nil))))
    (ppss_one (pps_ret (ppc_val (ppe_listZ3 rfl (by rfl) Z.z_list (by rfl) Z.z_zip (ppa_cons (ppe_frz (ppc_callA O_slopes_between hr (by rfl) Z.m_slopes_between Z.F_slopes_between.kp Z.b_slopes_between (ppa_cons (ppe_var 0) ppa_nil))) (ppa_cons (ppe_frz (ppc_callA O_slopes_between hr (by rfl) Z.m_slopes_between Z.F_slopes_between.kp Z.b_slopes_between (ppa_cons (ppe_var 1) ppa_nil))) (ppa_cons (ppe_lst (ppa_star (ppe_var 2) (ppa_cons ppe_non ppa_nil))) ppa_nil))))))))⟩
set_option maxHeartbeats 4000000 in
theorem bd_all_of_one_first {k : Nat} {g_almanac_of : FA} (O_almanac_of : FnOk P w K mg base CX0 k Z.f_almanac_of Z.fd_almanac_of [("cuts" : Str), ("fills" : Str), ("order" : Str)] (spA K 3 g_almanac_of)) : ∀ (cdv : Value) (A : Around) (outer : List Env) (s : Shared) (H : Hp) (E : XK), Room k (A.deeper (envOfC "all_of_one_first" (defScope s_all_of_one_first) s.heap.objs.size Z.f_all_of_one_first cdv)) → ∃ t, PPSs (cxOf CX0 P w K mg base NN_all_of_one_first "all_of_one_first" (defScope s_all_of_one_first) Z.f_all_of_one_first cdv A outer s H E).nox (defBody s_all_of_one_first) t (T_all_of_one_first g_almanac_of) :=
  fun cdv A outer s H E hr => ⟨_, (ppss_cons (pps_set (i := 2) sc_all_of_one_first.nd (ppc_lst ppa_nil))
    (ppss_cons (pps_for PassesOwn.never rfl (ppi_seq (ppe_var 0)) (ptg_tup (n := 3) rfl (ptgs_cons (ptg_name (i := 3) sc_all_of_one_first.nd) (ptgs_cons (ptg_name (i := 4) sc_all_of_one_first.nd) (ptgs_cons (ptg_name (i := 5) sc_all_of_one_first.nd) ptgs_nil))))
    (ppss_cons (pps_par (i := 6) (j := 7) rfl sc_all_of_one_first.nd (ppa_cons (ppe_mulS ppe_str (ppe_lenO 3 (by rfl) Z.z_len)) (ppa_cons (ppe_mulS ppe_str (ppe_lenO 4 (by rfl) Z.z_len)) ppa_nil)))
    (ppss_cons (pps_extend 2 (ppe_frz (ppc_callA O_almanac_of hr (by rfl) Z.m_almanac_of Z.F_almanac_of.kp Z.b_almanac_of (ppa_cons (ppe_var 3) (ppa_cons (ppe_var 4) (ppa_cons (ppe_ifExp (ppt_cmp (cm_eq (hu64 hr)) (ppe_var 1) ppe_str (nomark _)) (ppe_add (ppe_var 6) (ppe_var 7)) (ppe_add (ppe_var 7) (ppe_var 6))) ppa_nil))))))
    (ppss_one (pps_if (ppt_cmp cm_notN (ppe_var 5) ppe_non (nomark _))
    (ppss_one (pps_append 2 (ppe_var 5)))
    ppss_nil)))))
    (ppss_one (pps_ret (ppc_move 2)))))⟩
set_option maxHeartbeats 4000000 in
theorem bd_long_may {k : Nat} {g_done : FA} (O_done : FnOk P w K mg base CX0 k Z.f_done Z.fd_done [("dune" : Str), ("entries" : Str)] (spA K 2 g_done)) {g_stretches : FA} (O_stretches : FnOk P w K mg base CX0 k Z.f_stretches Z.fd_stretches [("cutter" : Str), ("filler" : Str)] (spA K 2 g_stretches)) {g_all_of_one_first : FA} (O_all_of_one_first : FnOk P w K mg base CX0 k Z.f_all_of_one_first Z.fd_all_of_one_first [("parts" : Str), ("word" : Str)] (spA K 2 g_all_of_one_first)) : ∀ (cdv : Value) (A : Around) (outer : List Env) (s : Shared) (H : Hp) (E : XK), Room k (A.deeper (envOfC "long_may" (defScope s_long_may) s.heap.objs.size Z.f_long_may cdv)) → ∃ t, PPSs (cxOf CX0 P w K mg base NN_long_may "long_may" (defScope s_long_may) Z.f_long_may cdv A outer s H E).nox (defBody s_long_may) t (T_long_may g_done g_stretches g_all_of_one_first) :=
  fun cdv A outer s H E hr => ⟨_, (ppss_cons (pps_set (i := 3) sc_long_may.nd (ppc_callA O_stretches hr (by rfl) Z.m_stretches Z.F_stretches.kp Z.b_stretches (ppa_cons (ppe_var 1) (ppa_cons (ppe_var 2) ppa_nil))))
    (ppss_one (pps_ret (ppc_val (ppe_tup (ppa_cons (ppe_frz (ppc_callA O_done hr (by rfl) Z.m_done Z.F_done.kp Z.b_done (ppa_cons (ppe_var 0) (ppa_cons (ppe_frz (ppc_callA O_all_of_one_first hr (by rfl) Z.m_all_of_one_first Z.F_all_of_one_first.kp Z.b_all_of_one_first (ppa_cons (ppe_var 3) (ppa_cons ppe_str ppa_nil)))) ppa_nil)))) (ppa_cons (ppe_frz (ppc_callA O_done hr (by rfl) Z.m_done Z.F_done.kp Z.b_done (ppa_cons (ppe_var 0) (ppa_cons (ppe_frz (ppc_callA O_all_of_one_first hr (by rfl) Z.m_all_of_one_first Z.F_all_of_one_first.kp Z.b_all_of_one_first (ppa_cons (ppe_var 3) (ppa_cons ppe_str ppa_nil)))) ppa_nil)))) ppa_nil)))))))⟩
set_option maxHeartbeats 4000000 in
theorem bd_outcome {k : Nat} {g_amounts : FA} (O_amounts : FnOk P w K mg base CX0 k Z.f_amounts Z.fd_amounts [("dune" : Str), ("almanac" : Str)] (spA K 2 g_amounts)) {g_is_hand : FA} (O_is_hand : FnOk P w K mg base CX0 k Z.f_is_hand Z.fd_is_hand [("entry" : Str)] (spA K 1 g_is_hand)) {g_done : FA} (O_done : FnOk P w K mg base CX0 k Z.f_done Z.fd_done [("dune" : Str), ("entries" : Str)] (spA K 2 g_done)) : ∀ (cdv : Value) (A : Around) (outer : List Env) (s : Shared) (H : Hp) (E : XK), Room k (A.deeper (envOfC "outcome" (defScope s_outcome) s.heap.objs.size Z.f_outcome cdv)) → ∃ t, PPSs (cxOf CX0 P w K mg base NN_outcome "outcome" (defScope s_outcome) Z.f_outcome cdv A outer s H E).nox (defBody s_outcome) t (T_outcome g_amounts g_is_hand g_done) :=
  fun cdv A outer s H E hr => ⟨_, (ppss_one (pps_ret (ppc_val (ppe_tup (ppa_cons (ppe_frz (ppc_callA O_done hr (by rfl) Z.m_done Z.F_done.kp Z.b_done (ppa_cons (ppe_var 0) (ppa_cons (ppe_lst (ppa_cons (ppe_var 1) ppa_nil)) ppa_nil)))) (ppa_cons (ppe_ifExp (ppt_val (ppe_frz (ppc_callA O_is_hand hr (by rfl) Z.m_is_hand Z.F_is_hand.kp Z.b_is_hand (ppa_cons (ppe_var 1) ppa_nil)))) ppe_non (ppe_ix (ppe_frz (ppc_callA O_amounts hr (by rfl) Z.m_amounts Z.F_amounts.kp Z.b_amounts (ppa_cons (ppe_var 0) (ppa_cons (ppe_lst (ppa_cons (ppe_var 1) ppa_nil)) ppa_nil)))) ppe_int)) ppa_nil))))))⟩
set_option maxHeartbeats 4000000 in
theorem bd_rises {k : Nat} : ∀ (cdv : Value) (A : Around) (outer : List Env) (s : Shared) (H : Hp) (E : XK), Room k (A.deeper (envOfC "rises" (defScope s_rises) s.heap.objs.size Z.f_rises cdv)) → ∃ t, PPSs (cxOf CX0 P w K mg base NN_rises "rises" (defScope s_rises) Z.f_rises cdv A outer s H E).nox (defBody s_rises) t (T_rises) :=
  fun cdv A outer s H E hr => ⟨_, (ppss_cons (pps_if (ppt_cmp (cm_ne (hu64 hr)) (ppe_lenO 0 (by rfl) Z.z_len) (ppe_lenO 1 (by rfl) Z.z_len) (nomark _))
    (ppss_one pps_never)
    ppss_nil)
    (ppss_one (pps_ret (ppc_val (ppe_callTy call_tuple_of cp_tup (by rfl) Z.z_tuple (by decide +kernel) (ppa_cons (ppe_lcL (own := [("here", 2), ("there", 3)]) rfl sc_rises.nd (ppi_z2 (by rfl) Z.z_zip (ppa_cons (ppe_var 0) (ppa_cons (ppe_var 1) ppa_nil))) (blkOk_by (N := NN_rises) (sc := defScope s_rises) (by decide +kernel)) (fun _ _ _ _ _ => ((ptg_tup (n := 2) rfl (ptgs_cons (ptg_name (i := 2) sc_rises.nd) (ptgs_cons (ptg_name (i := 3) sc_rises.nd) ptgs_nil)))).lift) (fun _ _ _ _ _ => (ppts_nil).lift) (fun _ _ _ _ _ => ((ppe_sub (ppe_var 3) (ppe_var 2))).lift)) ppa_nil))))))⟩
set_option maxHeartbeats 4000000 in
theorem bd_gaps {k : Nat} {g_rises : FA} (O_rises : FnOk P w K mg base CX0 k Z.f_rises Z.fd_rises [("one" : Str), ("other" : Str)] (spA K 2 g_rises)) : ∀ (cdv : Value) (A : Around) (outer : List Env) (s : Shared) (H : Hp) (E : XK), Room k (A.deeper (envOfC "gaps" (defScope s_gaps) s.heap.objs.size Z.f_gaps cdv)) → ∃ t, PPSs (cxOf CX0 P w K mg base NN_gaps "gaps" (defScope s_gaps) Z.f_gaps cdv A outer s H E).nox (defBody s_gaps) t (T_gaps g_rises) :=
  fun cdv A outer s H E hr => ⟨_, (ppss_one (pps_ret (ppc_lcL (own := [("rise", 2)]) rfl sc_gaps.nd (ppi_seq (ppe_frz (ppc_callA O_rises hr (by rfl) Z.m_rises Z.F_rises.kp Z.b_rises (ppa_cons (ppe_var 0) (ppa_cons (ppe_var 1) ppa_nil))))) (blkOk_by (N := NN_gaps) (sc := defScope s_gaps) (by decide +kernel)) (fun _ _ _ _ _ => ((ptg_name (i := 2) sc_gaps.nd)).lift) (fun _ _ _ _ _ => (ppts_nil).lift) (fun _ _ _ _ _ => ((ppe_callB call_abs cp_abs (by rfl) Z.z_abs (by decide +kernel) (ppa_cons (ppe_var 2) ppa_nil))).lift))))⟩
set_option maxHeartbeats 4000000 in
theorem bd_width {k : Nat} {g_gaps : FA} (O_gaps : FnOk P w K mg base CX0 k Z.f_gaps Z.fd_gaps [("one" : Str), ("other" : Str)] (spA K 2 g_gaps)) : ∀ (cdv : Value) (A : Around) (outer : List Env) (s : Shared) (H : Hp) (E : XK), Room k (A.deeper (envOfC "width" (defScope s_width) s.heap.objs.size Z.f_width cdv)) → ∃ t, PPSs (cxOf CX0 P w K mg base NN_width "width" (defScope s_width) Z.f_width cdv A outer s H E).nox (defBody s_width) t (T_width g_gaps) :=
  fun cdv A outer s H E hr => ⟨_, (ppss_one (pps_ret (ppc_val (ppe_callB (cr_maxA rfl (hu64 hr)) cp_best (by rfl) Z.z_max (by decide +kernel) (ppa_cons (ppe_frz (ppc_callA O_gaps hr (by rfl) Z.m_gaps Z.F_gaps.kp Z.b_gaps (ppa_cons (ppe_var 0) (ppa_cons (ppe_var 1) ppa_nil)))) ppa_nil)))))⟩
set_option maxHeartbeats 4000000 in
theorem bd_is_below {k : Nat} {g_rises : FA} (O_rises : FnOk P w K mg base CX0 k Z.f_rises Z.fd_rises [("one" : Str), ("other" : Str)] (spA K 2 g_rises)) : ∀ (cdv : Value) (A : Around) (outer : List Env) (s : Shared) (H : Hp) (E : XK), Room k (A.deeper (envOfC "is_below" (defScope s_is_below) s.heap.objs.size Z.f_is_below cdv)) → ∃ t, PPSs (cxOf CX0 P w K mg base NN_is_below "is_below" (defScope s_is_below) Z.f_is_below cdv A outer s H E).nox (defBody s_is_below) t (T_is_below g_rises) :=
  fun cdv A outer s H E hr => ⟨_, (ppss_one (pps_ret (ppc_val (ppe_cmp cm_ge (ppe_callB (cr_minA rfl (hu64 hr)) cp_best (by rfl) Z.z_min (by decide +kernel) (ppa_cons (ppe_frz (ppc_callA O_rises hr (by rfl) Z.m_rises Z.F_rises.kp Z.b_rises (ppa_cons (ppe_var 0) (ppa_cons (ppe_var 1) ppa_nil)))) ppa_nil)) ppe_int (nomark _)))))⟩
set_option maxHeartbeats 4000000 in
theorem bd__law_cell_at {k : Nat} : ∀ (cdv : Value) (A : Around) (outer : List Env) (s : Shared) (H : Hp) (E : XK), Room k (A.deeper (envOfC "_law_cell_at" (defScope s__law_cell_at) s.heap.objs.size Z.f__law_cell_at cdv)) → ∃ t, PPSs (cxOf CX0 P w K mg base NN__law_cell_at "_law_cell_at" (defScope s__law_cell_at) Z.f__law_cell_at cdv A outer s H E).nox (defBody s__law_cell_at) t (T__law_cell_at) :=
  fun cdv A outer s H E hr => ⟨_, (ppss_cons (pps_if (ppt_cmp cm_lt (ppe_var 1) (ppe_lenO 0 (by rfl) Z.z_len) (nomark _))
    (ppss_one (pps_ret (ppc_val (ppe_ixO 0 (ppe_var 1)))))
    ppss_nil)
    (ppss_one (pps_ret (ppc_val ppe_int))))⟩
set_option maxHeartbeats 4000000 in
theorem bd__law_box {k : Nat} {g__law_cell_at : FA} (O__law_cell_at : FnOk P w K mg base CX0 k Z.f__law_cell_at Z.fd__law_cell_at [("_law_script" : Str), ("_law_k" : Str)] (spA K 2 g__law_cell_at)) : ∀ (cdv : Value) (A : Around) (outer : List Env) (s : Shared) (H : Hp) (E : XK), Room k (A.deeper (envOfC "_law_box" (defScope s__law_box) s.heap.objs.size Z.f__law_box cdv)) → ∃ t, PPSs (cxOf CX0 P w K mg base NN__law_box "_law_box" (defScope s__law_box) Z.f__law_box cdv A outer s H E).nox (defBody s__law_box) t (T__law_box g__law_cell_at) :=
  fun cdv A outer s H E hr => ⟨_, (ppss_cons (pps_set (i := 2) sc__law_box.nd (ppc_callA O__law_cell_at hr (by rfl) Z.m__law_cell_at Z.F__law_cell_at.kp Z.b__law_cell_at (ppa_cons (ppe_var 0) (ppa_cons (ppe_var 1) ppa_nil))))
    (ppss_one (pps_ret (ppc_lst (ppa_cons (ppe_mul (ppe_callB call_abs cp_abs (by rfl) Z.z_abs (by decide +kernel) (ppa_cons (ppe_var 2) ppa_nil)) (ppe_callTy call_int1 cp_int1 (by rfl) Z.z_int (by decide +kernel) (ppa_cons (ppe_cmp cm_ge (ppe_callB call_abs cp_abs (by rfl) Z.z_abs (by decide +kernel) (ppa_cons (ppe_var 2) ppa_nil)) (ppe_powc 1000000000000000000) (nomark _)) ppa_nil))) (ppa_cons (ppe_add (ppe_add (ppe_mod (ppe_var 2) ppe_int) (ppe_mul ppe_int (ppe_var 1))) ppe_int) (ppa_cons ppe_int ppa_nil)))))))⟩
set_option maxHeartbeats 4000000 in
theorem bd__law_take {k : Nat} {g__law_take : FB} (O__law_take : FnOk P w K mg base CX0 k Z.f__law_take Z.fd__law_take [("_law_box_here" : Str), ("_law_size" : Str)] (spB K 2 g__law_take)) : ∀ (cdv : Value) (A : Around) (outer : List Env) (s : Shared) (H : Hp) (E : XK), Room k (A.deeper (envOfC "_law_take" (defScope s__law_take) s.heap.objs.size Z.f__law_take cdv)) → ∃ t, PPSs (cxOf CX0 P w K mg base NN__law_take "_law_take" (defScope s__law_take) Z.f__law_take cdv A outer s H E).nox (defBody s__law_take) t (T__law_take g__law_take) :=
  fun cdv A outer s H E hr => ⟨_, (ppss_cons (pps_if (ppt_cmp cm_gt (ppe_ixO 0 ppe_int) ppe_int (nomark _))
    (ppss_cons (pps_set (i := 2) sc__law_take.nd (ppc_val (ppe_mod (ppe_ixO 0 ppe_int) (ppe_var 1))))
    (ppss_cons (pps_store 0 ppe_int (ppe_div (ppe_ixO 0 ppe_int) (ppe_var 1)))
    (ppss_one (pps_ret (ppc_move 2)))))
    ppss_nil)
    (ppss_cons (pps_if (ppt_cmp cm_gt (ppe_var 1) (ppe_powc 10000000) (nomark _))
    (ppss_one (pps_ret (ppc_val (ppe_mod (ppe_add (ppe_frz (ppc_callB 0 O__law_take hr (by rfl) Z.m__law_take Z.F__law_take.kp Z.b__law_take (ppa_cons (ppe_powc 10000000) ppa_nil))) (ppe_mul (ppe_powc 10000000) (ppe_frz (ppc_callB 0 O__law_take hr (by rfl) Z.m__law_take Z.F__law_take.kp Z.b__law_take (ppa_cons (ppe_add (ppe_div (ppe_sub (ppe_var 1) ppe_int) (ppe_powc 10000000)) ppe_int) ppa_nil))))) (ppe_var 1)))))
    ppss_nil)
    (ppss_cons (pps_store 0 ppe_int (ppe_add (ppe_ixO 0 ppe_int) ppe_int))
    (ppss_cons (pps_set (i := 3) sc__law_take.nd (ppc_val (ppe_mod (ppe_mul (ppe_add (ppe_ixO 0 ppe_int) (ppe_mul ppe_int (ppe_ixO 0 ppe_int))) (ppe_add ppe_int (ppe_ixO 0 ppe_int))) ppe_int)))
    (ppss_cons (pps_set (i := 4) sc__law_take.nd (ppc_val (ppe_mod (ppe_mul (ppe_add (ppe_add (ppe_var 3) (ppe_ixO 0 ppe_int)) (ppe_div (ppe_ixO 0 ppe_int) ppe_int)) (ppe_add (ppe_mod (ppe_var 3) ppe_int) ppe_int)) ppe_int)))
    (ppss_one (pps_ret (ppc_val (ppe_mod (ppe_div (ppe_mod (ppe_add (ppe_mul (ppe_var 4) ppe_int) (ppe_var 3)) ppe_int) ppe_int) (ppe_var 1))))))))))⟩
set_option maxHeartbeats 4000000 in
theorem bd__law_same {k : Nat} {g__law_same : FA} (O__law_same : FnOk P w K mg base CX0 k Z.f__law_same Z.fd__law_same [("_law_told" : Str), ("_law_due" : Str)] (spA K 2 g__law_same)) : ∀ (cdv : Value) (A : Around) (outer : List Env) (s : Shared) (H : Hp) (E : XK), Room k (A.deeper (envOfC "_law_same" (defScope s__law_same) s.heap.objs.size Z.f__law_same cdv)) → ∃ t, PPSs (cxOf CX0 P w K mg base NN__law_same "_law_same" (defScope s__law_same) Z.f__law_same cdv A outer s H E).nox (defBody s__law_same) t (T__law_same g__law_same) :=
  fun cdv A outer s H E hr => ⟨_, (ppss_cons (pps_if (ppt_val (ppe_isi2 isT_list isT_tuple (by rfl) Z.z_isinstance (by rfl) Z.z_list (by rfl) Z.z_tuple (ppe_var 1)))
    (ppss_cons (pps_if (PPW.ppt (ppw_or (ppt_cmp (cm_ne (hu64 hr)) (ppe_isi isT_list (by rfl) Z.z_isinstance (by rfl) Z.z_list (ppe_var 0)) (ppe_isi isT_list (by rfl) Z.z_isinstance (by rfl) Z.z_list (ppe_var 1)) (nomark _)) (ppw_or1 (ppt_cmp (cm_ne (hu64 hr)) (ppe_isi isT_tuple (by rfl) Z.z_isinstance (by rfl) Z.z_tuple (ppe_var 0)) (ppe_isi isT_tuple (by rfl) Z.z_isinstance (by rfl) Z.z_tuple (ppe_var 1)) (nomark _)))))
    (ppss_one (pps_ret (ppc_val ppe_bl)))
    ppss_nil)
    (ppss_one (pps_ret (ppc_val (ppe_and (ppe_cmp (cm_eq (hu64 hr)) (ppe_lenO 0 (by rfl) Z.z_len) (ppe_lenO 1 (by rfl) Z.z_len) (nomark _)) (ppe_one (ppe_callB (cr_all rfl) cp_all (by rfl) Z.z_all (by decide +kernel) (ppa_cons (ppe_lcL (own := [("_law_one", 2), ("_law_two", 3)]) rfl sc__law_same.nd (ppi_z2 (by rfl) Z.z_zip (ppa_cons (ppe_var 0) (ppa_cons (ppe_var 1) ppa_nil))) (blkOk_by (N := NN__law_same) (sc := defScope s__law_same) (by decide +kernel)) (fun _ _ _ _ _ => ((ptg_tup (n := 2) rfl (ptgs_cons (ptg_name (i := 2) sc__law_same.nd) (ptgs_cons (ptg_name (i := 3) sc__law_same.nd) ptgs_nil)))).lift) (fun _ _ _ _ _ => (ppts_nil).lift) (fun _ _ _ _ _ => ((ppe_frz (ppc_callA O__law_same hr (by rfl) Z.m__law_same Z.F__law_same.kp Z.b__law_same (ppa_cons (ppe_var 2) (ppa_cons (ppe_var 3) ppa_nil))))).lift)) ppa_nil))))))))
    ppss_nil)
    (ppss_cons (pps_if (PPW.ppt (ppw_or (ppt_cmp cm_isN (ppe_var 1) ppe_non (nomark _)) (ppw_or1 (ppt_val (ppe_isi2 isT_bool isT_str (by rfl) Z.z_isinstance (by rfl) Z.z_bool (by rfl) Z.z_str (ppe_var 1))))))
    (ppss_one (pps_ret (ppc_val (ppe_and (ppe_cmp (cm_eq (hu64 hr)) (ppe_var 0) (ppe_var 1) (nomark _)) (ppe_and (ppe_cmp (cm_eq (hu64 hr)) (ppe_isi isT_bool (by rfl) Z.z_isinstance (by rfl) Z.z_bool (ppe_var 0)) (ppe_isi isT_bool (by rfl) Z.z_isinstance (by rfl) Z.z_bool (ppe_var 1)) (nomark _)) (ppe_one (ppe_cmp (cm_eq (hu64 hr)) (ppe_cmp cm_isN (ppe_var 0) ppe_non (nomark _)) (ppe_cmp cm_isN (ppe_var 1) ppe_non (nomark _)) (nomark _))))))))
    ppss_nil)
    (ppss_one (pps_ret (ppc_val (ppe_and (ppe_isi isT_int (by rfl) Z.z_isinstance (by rfl) Z.z_int (ppe_var 0)) (ppe_and (ppe_not (ppe_isi isT_bool (by rfl) Z.z_isinstance (by rfl) Z.z_bool (ppe_var 0))) (ppe_one (ppe_cmp (cm_eq (hu64 hr)) (ppe_var 0) (ppe_var 1) (nomark _))))))))))⟩
set_option maxHeartbeats 4000000 in
theorem bd__law_dune {k : Nat} {g__law_take : FB} (O__law_take : FnOk P w K mg base CX0 k Z.f__law_take Z.fd__law_take [("_law_box_here" : Str), ("_law_size" : Str)] (spB K 2 g__law_take)) : ∀ (cdv : Value) (A : Around) (outer : List Env) (s : Shared) (H : Hp) (E : XK), Room k (A.deeper (envOfC "_law_dune" (defScope s__law_dune) s.heap.objs.size Z.f__law_dune cdv)) → ∃ t, PPSs (cxOf CX0 P w K mg base NN__law_dune "_law_dune" (defScope s__law_dune) Z.f__law_dune cdv A outer s H E).nox (defBody s__law_dune) t (T__law_dune g__law_take) :=
  fun cdv A outer s H E hr => ⟨_, (ppss_cons (pps_par (i := 2) (j := 3) rfl sc__law_dune.nd (ppa_cons (ppe_add ppe_int (ppe_frz (ppc_callB 0 O__law_take hr (by rfl) Z.m__law_take Z.F__law_take.kp Z.b__law_take (ppa_cons (ppe_var 1) ppa_nil)))) (ppa_cons (ppe_ix (ppe_lst (ppa_cons ppe_int (ppa_cons ppe_int (ppa_cons ppe_int (ppa_cons (ppe_powc 1000000000) ppa_nil))))) (ppe_frz (ppc_callB 0 O__law_take hr (by rfl) Z.m__law_take Z.F__law_take.kp Z.b__law_take (ppa_cons ppe_int ppa_nil)))) ppa_nil)))
    (ppss_cons (pps_set (i := 4) sc__law_dune.nd (ppc_lst ppa_nil))
    (ppss_cons (pps_for PassesOwn.never rfl (ppi_range1 (by rfl) Z.z_range (ppa_cons (ppe_var 2) ppa_nil)) (ptg_name (i := 5) sc__law_dune.nd)
    (ppss_one (pps_append 4 (ppe_ix (ppe_lst (ppa_cons ppe_int (ppa_cons (ppe_var 3) (ppa_cons (ppe_sub (ppe_frz (ppc_callB 0 O__law_take hr (by rfl) Z.m__law_take Z.F__law_take.kp Z.b__law_take (ppa_cons (ppe_add (ppe_mul ppe_int (ppe_var 3)) ppe_int) ppa_nil))) (ppe_var 3)) (ppa_cons (ppe_frz (ppc_callB 0 O__law_take hr (by rfl) Z.m__law_take Z.F__law_take.kp Z.b__law_take (ppa_cons (ppe_add (ppe_var 3) ppe_int) ppa_nil))) ppa_nil))))) (ppe_frz (ppc_callB 0 O__law_take hr (by rfl) Z.m__law_take Z.F__law_take.kp Z.b__law_take (ppa_cons ppe_int ppa_nil)))))))
    (ppss_one (pps_ret (ppc_val (ppe_callTy call_tuple_of cp_tup (by rfl) Z.z_tuple (by decide +kernel) (ppa_cons (ppe_var 4) ppa_nil))))))))⟩
set_option maxHeartbeats 4000000 in
theorem bd__law_slope {k : Nat} {g__law_take : FB} (O__law_take : FnOk P w K mg base CX0 k Z.f__law_take Z.fd__law_take [("_law_box_here" : Str), ("_law_size" : Str)] (spB K 2 g__law_take)) : ∀ (cdv : Value) (A : Around) (outer : List Env) (s : Shared) (H : Hp) (E : XK), Room k (A.deeper (envOfC "_law_slope" (defScope s__law_slope) s.heap.objs.size Z.f__law_slope cdv)) → ∃ t, PPSs (cxOf CX0 P w K mg base NN__law_slope "_law_slope" (defScope s__law_slope) Z.f__law_slope cdv A outer s H E).nox (defBody s__law_slope) t (T__law_slope g__law_take) :=
  fun cdv A outer s H E hr => ⟨_, (ppss_one (pps_ret (ppc_callB 0 O__law_take hr (by rfl) Z.m__law_take Z.F__law_take.kp Z.b__law_take (ppa_cons (ppe_ix (ppe_lst (ppa_cons ppe_int (ppa_cons ppe_int (ppa_cons ppe_int (ppa_cons (ppe_powc 1000000000) ppa_nil))))) (ppe_frz (ppc_callB 0 O__law_take hr (by rfl) Z.m__law_take Z.F__law_take.kp Z.b__law_take (ppa_cons ppe_int ppa_nil)))) ppa_nil))))⟩
set_option maxHeartbeats 4000000 in
theorem bd__law_entry {k : Nat} {g__law_take : FB} (O__law_take : FnOk P w K mg base CX0 k Z.f__law_take Z.fd__law_take [("_law_box_here" : Str), ("_law_size" : Str)] (spB K 2 g__law_take)) {g__law_slope : FB} (O__law_slope : FnOk P w K mg base CX0 k Z.f__law_slope Z.fd__law_slope [("_law_box_here" : Str)] (spB K 1 g__law_slope)) : ∀ (cdv : Value) (A : Around) (outer : List Env) (s : Shared) (H : Hp) (E : XK), Room k (A.deeper (envOfC "_law_entry" (defScope s__law_entry) s.heap.objs.size Z.f__law_entry cdv)) → ∃ t, PPSs (cxOf CX0 P w K mg base NN__law_entry "_law_entry" (defScope s__law_entry) Z.f__law_entry cdv A outer s H E).nox (defBody s__law_entry) t (T__law_entry g__law_take g__law_slope) :=
  fun cdv A outer s H E hr => ⟨_, (ppss_cons (pps_par (i := 2) (j := 3) rfl sc__law_entry.nd (ppa_cons (ppe_frz (ppc_callB 0 O__law_take hr (by rfl) Z.m__law_take Z.F__law_take.kp Z.b__law_take (ppa_cons ppe_int ppa_nil))) (ppa_cons (ppe_ix (ppe_lst (ppa_cons ppe_int (ppa_cons (ppe_neg ppe_int) (ppa_cons (ppe_add ppe_int (ppe_frz (ppc_callB 0 O__law_take hr (by rfl) Z.m__law_take Z.F__law_take.kp Z.b__law_take (ppa_cons ppe_int ppa_nil)))) (ppa_cons (ppe_sub (ppe_neg ppe_int) (ppe_frz (ppc_callB 0 O__law_take hr (by rfl) Z.m__law_take Z.F__law_take.kp Z.b__law_take (ppa_cons ppe_int ppa_nil)))) ppa_nil))))) (ppe_frz (ppc_callB 0 O__law_take hr (by rfl) Z.m__law_take Z.F__law_take.kp Z.b__law_take (ppa_cons ppe_int ppa_nil)))) ppa_nil)))
    (ppss_cons (pps_set (i := 4) sc__law_entry.nd (ppc_val (ppe_tup (ppa_cons (ppe_ix (ppe_lst (ppa_cons ppe_str (ppa_cons ppe_str ppa_nil))) (ppe_mod (ppe_var 2) ppe_int)) (ppa_cons (ppe_frz (ppc_callB 0 O__law_slope hr (by rfl) Z.m__law_slope Z.F__law_slope.kp Z.b__law_slope ppa_nil)) ppa_nil)))))
    (ppss_one (pps_ret (ppc_val (ppe_ifExp (ppt_cmp (cm_eq (hu64 hr)) (ppe_var 2) ppe_int (nomark _)) (ppe_tup (ppa_cons ppe_str (ppa_cons (ppe_frz (ppc_callB 0 O__law_take hr (by rfl) Z.m__law_take Z.F__law_take.kp Z.b__law_take (ppa_cons (ppe_var 1) ppa_nil))) (ppa_cons (ppe_var 3) ppa_nil)))) (ppe_var 4)))))))⟩
set_option maxHeartbeats 4000000 in
theorem bd__law_do_one {k : Nat} {g_Yard_blow : FM} (O_Yard_blow : FnOk P w K mg base CX0 k Z.f_Yard_blow Z.fd_Yard_blow [("self" : Str), ("word" : Str), ("slope" : Str)] (spM K 3 Z.C_Yard g_Yard_blow)) {g_Yard_hand : FM} (O_Yard_hand : FnOk P w K mg base CX0 k Z.f_Yard_hand Z.fd_Yard_hand [("self" : Str), ("post" : Str), ("by" : Str)] (spM K 3 Z.C_Yard g_Yard_hand)) : ∀ (cdv : Value) (A : Around) (outer : List Env) (s : Shared) (H : Hp) (E : XK), Room k (A.deeper (envOfC "_law_do_one" (defScope s__law_do_one) s.heap.objs.size Z.f__law_do_one cdv)) → ∃ t, PPSs (cxOf CX0 P w K mg base NN__law_do_one "_law_do_one" (defScope s__law_do_one) Z.f__law_do_one cdv A outer s H E).nox (defBody s__law_do_one) t (T__law_do_one Z.C_Yard g_Yard_blow g_Yard_hand) :=
  fun cdv A outer s H E hr => ⟨_, (ppss_cons (pps_if (ppt_cmp (cm_eq (hu64 hr)) (ppe_ixO 1 ppe_int) ppe_str (nomark _))
    (ppss_one (pps_ret (ppc_callM 0 Z.c_Yard Z.mt_Yard_hand O_Yard_hand hr Z.b_Yard_hand (ppa_cons (ppe_ixO 1 ppe_int) (ppa_cons (ppe_ixO 1 ppe_int) ppa_nil)))))
    ppss_nil)
    (ppss_one (pps_ret (ppc_callM 0 Z.c_Yard Z.mt_Yard_blow O_Yard_blow hr Z.b_Yard_blow (ppa_cons (ppe_ixO 1 ppe_int) (ppa_cons (ppe_ixO 1 ppe_int) ppa_nil))))))⟩
set_option maxHeartbeats 4000000 in
theorem bd__law_turned {k : Nat} : ∀ (cdv : Value) (A : Around) (outer : List Env) (s : Shared) (H : Hp) (E : XK), Room k (A.deeper (envOfC "_law_turned" (defScope s__law_turned) s.heap.objs.size Z.f__law_turned cdv)) → ∃ t, PPSs (cxOf CX0 P w K mg base NN__law_turned "_law_turned" (defScope s__law_turned) Z.f__law_turned cdv A outer s H E).nox (defBody s__law_turned) t (T__law_turned) :=
  fun cdv A outer s H E hr => ⟨_, (ppss_cons (pps_if (ppt_cmp (cm_eq (hu64 hr)) (ppe_ixO 0 ppe_int) ppe_str (nomark _))
    (ppss_one (pps_ret (ppc_val (ppe_tup (ppa_cons ppe_str (ppa_cons (ppe_ixO 0 ppe_int) (ppa_cons (ppe_sub ppe_int (ppe_ixO 0 ppe_int)) ppa_nil)))))))
    ppss_nil)
    (ppss_one (pps_ret (ppc_val (ppe_tup (ppa_cons (ppe_dix (hu64 hr) (ppe_ixO 0 ppe_int)) (ppa_cons (ppe_ixO 0 ppe_int) ppa_nil)))))))⟩
set_option maxHeartbeats 4000000 in
theorem bd__law_right {k : Nat} {g_upside : FA} (O_upside : FnOk P w K mg base CX0 k Z.f_upside Z.fd_upside [("dune" : Str)] (spA K 1 g_upside)) {g_Yard___init__ : FM} (O_Yard___init__ : FnOk P w K mg base CX0 k Z.f_Yard___init__ Z.fd_Yard___init__ [("self" : Str), ("dune" : Str)] (spM K 2 Z.C_Yard g_Yard___init__)) {g_Yard_undo : FM} (O_Yard_undo : FnOk P w K mg base CX0 k Z.f_Yard_undo Z.fd_Yard_undo [("self" : Str)] (spM K 1 Z.C_Yard g_Yard_undo)) {g_Yard_dune : FM} (O_Yard_dune : FnOk P w K mg base CX0 k Z.f_Yard_dune Z.fd_Yard_dune [("self" : Str)] (spM K 1 Z.C_Yard g_Yard_dune)) {g_Yard_may : FM} (O_Yard_may : FnOk P w K mg base CX0 k Z.f_Yard_may Z.fd_Yard_may [("self" : Str)] (spM K 1 Z.C_Yard g_Yard_may)) {g_width : FA} (O_width : FnOk P w K mg base CX0 k Z.f_width Z.fd_width [("one" : Str), ("other" : Str)] (spA K 2 g_width)) {g_is_below : FA} (O_is_below : FnOk P w K mg base CX0 k Z.f_is_below Z.fd_is_below [("one" : Str), ("other" : Str)] (spA K 2 g_is_below)) {g__law_take : FB} (O__law_take : FnOk P w K mg base CX0 k Z.f__law_take Z.fd__law_take [("_law_box_here" : Str), ("_law_size" : Str)] (spB K 2 g__law_take)) {g__law_same : FA} (O__law_same : FnOk P w K mg base CX0 k Z.f__law_same Z.fd__law_same [("_law_told" : Str), ("_law_due" : Str)] (spA K 2 g__law_same)) {g__law_dune : FB} (O__law_dune : FnOk P w K mg base CX0 k Z.f__law_dune Z.fd__law_dune [("_law_box_here" : Str), ("_law_size" : Str)] (spB K 2 g__law_dune)) {g__law_entry : FB} (O__law_entry : FnOk P w K mg base CX0 k Z.f__law_entry Z.fd__law_entry [("_law_box_here" : Str), ("_law_posts" : Str)] (spB K 2 g__law_entry)) {g__law_do_one : FM} (O__law_do_one : FnOk P w K mg base CX0 k Z.f__law_do_one Z.fd__law_do_one [("_law_yard" : Str), ("_law_entry_here" : Str)] (spM K 2 Z.C_Yard g__law_do_one)) {g__law_turned : FA} (O__law_turned : FnOk P w K mg base CX0 k Z.f__law_turned Z.fd__law_turned [("_law_entry_here" : Str)] (spA K 1 g__law_turned)) : ∀ (cdv : Value) (A : Around) (outer : List Env) (s : Shared) (H : Hp) (E : XK), Room (k + 1) (A.deeper (envOfC "_law_right" (defScope s__law_right) s.heap.objs.size Z.f__law_right cdv)) → ∃ t, PPSs (cxOf CX0 P w K mg base NN__law_right "_law_right" (defScope s__law_right) Z.f__law_right cdv A outer s H E).nox (defBody s__law_right) t (T__law_right Z.C_Yard g_upside g_Yard___init__ g_Yard_undo g_Yard_dune g_Yard_may g_width g_is_below g__law_take g__law_same g__law_dune g__law_entry g__law_do_one g__law_turned) :=
  fun cdv A outer s H E hr => ⟨_, (ppss_cons (pps_set (i := 1) sc__law_right.nd (ppc_callB 0 O__law_dune (hr.mono (Nat.le_succ _)) (by rfl) Z.m__law_dune Z.F__law_dune.kp Z.b__law_dune (ppa_cons ppe_int ppa_nil)))
    (ppss_cons (pps_setLcV (i := 3) (own := [("_law_post", 2)]) rfl sc__law_right.nd (ppi_seq (ppe_var 1)) (blkOk_by (N := NN__law_right) (sc := defScope s__law_right) (by decide +kernel)) (fun _ _ _ _ _ => ((ptg_name (i := 2) sc__law_right.nd)).lift) (fun _ _ _ _ _ => (ppts_nil).lift) (fun _ _ _ _ _ => ((ppe_mul (ppe_frz (ppc_callB 0 O__law_take (hr.mono (Nat.le_succ _)) (by rfl) Z.m__law_take Z.F__law_take.kp Z.b__law_take (ppa_cons ppe_int ppa_nil))) (ppe_callTy call_int1 cp_int1 (by rfl) Z.z_int (by decide +kernel) (ppa_cons (ppe_cmp cm_gt (ppe_frz (ppc_callB 0 O__law_take (hr.mono (Nat.le_succ _)) (by rfl) Z.m__law_take Z.F__law_take.kp Z.b__law_take (ppa_cons ppe_int ppa_nil))) ppe_int (nomark _)) ppa_nil)))).lift))
    (ppss_cons (pps_set (i := 6) sc__law_right.nd (ppc_val (ppe_callTy call_tuple_of cp_tup (by rfl) Z.z_tuple (by decide +kernel) (ppa_cons (ppe_lcL (own := [("_law_height", 4), ("_law_more", 5)]) rfl sc__law_right.nd (ppi_z2 (by rfl) Z.z_zip (ppa_cons (ppe_var 1) (ppa_cons (ppe_var 3) ppa_nil))) (blkOk_by (N := NN__law_right) (sc := defScope s__law_right) (by decide +kernel)) (fun _ _ _ _ _ => ((ptg_tup (n := 2) rfl (ptgs_cons (ptg_name (i := 4) sc__law_right.nd) (ptgs_cons (ptg_name (i := 5) sc__law_right.nd) ptgs_nil)))).lift) (fun _ _ _ _ _ => (ppts_nil).lift) (fun _ _ _ _ _ => ((ppe_add (ppe_var 4) (ppe_var 5))).lift)) ppa_nil))))
    (ppss_cons (pps_set (i := 7) sc__law_right.nd (ppc_val (ppe_callTy call_tuple_of cp_tup (by rfl) Z.z_tuple (by decide +kernel) (ppa_cons (ppe_lcL (own := [("_law_post", 2)]) rfl sc__law_right.nd (ppi_seq (ppe_var 1)) (blkOk_by (N := NN__law_right) (sc := defScope s__law_right) (by decide +kernel)) (fun _ _ _ _ _ => ((ptg_name (i := 2) sc__law_right.nd)).lift) (fun _ _ _ _ _ => (ppts_nil).lift) (fun _ _ _ _ _ => ((ppe_sub (ppe_frz (ppc_callB 0 O__law_take (hr.mono (Nat.le_succ _)) (by rfl) Z.m__law_take Z.F__law_take.kp Z.b__law_take (ppa_cons ppe_int ppa_nil))) ppe_int)).lift)) ppa_nil))))
    (ppss_cons (pps_setI (i := 8) sc__law_right.nd (ppbs_cons (ppc_make Z.mk_Yard O_Yard___init__ hr (by rfl) Z.m_Yard Z.b_Yard___init__ (ppa_cons (ppe_var 1) ppa_nil)) (ppbs_cons (ppc_make Z.mk_Yard O_Yard___init__ hr (by rfl) Z.m_Yard Z.b_Yard___init__ (ppa_cons (ppe_var 6) ppa_nil)) (ppbs_cons (ppc_make Z.mk_Yard O_Yard___init__ hr (by rfl) Z.m_Yard Z.b_Yard___init__ (ppa_cons (ppe_var 7) ppa_nil)) (ppbs_cons (ppc_make Z.mk_Yard O_Yard___init__ hr (by rfl) Z.m_Yard Z.b_Yard___init__ (ppa_cons (ppe_frz (ppc_callA O_upside (hr.mono (Nat.le_succ _)) (by rfl) Z.m_upside Z.F_upside.kp Z.b_upside (ppa_cons (ppe_var 1) ppa_nil))) ppa_nil)) ppbs_nil)))))
    (ppss_cons (pps_for PassesOwn.never rfl (ppi_range1 (by rfl) Z.z_range (ppa_cons (ppe_frz (ppc_callB 0 O__law_take (hr.mono (Nat.le_succ _)) (by rfl) Z.m__law_take Z.F__law_take.kp Z.b__law_take (ppa_cons ppe_int ppa_nil))) ppa_nil)) (ptg_name (i := 9) sc__law_right.nd)
    (ppss_cons (pps_setLcV (i := 11) (own := [("_law_k", 10)]) rfl sc__law_right.nd (ppi_seq (ppe_tup (ppa_cons ppe_int (ppa_cons ppe_int ppa_nil)))) (blkOk_by (N := NN__law_right) (sc := defScope s__law_right) (by decide +kernel)) (fun _ _ _ _ _ => ((ptg_name (i := 10) sc__law_right.nd)).lift) (fun _ _ _ _ _ => (ppts_nil).lift) (fun _ _ _ _ _ => ((ppe_frz (ppc_callA O_width (hr.mono (Nat.le_succ _)) (by rfl) Z.m_width Z.F_width.kp Z.b_width (ppa_cons (ppe_frz (ppc_callMI0 8 Z.c_Yard Z.mt_Yard_dune O_Yard_dune (hr.mono (Nat.le_succ _)) Z.b_Yard_dune (ppe_ix (ppe_varI 8) ppe_int))) (ppa_cons (ppe_frz (ppc_callMI0 8 Z.c_Yard Z.mt_Yard_dune O_Yard_dune (hr.mono (Nat.le_succ _)) Z.b_Yard_dune (ppe_ix (ppe_varI 8) (ppe_var 10)))) ppa_nil))))).lift))
    (ppss_cons (pps_if (ppt_cmp (cm_eq (hu64 (hr.mono (Nat.le_succ _)))) (ppe_frz (ppc_callB 0 O__law_take (hr.mono (Nat.le_succ _)) (by rfl) Z.m__law_take Z.F__law_take.kp Z.b__law_take (ppa_cons ppe_int ppa_nil))) ppe_int (nomark _))
    (ppss_one (pps_if (ppt_cmp (cm_ne (hu64 (hr.mono (Nat.le_succ _)))) (ppe_lenSetB rfl (by rfl) Z.z_len (by rfl) Z.z_set (ppe_lcL (own := [("_law_yard", 12)]) rfl sc__law_right.nd (ppi_seq (ppe_varI 8)) (blkOk_by (N := NN__law_right) (sc := defScope s__law_right) (by decide +kernel)) (fun _ _ _ _ _ => ((ptg_name (i := 12) sc__law_right.nd)).lift) (fun _ _ _ _ _ => (ppts_nil).lift) (fun _ _ _ _ _ => ((ppe_frz (ppc_callMI0 8 Z.c_Yard Z.mt_Yard_undo O_Yard_undo (hr.mono (Nat.le_succ _)) Z.b_Yard_undo (ppe_var 12)))).lift))) ppe_int (nomark _))
    (ppss_one (pps_ret (ppc_val ppe_bl)))
    ppss_nil))
    (ppss_cons (pps_set (i := 13) sc__law_right.nd (ppc_callB 0 O__law_entry (hr.mono (Nat.le_succ _)) (by rfl) Z.m__law_entry Z.F__law_entry.kp Z.b__law_entry (ppa_cons (ppe_lenO 1 (by rfl) Z.z_len) ppa_nil)))
    (ppss_cons (pps_setLcV (i := 14) (own := [("_law_k", 10), ("_law_yard", 12)]) rfl sc__law_right.nd (ppi_e (by rfl) Z.z_enumerate (ppa_cons (ppe_varI 8) ppa_nil)) (blkOk_by (N := NN__law_right) (sc := defScope s__law_right) (by decide +kernel)) (fun _ _ _ _ _ => ((ptg_tup (n := 2) rfl (ptgs_cons (ptg_name (i := 10) sc__law_right.nd) (ptgs_cons (ptg_name (i := 12) sc__law_right.nd) ptgs_nil)))).lift) (fun _ _ _ _ _ => (ppts_nil).lift) (fun _ _ _ _ _ => ((ppe_frz (ppc_callII 8 O__law_do_one (hr.mono (Nat.le_succ _)) (by rfl) Z.m__law_do_one Z.F__law_do_one.kp Z.b__law_do_one (ppe_var 12) (ppa_cons (ppe_ix (ppe_lst (ppa_cons (ppe_var 13) (ppa_cons (ppe_frz (ppc_callA O__law_turned (hr.mono (Nat.le_succ _)) (by rfl) Z.m__law_turned Z.F__law_turned.kp Z.b__law_turned (ppa_cons (ppe_var 13) ppa_nil))) ppa_nil))) (ppe_callTy call_int1 cp_int1 (by rfl) Z.z_int (by decide +kernel) (ppa_cons (ppe_cmp (cm_eq (hu64 (hr.mono (Nat.le_succ _)))) (ppe_var 10) ppe_int (nomark _)) ppa_nil))) ppa_nil)))).lift))
    (ppss_cons (pps_setLcV (i := 15) (own := [("_law_k", 10)]) rfl sc__law_right.nd (ppi_seq (ppe_tup (ppa_cons ppe_int (ppa_cons ppe_int ppa_nil)))) (blkOk_by (N := NN__law_right) (sc := defScope s__law_right) (by decide +kernel)) (fun _ _ _ _ _ => ((ptg_name (i := 10) sc__law_right.nd)).lift) (fun _ _ _ _ _ => (ppts_nil).lift) (fun _ _ _ _ _ => ((ppe_frz (ppc_callA O_width (hr.mono (Nat.le_succ _)) (by rfl) Z.m_width Z.F_width.kp Z.b_width (ppa_cons (ppe_frz (ppc_callMI0 8 Z.c_Yard Z.mt_Yard_dune O_Yard_dune (hr.mono (Nat.le_succ _)) Z.b_Yard_dune (ppe_ix (ppe_varI 8) ppe_int))) (ppa_cons (ppe_frz (ppc_callMI0 8 Z.c_Yard Z.mt_Yard_dune O_Yard_dune (hr.mono (Nat.le_succ _)) Z.b_Yard_dune (ppe_ix (ppe_varI 8) (ppe_var 10)))) ppa_nil))))).lift))
    (ppss_cons (pps_if (PPW.ppt (ppw_or (ppt_val (ppe_callB (cr_any rfl) cp_any (by rfl) Z.z_any (by decide +kernel) (ppa_cons (ppe_lcL (own := [("_law_two", 16), ("_law_gap", 17)]) rfl sc__law_right.nd (ppi_z2 (by rfl) Z.z_zip (ppa_cons (ppe_var 15) (ppa_cons (ppe_var 11) ppa_nil))) (blkOk_by (N := NN__law_right) (sc := defScope s__law_right) (by decide +kernel)) (fun _ _ _ _ _ => ((ptg_tup (n := 2) rfl (ptgs_cons (ptg_name (i := 16) sc__law_right.nd) (ptgs_cons (ptg_name (i := 17) sc__law_right.nd) ptgs_nil)))).lift) (fun _ _ _ _ _ => (ppts_nil).lift) (fun _ _ _ _ _ => ((ppe_cmp cm_gt (ppe_var 16) (ppe_var 17) (nomark _))).lift)) ppa_nil))) (ppw_or1 (PPW.ppt (ppw_and (ppt_cmp (cm_eq (hu64 (hr.mono (Nat.le_succ _)))) (ppe_ixO 13 ppe_int) ppe_str (nomark _)) (ppw_and1 (ppt_cmp (cm_ne (hu64 (hr.mono (Nat.le_succ _)))) (ppe_var 15) (ppe_var 11) (nomark _))))))))
    (ppss_one (pps_ret (ppc_val ppe_bl)))
    ppss_nil)
    (ppss_one (pps_if (PPW.ppt (ppw_and (ppt_cmp cm_notN (ppe_ixO 14 ppe_int) ppe_non (nomark _)) (ppw_and1 (ppt_not (ppt_val (ppe_frz (ppc_callA O__law_same (hr.mono (Nat.le_succ _)) (by rfl) Z.m__law_same Z.F__law_same.kp Z.b__law_same (ppa_cons (ppe_ixO 14 ppe_int) (ppa_cons (ppe_rev (ppe_ixO 14 ppe_int)) ppa_nil)))))))))
    (ppss_one (pps_ret (ppc_val ppe_bl)))
    ppss_nil)))))))
    (ppss_one (pps_if (PPW.ppt (ppw_or (ppt_cmp cm_notB (ppe_frz (ppc_callA O_is_below (hr.mono (Nat.le_succ _)) (by rfl) Z.m_is_below Z.F_is_below.kp Z.b_is_below (ppa_cons (ppe_frz (ppc_callMI0 8 Z.c_Yard Z.mt_Yard_dune O_Yard_dune (hr.mono (Nat.le_succ _)) Z.b_Yard_dune (ppe_ix (ppe_varI 8) ppe_int))) (ppa_cons (ppe_frz (ppc_callMI0 8 Z.c_Yard Z.mt_Yard_dune O_Yard_dune (hr.mono (Nat.le_succ _)) Z.b_Yard_dune (ppe_ix (ppe_varI 8) ppe_int))) ppa_nil)))) ppe_bl (nomark _)) (ppw_or1 (ppt_cmp (cm_ne (hu64 (hr.mono (Nat.le_succ _)))) (ppe_frz (ppc_callMI0 8 Z.c_Yard Z.mt_Yard_dune O_Yard_dune (hr.mono (Nat.le_succ _)) Z.b_Yard_dune (ppe_ix (ppe_varI 8) ppe_int))) (ppe_frz (ppc_callA O_upside (hr.mono (Nat.le_succ _)) (by rfl) Z.m_upside Z.F_upside.kp Z.b_upside (ppa_cons (ppe_frz (ppc_callMI0 8 Z.c_Yard Z.mt_Yard_dune O_Yard_dune (hr.mono (Nat.le_succ _)) Z.b_Yard_dune (ppe_ix (ppe_varI 8) ppe_int))) ppa_nil))) (nomark _)))))
    (ppss_one (pps_ret (ppc_val ppe_bl)))
    ppss_nil)))))
    (ppss_cons (pps_set (i := 18) sc__law_right.nd (ppc_val (ppe_lcL (own := [("_law_yard", 12)]) rfl sc__law_right.nd (ppi_seq (ppe_varI 8)) (blkOk_by (N := NN__law_right) (sc := defScope s__law_right) (by decide +kernel)) (fun _ _ _ _ _ => ((ptg_name (i := 12) sc__law_right.nd)).lift) (fun _ _ _ _ _ => (ppts_nil).lift) (fun _ _ _ _ _ => ((ppe_frz (ppc_callMI0 8 Z.c_Yard Z.mt_Yard_may O_Yard_may (hr.mono (Nat.le_succ _)) Z.b_Yard_may (ppe_var 12)))).lift))))
    (ppss_cons (pps_if (ppt_not (ppt_val (ppe_callB (cr_all rfl) cp_all (by rfl) Z.z_all (by decide +kernel) (ppa_cons (ppe_lcL (own := [("_law_k", 10)]) rfl sc__law_right.nd (ppi_range1 (by rfl) Z.z_range (ppa_cons ppe_int ppa_nil)) (blkOk_by (N := NN__law_right) (sc := defScope s__law_right) (by decide +kernel)) (fun _ _ _ _ _ => ((ptg_name (i := 10) sc__law_right.nd)).lift) (fun _ _ _ _ _ => (ppts_nil).lift) (fun _ _ _ _ _ => ((ppe_cmp cm_isB (ppe_frz (ppc_callA O_is_below (hr.mono (Nat.le_succ _)) (by rfl) Z.m_is_below Z.F_is_below.kp Z.b_is_below (ppa_cons (ppe_ix (ppe_ixO 18 ppe_int) (ppe_var 10)) (ppa_cons (ppe_ix (ppe_ixO 18 ppe_int) (ppe_var 10)) ppa_nil)))) ppe_bl (nomark _))).lift)) ppa_nil))))
    (ppss_one (pps_ret (ppc_val ppe_bl)))
    ppss_nil)
    (ppss_one (pps_ret (ppc_callA O__law_same (hr.mono (Nat.le_succ _)) (by rfl) Z.m__law_same Z.F__law_same.kp Z.b__law_same (ppa_cons (ppe_ixO 18 ppe_int) (ppa_cons (ppe_tup (ppa_cons (ppe_frz (ppc_callA O_upside (hr.mono (Nat.le_succ _)) (by rfl) Z.m_upside Z.F_upside.kp Z.b_upside (ppa_cons (ppe_ix (ppe_ixO 18 ppe_int) ppe_int) ppa_nil))) (ppa_cons (ppe_frz (ppc_callA O_upside (hr.mono (Nat.le_succ _)) (by rfl) Z.m_upside Z.F_upside.kp Z.b_upside (ppa_cons (ppe_ix (ppe_ixO 18 ppe_int) ppe_int) ppa_nil))) ppa_nil))) ppa_nil)))))))))))))⟩
set_option maxHeartbeats 4000000 in
theorem bd_law {k : Nat} {g__law_box : FA} (O__law_box : FnOk P w K mg base CX0 k Z.f__law_box Z.fd__law_box [("_law_script" : Str), ("_law_k" : Str)] (spA K 2 g__law_box)) {g__law_right : FB} (O__law_right : FnOk P w K mg base CX0 k Z.f__law_right Z.fd__law_right [("_law_box_here" : Str)] (spB K 1 g__law_right)) : ∀ (cdv : Value) (A : Around) (outer : List Env) (s : Shared) (H : Hp) (E : XK), Room k (A.deeper (envOfC "law" (defScope s_law) s.heap.objs.size Z.f_law cdv)) → ∃ t, PPSs (cxOf CX0 P w K mg base NN_law "law" (defScope s_law) Z.f_law cdv A outer s H E).nox (defBody s_law) t (T_law g__law_box g__law_right) :=
  fun cdv A outer s H E hr => ⟨_, (ppss_one (pps_ret (ppc_val (ppe_callB (cr_all rfl) cp_all (by rfl) Z.z_all (by decide +kernel) (ppa_cons (ppe_lcL (own := [("_law_k", 1)]) rfl sc_law.nd (ppi_range1 (by rfl) Z.z_range (ppa_cons (ppe_add ppe_int (ppe_callB (call_min2 rfl) cp_min2 (by rfl) Z.z_min (by decide +kernel) (ppa_cons ppe_int (ppa_cons (ppe_lenO 0 (by rfl) Z.z_len) ppa_nil)))) ppa_nil)) (blkOk_by (N := NN_law) (sc := defScope s_law) (by decide +kernel)) (fun _ _ _ _ _ => ((ptg_name (i := 1) sc_law.nd)).lift) (fun _ _ _ _ _ => (ppts_nil).lift) (fun _ _ _ _ _ => ((ppe_frz (ppc_callX O__law_right hr (by rfl) Z.m__law_right Z.F__law_right.kp Z.b__law_right (ppc_callA O__law_box hr (by rfl) Z.m__law_box Z.F__law_box.kp Z.b__law_box (ppa_cons (ppe_var 0) (ppa_cons (ppe_var 1) ppa_nil))) ppa_nil))).lift)) ppa_nil)))))⟩
set_option maxHeartbeats 4000000 in
theorem bd_Yard___init__ {k : Nat} : ∀ (cdv : Value) (A : Around) (outer : List Env) (s : Shared) (H : Hp) (E : XK), Room k (A.deeper (envOfC "Yard.__init__" (defScope s_Yard___init__) s.heap.objs.size Z.f_Yard___init__ cdv)) → ∃ t, PPSs (cxOf CX0 P w K mg base NN_Yard___init__ "Yard.__init__" (defScope s_Yard___init__) Z.f_Yard___init__ cdv A outer s H E).nox (defBody s_Yard___init__) t (T_Yard___init__ Z.C_Yard) :=
  fun cdv A outer s H E hr => ⟨_, (ppss_cons (pps_fldSet 0 Z.c_Yard Z.na_origin (ppe_callTy call_tuple_of cp_tup (by rfl) Z.z_tuple (by decide +kernel) (ppa_cons (ppe_var 1) ppa_nil)))
    (ppss_cons (pps_fldSetC 0 Z.c_Yard Z.na_standing (ppc_lst ppa_nil))
    (ppss_one (pps_fldSetC 0 Z.c_Yard Z.na_notes (ppc_lst ppa_nil)))))⟩
set_option maxHeartbeats 4000000 in
theorem bd_Yard_blow {k : Nat} {g_Yard_do_all : FM} (O_Yard_do_all : FnOk P w K mg base CX0 k Z.f_Yard_do_all Z.fd_Yard_do_all [("self" : Str), ("entries" : Str)] (spM K 2 Z.C_Yard g_Yard_do_all)) : ∀ (cdv : Value) (A : Around) (outer : List Env) (s : Shared) (H : Hp) (E : XK), Room k (A.deeper (envOfC "Yard.blow" (defScope s_Yard_blow) s.heap.objs.size Z.f_Yard_blow cdv)) → ∃ t, PPSs (cxOf CX0 P w K mg base NN_Yard_blow "Yard.blow" (defScope s_Yard_blow) Z.f_Yard_blow cdv A outer s H E).nox (defBody s_Yard_blow) t (T_Yard_blow Z.C_Yard g_Yard_do_all) :=
  fun cdv A outer s H E hr => ⟨_, (ppss_one (pps_ret (ppc_val (ppe_ix (ppe_frz (ppc_callM 0 Z.c_Yard Z.mt_Yard_do_all O_Yard_do_all hr Z.b_Yard_do_all (ppa_cons (ppe_lst (ppa_cons (ppe_tup (ppa_cons (ppe_var 1) (ppa_cons (ppe_var 2) ppa_nil))) ppa_nil)) ppa_nil))) ppe_int))))⟩
set_option maxHeartbeats 4000000 in
theorem bd_Yard_hand {k : Nat} {g_Yard_do_all : FM} (O_Yard_do_all : FnOk P w K mg base CX0 k Z.f_Yard_do_all Z.fd_Yard_do_all [("self" : Str), ("entries" : Str)] (spM K 2 Z.C_Yard g_Yard_do_all)) : ∀ (cdv : Value) (A : Around) (outer : List Env) (s : Shared) (H : Hp) (E : XK), Room k (A.deeper (envOfC "Yard.hand" (defScope s_Yard_hand) s.heap.objs.size Z.f_Yard_hand cdv)) → ∃ t, PPSs (cxOf CX0 P w K mg base NN_Yard_hand "Yard.hand" (defScope s_Yard_hand) Z.f_Yard_hand cdv A outer s H E).nox (defBody s_Yard_hand) t (T_Yard_hand Z.C_Yard g_Yard_do_all) :=
  fun cdv A outer s H E hr => ⟨_, (ppss_one (pps_expr (ppe_frz (ppc_callM 0 Z.c_Yard Z.mt_Yard_do_all O_Yard_do_all hr Z.b_Yard_do_all (ppa_cons (ppe_lst (ppa_cons (ppe_tup (ppa_cons ppe_str (ppa_cons (ppe_var 1) (ppa_cons (ppe_var 2) ppa_nil)))) ppa_nil)) ppa_nil)))))⟩
set_option maxHeartbeats 4000000 in
theorem bd_Yard_do_all {k : Nat} {g_is_hand : FA} (O_is_hand : FnOk P w K mg base CX0 k Z.f_is_hand Z.fd_is_hand [("entry" : Str)] (spA K 1 g_is_hand)) {g_outcome : FA} (O_outcome : FnOk P w K mg base CX0 k Z.f_outcome Z.fd_outcome [("dune" : Str), ("entry" : Str)] (spA K 2 g_outcome)) {g_Yard_dune : FM} (O_Yard_dune : FnOk P w K mg base CX0 k Z.f_Yard_dune Z.fd_Yard_dune [("self" : Str)] (spM K 1 Z.C_Yard g_Yard_dune)) : ∀ (cdv : Value) (A : Around) (outer : List Env) (s : Shared) (H : Hp) (E : XK), Room k (A.deeper (envOfC "Yard.do_all" (defScope s_Yard_do_all) s.heap.objs.size Z.f_Yard_do_all cdv)) → ∃ t, PPSs (cxOf CX0 P w K mg base NN_Yard_do_all "Yard.do_all" (defScope s_Yard_do_all) Z.f_Yard_do_all cdv A outer s H E).nox (defBody s_Yard_do_all) t (T_Yard_do_all Z.C_Yard g_is_hand g_outcome g_Yard_dune) :=
  fun cdv A outer s H E hr => ⟨_, (ppss_cons (pps_set (i := 2) sc_Yard_do_all.nd (ppc_callM0 0 Z.c_Yard Z.mt_Yard_dune O_Yard_dune hr Z.b_Yard_dune))
    (ppss_cons (pps_set (i := 3) sc_Yard_do_all.nd (ppc_lst ppa_nil))
    (ppss_cons (pps_for PassesOwn.never rfl (ppi_seq (ppe_var 1)) (ptg_name (i := 4) sc_Yard_do_all.nd)
    (ppss_cons (pps_set (i := 5) sc_Yard_do_all.nd (ppc_val (ppe_ifExp (ppt_val (ppe_frz (ppc_callA O_is_hand hr (by rfl) Z.m_is_hand Z.F_is_hand.kp Z.b_is_hand (ppa_cons (ppe_var 4) ppa_nil)))) ppe_str ppe_str)))
    (ppss_cons (pps_fldApp 0 Z.c_Yard Z.na_notes (ppe_tup (ppa_cons ppe_str (ppa_cons (ppe_var 5) ppa_nil))))
    (ppss_cons (pps_tryFin (ppss_one (pps_asg (ppe_frz (ppc_callA O_outcome hr (by rfl) Z.m_outcome Z.F_outcome.kp Z.b_outcome (ppa_cons (ppe_var 2) (ppa_cons (ppe_var 4) ppa_nil)))) (ptg_tup (n := 2) rfl (ptgs_cons (ptg_name (i := 2) sc_Yard_do_all.nd) (ptgs_cons (ptg_name (i := 6) sc_Yard_do_all.nd) ptgs_nil)))))
    (ppss_one (pps_fldApp 0 Z.c_Yard Z.na_notes (ppe_tup (ppa_cons ppe_str (ppa_cons (ppe_var 5) ppa_nil))))))
    (ppss_one (pps_append 3 (ppe_var 6)))))))
    (ppss_cons (pps_fldApp 0 Z.c_Yard Z.na_standing (ppe_callTy call_tuple_of cp_tup (by rfl) Z.z_tuple (by decide +kernel) (ppa_cons (ppe_lcL (own := [("entry", 4)]) rfl sc_Yard_do_all.nd (ppi_seq (ppe_var 1)) (blkOk_by (N := NN_Yard_do_all) (sc := defScope s_Yard_do_all) (by decide +kernel)) (fun _ _ _ _ _ => ((ptg_name (i := 4) sc_Yard_do_all.nd)).lift) (fun _ _ _ _ _ => (ppts_nil).lift) (fun _ _ _ _ _ => ((ppe_callTy call_tuple_of cp_tup (by rfl) Z.z_tuple (by decide +kernel) (ppa_cons (ppe_var 4) ppa_nil))).lift)) ppa_nil)))
    (ppss_one (pps_ret (ppc_move 3)))))))⟩
set_option maxHeartbeats 4000000 in
theorem bd_Yard_undo {k : Nat} : ∀ (cdv : Value) (A : Around) (outer : List Env) (s : Shared) (H : Hp) (E : XK), Room k (A.deeper (envOfC "Yard.undo" (defScope s_Yard_undo) s.heap.objs.size Z.f_Yard_undo cdv)) → ∃ t, PPSs (cxOf CX0 P w K mg base NN_Yard_undo "Yard.undo" (defScope s_Yard_undo) Z.f_Yard_undo cdv A outer s H E).nox (defBody s_Yard_undo) t (T_Yard_undo Z.C_Yard) :=
  fun cdv A outer s H E hr => ⟨_, (ppss_cons (pps_fldApp 0 Z.c_Yard Z.na_notes (ppe_tup (ppa_cons ppe_str (ppa_cons ppe_str ppa_nil))))
    (ppss_cons (pps_set (i := 1) sc_Yard_undo.nd (ppc_val (ppe_cmp cm_gt (ppe_fldLen 0 Z.c_Yard Z.na_standing (by rfl) Z.z_len) ppe_int (nomark _))))
    (ppss_cons (pps_if (ppt_val (ppe_var 1))
    (ppss_one (pps_expr (ppe_fldPop 0 Z.c_Yard Z.na_standing)))
    ppss_nil)
    (ppss_cons (pps_fldApp 0 Z.c_Yard Z.na_notes (ppe_tup (ppa_cons ppe_str (ppa_cons ppe_str ppa_nil))))
    (ppss_one (pps_ret (ppc_move 1)))))))⟩
set_option maxHeartbeats 4000000 in
theorem bd_Yard_dune {k : Nat} {g_done : FA} (O_done : FnOk P w K mg base CX0 k Z.f_done Z.fd_done [("dune" : Str), ("entries" : Str)] (spA K 2 g_done)) {g_Yard_entries : FM} (O_Yard_entries : FnOk P w K mg base CX0 k Z.f_Yard_entries Z.fd_Yard_entries [("self" : Str)] (spM K 1 Z.C_Yard g_Yard_entries)) : ∀ (cdv : Value) (A : Around) (outer : List Env) (s : Shared) (H : Hp) (E : XK), Room k (A.deeper (envOfC "Yard.dune" (defScope s_Yard_dune) s.heap.objs.size Z.f_Yard_dune cdv)) → ∃ t, PPSs (cxOf CX0 P w K mg base NN_Yard_dune "Yard.dune" (defScope s_Yard_dune) Z.f_Yard_dune cdv A outer s H E).nox (defBody s_Yard_dune) t (T_Yard_dune Z.C_Yard g_done g_Yard_entries) :=
  fun cdv A outer s H E hr => ⟨_, (ppss_one (pps_ret (ppc_callA O_done hr (by rfl) Z.m_done Z.F_done.kp Z.b_done (ppa_cons (ppe_fldV 0 Z.c_Yard Z.na_origin) (ppa_cons (ppe_frz (ppc_callM0 0 Z.c_Yard Z.mt_Yard_entries O_Yard_entries hr Z.b_Yard_entries)) ppa_nil)))))⟩
set_option maxHeartbeats 4000000 in
theorem bd_Yard_entries {k : Nat} : ∀ (cdv : Value) (A : Around) (outer : List Env) (s : Shared) (H : Hp) (E : XK), Room k (A.deeper (envOfC "Yard.entries" (defScope s_Yard_entries) s.heap.objs.size Z.f_Yard_entries cdv)) → ∃ t, PPSs (cxOf CX0 P w K mg base NN_Yard_entries "Yard.entries" (defScope s_Yard_entries) Z.f_Yard_entries cdv A outer s H E).nox (defBody s_Yard_entries) t (T_Yard_entries Z.C_Yard) :=
  fun cdv A outer s H E hr => ⟨_, (ppss_one (pps_ret (ppc_lc2F (own := [("deed", 1), ("entry", 2)]) (vs1 := [2]) 0 Z.c_Yard Z.na_standing rfl sc_Yard_entries.nd (blkOk_by (N := NN_Yard_entries) (sc := defScope s_Yard_entries) (by decide +kernel)) (by decide) (fun _ _ _ _ _ => ((ptg_name (i := 1) sc_Yard_entries.nd)).lift) (fun _ _ _ _ _ => (ppts_nil).lift) (fun _ _ _ _ _ => ((ppi_seq (ppe_var 1))).lift) (fun _ _ _ _ _ => ((ptg_name (i := 2) sc_Yard_entries.nd)).lift) (fun _ _ _ _ _ => (ppts_nil).lift) (fun _ _ _ _ _ => ((ppe_var 2)).lift))))⟩
set_option maxHeartbeats 4000000 in
theorem bd_Yard_kept_by {k : Nat} {g_entries_with : FA} (O_entries_with : FnOk P w K mg base CX0 k Z.f_entries_with Z.fd_entries_with [("entries" : Str), ("words" : Str)] (spA K 2 g_entries_with)) {g_Yard_entries : FM} (O_Yard_entries : FnOk P w K mg base CX0 k Z.f_Yard_entries Z.fd_Yard_entries [("self" : Str)] (spM K 1 Z.C_Yard g_Yard_entries)) : ∀ (cdv : Value) (A : Around) (outer : List Env) (s : Shared) (H : Hp) (E : XK), Room k (A.deeper (envOfC "Yard.kept_by" (defScope s_Yard_kept_by) s.heap.objs.size Z.f_Yard_kept_by cdv)) → ∃ t, PPSs (cxOf CX0 P w K mg base NN_Yard_kept_by "Yard.kept_by" (defScope s_Yard_kept_by) Z.f_Yard_kept_by cdv A outer s H E).nox (defBody s_Yard_kept_by) t (T_Yard_kept_by Z.C_Yard g_entries_with g_Yard_entries) :=
  fun cdv A outer s H E hr => ⟨_, (ppss_one (pps_ret (ppc_callA O_entries_with hr (by rfl) Z.m_entries_with Z.F_entries_with.kp Z.b_entries_with (ppa_cons (ppe_frz (ppc_callM0 0 Z.c_Yard Z.mt_Yard_entries O_Yard_entries hr Z.b_Yard_entries)) (ppa_cons (ppe_tup (ppa_cons (ppe_var 1) (ppa_cons ppe_str ppa_nil))) ppa_nil)))))⟩
set_option maxHeartbeats 4000000 in
theorem bd_Yard_may {k : Nat} {g_long_may : FA} (O_long_may : FnOk P w K mg base CX0 k Z.f_long_may Z.fd_long_may [("dune" : Str), ("cutter" : Str), ("filler" : Str)] (spA K 3 g_long_may)) {g_Yard_kept_by : FM} (O_Yard_kept_by : FnOk P w K mg base CX0 k Z.f_Yard_kept_by Z.fd_Yard_kept_by [("self" : Str), ("word" : Str)] (spM K 2 Z.C_Yard g_Yard_kept_by)) : ∀ (cdv : Value) (A : Around) (outer : List Env) (s : Shared) (H : Hp) (E : XK), Room k (A.deeper (envOfC "Yard.may" (defScope s_Yard_may) s.heap.objs.size Z.f_Yard_may cdv)) → ∃ t, PPSs (cxOf CX0 P w K mg base NN_Yard_may "Yard.may" (defScope s_Yard_may) Z.f_Yard_may cdv A outer s H E).nox (defBody s_Yard_may) t (T_Yard_may Z.C_Yard g_long_may g_Yard_kept_by) :=
  fun cdv A outer s H E hr => ⟨_, (ppss_one (pps_ret (ppc_callA O_long_may hr (by rfl) Z.m_long_may Z.F_long_may.kp Z.b_long_may (ppa_cons (ppe_fldV 0 Z.c_Yard Z.na_origin) (ppa_cons (ppe_frz (ppc_callM 0 Z.c_Yard Z.mt_Yard_kept_by O_Yard_kept_by hr Z.b_Yard_kept_by (ppa_cons ppe_str ppa_nil))) (ppa_cons (ppe_frz (ppc_callM 0 Z.c_Yard Z.mt_Yard_kept_by O_Yard_kept_by hr Z.b_Yard_kept_by (ppa_cons ppe_str ppa_nil))) ppa_nil))))))⟩
end
section
variable {P : Program} {w : World} {K : PySem.W.Frag} {mg : Str → Option Value} {base : Heap} (Z : Tx K mg)
include Z
theorem ok_sand : FnOk P w K mg base CX0 1 Z.f_sand Z.fd_sand ["dune"] (spA K 1 g_sand) := okA Z.F_sand sc_sand (bd_sand Z (k := 0) ) rd_sand
theorem ok_mirrored : FnOk P w K mg base CX0 1 Z.f_mirrored Z.fd_mirrored ["dune"] (spA K 1 g_mirrored) := okA Z.F_mirrored sc_mirrored (bd_mirrored Z (k := 0) ) rd_mirrored
theorem ok_upside : FnOk P w K mg base CX0 1 Z.f_upside Z.fd_upside ["dune"] (spA K 1 g_upside) := okA Z.F_upside sc_upside (bd_upside Z (k := 0) ) rd_upside
theorem ok_handed : FnOk P w K mg base CX0 1 Z.f_handed Z.fd_handed ["dune", "post", "by"] (spA K 3 g_handed) := okA Z.F_handed sc_handed (bd_handed Z (k := 0) ) rd_handed
theorem ok_cut_onward : FnOk P w K mg base CX0 1 Z.f_cut_onward Z.fd_cut_onward ["dune", "slope"] (spA K 2 g_cut_onward) := okA Z.F_cut_onward sc_cut_onward (bd_cut_onward Z (k := 0) ) rd_cut_onward
theorem ok_cut_to : FnOk P w K mg base CX0 2 Z.f_cut_to Z.fd_cut_to ["dune", "slope"] (spA K 2 g_cut_to) := okA Z.F_cut_to sc_cut_to (bd_cut_to Z (k := 1) ((ok_mirrored Z).mono (by decide)) ((ok_cut_onward Z).mono (by decide))) rd_cut_to
theorem ok_blown : FnOk P w K mg base CX0 3 Z.f_blown Z.fd_blown ["dune", "wind"] (spA K 2 g_blownW) := okA Z.F_blown sc_blown (bd_blown Z (k := 2) ((ok_upside Z).mono (by decide)) ((ok_cut_to Z).mono (by decide))) rd_blownW
theorem ok_days : FnOk P w K mg base CX0 4 Z.f_days Z.fd_days ["dune", "almanac"] (spA K 2 g_daysW) := okA Z.F_days sc_days (bd_days Z (k := 3) ((ok_blown Z).mono (by decide))) rd_daysW
theorem ok_amount : FnOk P w K mg base CX0 2 Z.f_amount Z.fd_amount ["wind", "ahead", "after"] (spA K 3 g_amountW) := okA Z.F_amount sc_amount (bd_amount Z (k := 1) ((ok_sand Z).mono (by decide))) rd_amountW
theorem ok_amounts : FnOk P w K mg base CX0 5 Z.f_amounts Z.fd_amounts ["dune", "almanac"] (spA K 2 g_amounts1) := okA Z.F_amounts sc_amounts (bd_amounts Z (k := 4) ((ok_days Z).mono (by decide)) ((ok_amount Z).mono (by decide))) rd_amounts1
theorem ok_almanac_of : FnOk P w K mg base CX0 1 Z.f_almanac_of Z.fd_almanac_of ["cuts", "fills", "order"] (spA K 3 g_almanac_of) := okA Z.F_almanac_of sc_almanac_of (bd_almanac_of Z (k := 0) ) rd_almanac_of
theorem ok_is_hand : FnOk P w K mg base CX0 1 Z.f_is_hand Z.fd_is_hand ["entry"] (spA K 1 g_is_hand) := okA Z.F_is_hand sc_is_hand (bd_is_hand Z (k := 0) ) rd_is_hand
theorem ok_done : FnOk P w K mg base CX0 4 Z.f_done Z.fd_done ["dune", "entries"] (spA K 2 g_done) := okA Z.F_done sc_done (bd_done Z (k := 3) ((ok_handed Z).mono (by decide)) ((ok_blown Z).mono (by decide)) ((ok_is_hand Z).mono (by decide))) rd_done
theorem ok_entries_with : FnOk P w K mg base CX0 1 Z.f_entries_with Z.fd_entries_with ["entries", "words"] (spA K 2 g_entries_with) := okA Z.F_entries_with sc_entries_with (bd_entries_with Z (k := 0) ) rd_entries_with
theorem ok_slopes_between : FnOk P w K mg base CX0 2 Z.f_slopes_between Z.fd_slopes_between ["book"] (spA K 1 g_slopes_between) := okA Z.F_slopes_between sc_slopes_between (bd_slopes_between Z (k := 1) ((ok_is_hand Z).mono (by decide))) rd_slopes_between
theorem ok_same_hands : FnOk P w K mg base CX0 2 Z.f_same_hands Z.fd_same_hands ["cutter", "filler"] (spA K 2 g_same_hands) := okA Z.F_same_hands sc_same_hands (bd_same_hands Z (k := 1) ((ok_entries_with Z).mono (by decide))) rd_same_hands
theorem ok_stretches : FnOk P w K mg base CX0 3 Z.f_stretches Z.fd_stretches ["cutter", "filler"] (spA K 2 g_stretches) := okA Z.F_stretches sc_stretches (bd_stretches Z (k := 2) ((ok_slopes_between Z).mono (by decide)) ((ok_same_hands Z).mono (by decide))) rd_stretches
theorem ok_all_of_one_first : FnOk P w K mg base CX0 2 Z.f_all_of_one_first Z.fd_all_of_one_first ["parts", "word"] (spA K 2 g_all_of_one_first) := okA Z.F_all_of_one_first sc_all_of_one_first (bd_all_of_one_first Z (k := 1) ((ok_almanac_of Z).mono (by decide))) rd_all_of_one_first
theorem ok_long_may : FnOk P w K mg base CX0 5 Z.f_long_may Z.fd_long_may ["dune", "cutter", "filler"] (spA K 3 g_long_may) := okA Z.F_long_may sc_long_may (bd_long_may Z (k := 4) ((ok_done Z).mono (by decide)) ((ok_stretches Z).mono (by decide)) ((ok_all_of_one_first Z).mono (by decide))) rd_long_may
theorem ok_outcome : FnOk P w K mg base CX0 6 Z.f_outcome Z.fd_outcome ["dune", "entry"] (spA K 2 g_outcome) := okA Z.F_outcome sc_outcome (bd_outcome Z (k := 5) ((ok_amounts Z).mono (by decide)) ((ok_is_hand Z).mono (by decide)) ((ok_done Z).mono (by decide))) rd_outcome
theorem ok_rises : FnOk P w K mg base CX0 1 Z.f_rises Z.fd_rises ["one", "other"] (spA K 2 g_rises) := okA Z.F_rises sc_rises (bd_rises Z (k := 0) ) rd_rises
theorem ok_gaps : FnOk P w K mg base CX0 2 Z.f_gaps Z.fd_gaps ["one", "other"] (spA K 2 g_gaps) := okA Z.F_gaps sc_gaps (bd_gaps Z (k := 1) ((ok_rises Z).mono (by decide))) rd_gaps
theorem ok_width : FnOk P w K mg base CX0 3 Z.f_width Z.fd_width ["one", "other"] (spA K 2 g_width) := okA Z.F_width sc_width (bd_width Z (k := 2) ((ok_gaps Z).mono (by decide))) rd_width
theorem ok_is_below : FnOk P w K mg base CX0 2 Z.f_is_below Z.fd_is_below ["one", "other"] (spA K 2 g_is_below) := okA Z.F_is_below sc_is_below (bd_is_below Z (k := 1) ((ok_rises Z).mono (by decide))) rd_is_below
theorem ok__law_cell_at : FnOk P w K mg base CX0 1 Z.f__law_cell_at Z.fd__law_cell_at ["_law_script", "_law_k"] (spA K 2 g__law_cell_at) := okA Z.F__law_cell_at sc__law_cell_at (bd__law_cell_at Z (k := 0) ) rd__law_cell_at
theorem ok__law_box : FnOk P w K mg base CX0 2 Z.f__law_box Z.fd__law_box ["_law_script", "_law_k"] (spA K 2 g__law_box) := okA Z.F__law_box sc__law_box (bd__law_box Z (k := 1) ((ok__law_cell_at Z).mono (by decide))) rd__law_box
theorem ok__law_take_0 : FnOk P w K mg base CX0 1 Z.f__law_take Z.fd__law_take ["_law_box_here", "_law_size"] (spB K 2 g_take0) := okB Z.F__law_take sc__law_take (bd__law_take Z (k := 0) (fnNoneB Z.F__law_take)) rd_take0
theorem ok__law_take : FnOk P w K mg base CX0 2 Z.f__law_take Z.fd__law_take ["_law_box_here", "_law_size"] (spB K 2 (g_take 100000000000000)) := okB Z.F__law_take sc__law_take (bd__law_take Z (k := 1) ((ok__law_take_0 Z).mono (by decide))) rd_take
theorem ok__law_same_0 : FnOk P w K mg base CX0 1 Z.f__law_same Z.fd__law_same ["_law_told", "_law_due"] (spA K 2 (gS 1)) := okA Z.F__law_same sc__law_same (bd__law_same Z (k := 0) (fnNoneA Z.F__law_same)) (rd_same 0)
theorem ok__law_same_1 : FnOk P w K mg base CX0 2 Z.f__law_same Z.fd__law_same ["_law_told", "_law_due"] (spA K 2 (gS 2)) := okA Z.F__law_same sc__law_same (bd__law_same Z (k := 1) ((ok__law_same_0 Z).mono (by decide))) (rd_same 1)
theorem ok__law_same_2 : FnOk P w K mg base CX0 3 Z.f__law_same Z.fd__law_same ["_law_told", "_law_due"] (spA K 2 (gS 3)) := okA Z.F__law_same sc__law_same (bd__law_same Z (k := 2) ((ok__law_same_1 Z).mono (by decide))) (rd_same 2)
theorem ok__law_same : FnOk P w K mg base CX0 4 Z.f__law_same Z.fd__law_same ["_law_told", "_law_due"] (spA K 2 (gS 4)) := okA Z.F__law_same sc__law_same (bd__law_same Z (k := 3) ((ok__law_same_2 Z).mono (by decide))) (rd_same 3)
theorem ok__law_dune : FnOk P w K mg base CX0 3 Z.f__law_dune Z.fd__law_dune ["_law_box_here", "_law_size"] (spB K 2 g__law_dune) := okB Z.F__law_dune sc__law_dune (bd__law_dune Z (k := 2) ((ok__law_take Z).mono (by decide))) rd__law_dune
theorem ok__law_slope : FnOk P w K mg base CX0 3 Z.f__law_slope Z.fd__law_slope ["_law_box_here"] (spB K 1 g__law_slope) := okB Z.F__law_slope sc__law_slope (bd__law_slope Z (k := 2) ((ok__law_take Z).mono (by decide))) rd__law_slope
theorem ok__law_entry : FnOk P w K mg base CX0 4 Z.f__law_entry Z.fd__law_entry ["_law_box_here", "_law_posts"] (spB K 2 g__law_entry) := okB Z.F__law_entry sc__law_entry (bd__law_entry Z (k := 3) ((ok__law_take Z).mono (by decide)) ((ok__law_slope Z).mono (by decide))) rd__law_entry
theorem ok_Yard_entries : FnOk P w K mg base CX0 1 Z.f_Yard_entries Z.fd_Yard_entries ["self"] (spM K 1 Z.C_Yard g_Yard_entries) := okM Z.F_Yard_entries sc_Yard_entries (bd_Yard_entries Z (k := 0) ) rd_Yard_entries
theorem ok_Yard_dune : FnOk P w K mg base CX0 5 Z.f_Yard_dune Z.fd_Yard_dune ["self"] (spM K 1 Z.C_Yard g_Yard_dune) := okM Z.F_Yard_dune sc_Yard_dune (bd_Yard_dune Z (k := 4) ((ok_done Z).mono (by decide)) ((ok_Yard_entries Z).mono (by decide))) rd_Yard_dune
theorem ok_Yard_do_all : FnOk P w K mg base CX0 7 Z.f_Yard_do_all Z.fd_Yard_do_all ["self", "entries"] (spM K 2 Z.C_Yard g_Yard_do_all) := okM Z.F_Yard_do_all sc_Yard_do_all (bd_Yard_do_all Z (k := 6) ((ok_is_hand Z).mono (by decide)) ((ok_outcome Z).mono (by decide)) ((ok_Yard_dune Z).mono (by decide))) rd_Yard_do_all
theorem ok_Yard_blow : FnOk P w K mg base CX0 8 Z.f_Yard_blow Z.fd_Yard_blow ["self", "word", "slope"] (spM K 3 Z.C_Yard g_Yard_blow) := okM Z.F_Yard_blow sc_Yard_blow (bd_Yard_blow Z (k := 7) ((ok_Yard_do_all Z).mono (by decide))) rd_Yard_blow
theorem ok_Yard_hand : FnOk P w K mg base CX0 8 Z.f_Yard_hand Z.fd_Yard_hand ["self", "post", "by"] (spM K 3 Z.C_Yard g_Yard_hand) := okM Z.F_Yard_hand sc_Yard_hand (bd_Yard_hand Z (k := 7) ((ok_Yard_do_all Z).mono (by decide))) rd_Yard_hand
theorem ok__law_do_one : FnOk P w K mg base CX0 9 Z.f__law_do_one Z.fd__law_do_one ["_law_yard", "_law_entry_here"] (spM K 2 Z.C_Yard g__law_do_one) := okM Z.F__law_do_one sc__law_do_one (bd__law_do_one Z (k := 8) ((ok_Yard_blow Z).mono (by decide)) ((ok_Yard_hand Z).mono (by decide))) rd__law_do_one
theorem ok__law_turned : FnOk P w K mg base CX0 1 Z.f__law_turned Z.fd__law_turned ["_law_entry_here"] (spA K 1 g__law_turned) := okA Z.F__law_turned sc__law_turned (bd__law_turned Z (k := 0) ) rd__law_turned
theorem ok_Yard___init__ : FnOk P w K mg base CX0 1 Z.f_Yard___init__ Z.fd_Yard___init__ ["self", "dune"] (spM K 2 Z.C_Yard g_Yard___init__) := okM Z.F_Yard___init__ sc_Yard___init__ (bd_Yard___init__ Z (k := 0) ) rd_Yard___init__
theorem ok_Yard_undo : FnOk P w K mg base CX0 1 Z.f_Yard_undo Z.fd_Yard_undo ["self"] (spM K 1 Z.C_Yard g_Yard_undo) := okM Z.F_Yard_undo sc_Yard_undo (bd_Yard_undo Z (k := 0) ) rd_Yard_undo
theorem ok_Yard_kept_by : FnOk P w K mg base CX0 2 Z.f_Yard_kept_by Z.fd_Yard_kept_by ["self", "word"] (spM K 2 Z.C_Yard g_Yard_kept_by) := okM Z.F_Yard_kept_by sc_Yard_kept_by (bd_Yard_kept_by Z (k := 1) ((ok_entries_with Z).mono (by decide)) ((ok_Yard_entries Z).mono (by decide))) rd_Yard_kept_by
theorem ok_Yard_may : FnOk P w K mg base CX0 6 Z.f_Yard_may Z.fd_Yard_may ["self"] (spM K 1 Z.C_Yard g_Yard_may) := okM Z.F_Yard_may sc_Yard_may (bd_Yard_may Z (k := 5) ((ok_long_may Z).mono (by decide)) ((ok_Yard_kept_by Z).mono (by decide))) rd_Yard_may
theorem ok__law_right : FnOk P w K mg base CX0 11 Z.f__law_right Z.fd__law_right ["_law_box_here"] (spB K 1 g__law_right) := okB Z.F__law_right sc__law_right (bd__law_right Z (k := 9) ((ok_upside Z).mono (by decide)) ((ok_Yard___init__ Z).mono (by decide)) ((ok_Yard_undo Z).mono (by decide)) ((ok_Yard_dune Z).mono (by decide)) ((ok_Yard_may Z).mono (by decide)) ((ok_width Z).mono (by decide)) ((ok_is_below Z).mono (by decide)) ((ok__law_take Z).mono (by decide)) ((ok__law_same Z).mono (by decide)) ((ok__law_dune Z).mono (by decide)) ((ok__law_entry Z).mono (by decide)) ((ok__law_do_one Z).mono (by decide)) ((ok__law_turned Z).mono (by decide))) rd__law_right
theorem ok_law : FnOk P w K mg base CX0 12 Z.f_law Z.fd_law ["_law_script"] (spA K 1 g_law) := okA Z.F_law sc_law (bd_law Z (k := 11) ((ok__law_box Z).mono (by decide)) ((ok__law_right Z).mono (by decide))) rd_law
end
set_option maxHeartbeats 4000000 in
theorem all_mk {l : PySem.W.OpenLaw} {w : World} {K : PySem.W.Frag} {h : Heap} {mg : Str → Option Value} {fa : Addr} (X : K.In h) (G : h.Ns mainGlobals mg) (hfa : mg "law" = some (.ref fa)) {yC : Addr} {f0 : Addr} {od0 an0 : Option Addr} {sl0 : Array (Option Value)} {oc0 kV0 dc0 pm0 cd0 ct0 : Value} {f1 : Addr} {od1 an1 : Option Addr} {sl1 : Array (Option Value)} {oc1 kV1 dc1 pm1 cd1 ct1 : Value} {f2 : Addr} {od2 an2 : Option Addr} {sl2 : Array (Option Value)} {oc2 kV2 dc2 pm2 cd2 ct2 : Value} {f3 : Addr} {od3 an3 : Option Addr} {sl3 : Array (Option Value)} {oc3 kV3 dc3 pm3 cd3 ct3 : Value} {f4 : Addr} {od4 an4 : Option Addr} {sl4 : Array (Option Value)} {oc4 kV4 dc4 pm4 cd4 ct4 : Value} {f5 : Addr} {od5 an5 : Option Addr} {sl5 : Array (Option Value)} {oc5 kV5 dc5 pm5 cd5 ct5 : Value} {f6 : Addr} {od6 an6 : Option Addr} {sl6 : Array (Option Value)} {oc6 kV6 dc6 pm6 cd6 ct6 : Value} {f7 : Addr} {od7 an7 : Option Addr} {sl7 : Array (Option Value)} {oc7 kV7 dc7 pm7 cd7 ct7 : Value} {f8 : Addr} {od8 an8 : Option Addr} {sl8 : Array (Option Value)} {oc8 kV8 dc8 pm8 cd8 ct8 : Value} {f9 : Addr} {od9 an9 : Option Addr} {sl9 : Array (Option Value)} {oc9 kV9 dc9 pm9 cd9 ct9 : Value} {f10 : Addr} {od10 an10 : Option Addr} {sl10 : Array (Option Value)} {oc10 kV10 dc10 pm10 cd10 ct10 : Value} {f11 : Addr} {od11 an11 : Option Addr} {sl11 : Array (Option Value)} {oc11 kV11 dc11 pm11 cd11 ct11 : Value} {f12 : Addr} {od12 an12 : Option Addr} {sl12 : Array (Option Value)} {oc12 kV12 dc12 pm12 cd12 ct12 : Value} {f13 : Addr} {od13 an13 : Option Addr} {sl13 : Array (Option Value)} {oc13 kV13 dc13 pm13 cd13 ct13 : Value} {f14 : Addr} {od14 an14 : Option Addr} {sl14 : Array (Option Value)} {oc14 kV14 dc14 pm14 cd14 ct14 : Value} {f15 : Addr} {od15 an15 : Option Addr} {sl15 : Array (Option Value)} {oc15 kV15 dc15 pm15 cd15 ct15 : Value} {f16 : Addr} {od16 an16 : Option Addr} {sl16 : Array (Option Value)} {oc16 kV16 dc16 pm16 cd16 ct16 : Value} {f17 : Addr} {od17 an17 : Option Addr} {sl17 : Array (Option Value)} {oc17 kV17 dc17 pm17 cd17 ct17 : Value} {f18 : Addr} {od18 an18 : Option Addr} {sl18 : Array (Option Value)} {oc18 kV18 dc18 pm18 cd18 ct18 : Value} {f19 : Addr} {od19 an19 : Option Addr} {sl19 : Array (Option Value)} {oc19 kV19 dc19 pm19 cd19 ct19 : Value} {f20 : Addr} {od20 an20 : Option Addr} {sl20 : Array (Option Value)} {oc20 kV20 dc20 pm20 cd20 ct20 : Value} {f21 : Addr} {od21 an21 : Option Addr} {sl21 : Array (Option Value)} {oc21 kV21 dc21 pm21 cd21 ct21 : Value} {f22 : Addr} {od22 an22 : Option Addr} {sl22 : Array (Option Value)} {oc22 kV22 dc22 pm22 cd22 ct22 : Value} {f23 : Addr} {od23 an23 : Option Addr} {sl23 : Array (Option Value)} {oc23 kV23 dc23 pm23 cd23 ct23 : Value} {f24 : Addr} {od24 an24 : Option Addr} {sl24 : Array (Option Value)} {oc24 kV24 dc24 pm24 cd24 ct24 : Value} {f25 : Addr} {od25 an25 : Option Addr} {sl25 : Array (Option Value)} {oc25 kV25 dc25 pm25 cd25 ct25 : Value} {f26 : Addr} {od26 an26 : Option Addr} {sl26 : Array (Option Value)} {oc26 kV26 dc26 pm26 cd26 ct26 : Value} {f27 : Addr} {od27 an27 : Option Addr} {sl27 : Array (Option Value)} {oc27 kV27 dc27 pm27 cd27 ct27 : Value} {f28 : Addr} {od28 an28 : Option Addr} {sl28 : Array (Option Value)} {oc28 kV28 dc28 pm28 cd28 ct28 : Value} {f29 : Addr} {od29 an29 : Option Addr} {sl29 : Array (Option Value)} {oc29 kV29 dc29 pm29 cd29 ct29 : Value} {f30 : Addr} {od30 an30 : Option Addr} {sl30 : Array (Option Value)} {oc30 kV30 dc30 pm30 cd30 ct30 : Value} {f31 : Addr} {od31 an31 : Option Addr} {sl31 : Array (Option Value)} {oc31 kV31 dc31 pm31 cd31 ct31 : Value} {f32 : Addr} {od32 an32 : Option Addr} {sl32 : Array (Option Value)} {oc32 kV32 dc32 pm32 cd32 ct32 : Value} {f33 : Addr} {od33 an33 : Option Addr} {sl33 : Array (Option Value)} {oc33 kV33 dc33 pm33 cd33 ct33 : Value} {f34 : Addr} {od34 an34 : Option Addr} {sl34 : Array (Option Value)} {oc34 kV34 dc34 pm34 cd34 ct34 : Value} {f35 : Addr} {od35 an35 : Option Addr} {sl35 : Array (Option Value)} {oc35 kV35 dc35 pm35 cd35 ct35 : Value} {f36 : Addr} {od36 an36 : Option Addr} {sl36 : Array (Option Value)} {oc36 kV36 dc36 pm36 cd36 ct36 : Value} {f37 : Addr} {od37 an37 : Option Addr} {sl37 : Array (Option Value)} {oc37 kV37 dc37 pm37 cd37 ct37 : Value} {f38 : Addr} {od38 an38 : Option Addr} {sl38 : Array (Option Value)} {oc38 kV38 dc38 pm38 cd38 ct38 : Value} {f39 : Addr} {od39 an39 : Option Addr} {sl39 : Array (Option Value)} {oc39 kV39 dc39 pm39 cd39 ct39 : Value} {f40 : Addr} {od40 an40 : Option Addr} {sl40 : Array (Option Value)} {oc40 kV40 dc40 pm40 cd40 ct40 : Value} {f41 : Addr} {od41 an41 : Option Addr} {sl41 : Array (Option Value)} {oc41 kV41 dc41 pm41 cd41 ct41 : Value} {f42 : Addr} {od42 an42 : Option Addr} {sl42 : Array (Option Value)} {oc42 kV42 dc42 pm42 cd42 ct42 : Value} {f43 : Addr} {od43 an43 : Option Addr} {sl43 : Array (Option Value)} {oc43 kV43 dc43 pm43 cd43 ct43 : Value} {f44 : Addr} {od44 an44 : Option Addr} {sl44 : Array (Option Value)} {oc44 kV44 dc44 pm44 cd44 ct44 : Value} {f45 : Addr} {od45 an45 : Option Addr} {sl45 : Array (Option Value)} {oc45 kV45 dc45 pm45 cd45 ct45 : Value} {f46 : Addr} {od46 an46 : Option Addr} {sl46 : Array (Option Value)} {oc46 kV46 dc46 pm46 cd46 ct46 : Value} {f47 : Addr} {od47 an47 : Option Addr} {sl47 : Array (Option Value)} {oc47 kV47 dc47 pm47 cd47 ct47 : Value} {f48 : Addr} {od48 an48 : Option Addr} {sl48 : Array (Option Value)} {oc48 kV48 dc48 pm48 cd48 ct48 : Value} {f49 : Addr} {od49 an49 : Option Addr} {sl49 : Array (Option Value)} {oc49 kV49 dc49 pm49 cd49 ct49 : Value}
    (a0 : PySem.W.nsIn K mainGlobals "_wall" = some (some (.ref f0))) (l0 : K.lookup f0 = some ⟨oc0, od0, .func (PySem.W.fnOf "_wall" "_wall" (defArgs s__wall) (defBody s__wall) (defScope s__wall) .none kV0 dc0 pm0 an0 cd0 ct0), sl0⟩) (c0 : PySem.W.codeIn K cd0 "_wall" = true) (k0 : PySem.W.keepIn K (.ref f0) = true)
    (a1 : PySem.W.nsIn K mainGlobals "sand" = some (some (.ref f1))) (l1 : K.lookup f1 = some ⟨oc1, od1, .func (PySem.W.fnOf "sand" "sand" (defArgs s_sand) (defBody s_sand) (defScope s_sand) .none kV1 dc1 pm1 an1 cd1 ct1), sl1⟩) (c1 : PySem.W.codeIn K cd1 "sand" = true) (k1 : PySem.W.keepIn K (.ref f1) = true)
    (a2 : PySem.W.nsIn K mainGlobals "mirrored" = some (some (.ref f2))) (l2 : K.lookup f2 = some ⟨oc2, od2, .func (PySem.W.fnOf "mirrored" "mirrored" (defArgs s_mirrored) (defBody s_mirrored) (defScope s_mirrored) .none kV2 dc2 pm2 an2 cd2 ct2), sl2⟩) (c2 : PySem.W.codeIn K cd2 "mirrored" = true) (k2 : PySem.W.keepIn K (.ref f2) = true)
    (a3 : PySem.W.nsIn K mainGlobals "upside" = some (some (.ref f3))) (l3 : K.lookup f3 = some ⟨oc3, od3, .func (PySem.W.fnOf "upside" "upside" (defArgs s_upside) (defBody s_upside) (defScope s_upside) .none kV3 dc3 pm3 an3 cd3 ct3), sl3⟩) (c3 : PySem.W.codeIn K cd3 "upside" = true) (k3 : PySem.W.keepIn K (.ref f3) = true)
    (a4 : PySem.W.nsIn K mainGlobals "handed" = some (some (.ref f4))) (l4 : K.lookup f4 = some ⟨oc4, od4, .func (PySem.W.fnOf "handed" "handed" (defArgs s_handed) (defBody s_handed) (defScope s_handed) .none kV4 dc4 pm4 an4 cd4 ct4), sl4⟩) (c4 : PySem.W.codeIn K cd4 "handed" = true) (k4 : PySem.W.keepIn K (.ref f4) = true)
    (a5 : PySem.W.nsIn K mainGlobals "blown" = some (some (.ref f5))) (l5 : K.lookup f5 = some ⟨oc5, od5, .func (PySem.W.fnOf "blown" "blown" (defArgs s_blown) (defBody s_blown) (defScope s_blown) .none kV5 dc5 pm5 an5 cd5 ct5), sl5⟩) (c5 : PySem.W.codeIn K cd5 "blown" = true) (k5 : PySem.W.keepIn K (.ref f5) = true)
    (a6 : PySem.W.nsIn K mainGlobals "cut_to" = some (some (.ref f6))) (l6 : K.lookup f6 = some ⟨oc6, od6, .func (PySem.W.fnOf "cut_to" "cut_to" (defArgs s_cut_to) (defBody s_cut_to) (defScope s_cut_to) .none kV6 dc6 pm6 an6 cd6 ct6), sl6⟩) (c6 : PySem.W.codeIn K cd6 "cut_to" = true) (k6 : PySem.W.keepIn K (.ref f6) = true)
    (a7 : PySem.W.nsIn K mainGlobals "cut_onward" = some (some (.ref f7))) (l7 : K.lookup f7 = some ⟨oc7, od7, .func (PySem.W.fnOf "cut_onward" "cut_onward" (defArgs s_cut_onward) (defBody s_cut_onward) (defScope s_cut_onward) .none kV7 dc7 pm7 an7 cd7 ct7), sl7⟩) (c7 : PySem.W.codeIn K cd7 "cut_onward" = true) (k7 : PySem.W.keepIn K (.ref f7) = true)
    (a8 : PySem.W.nsIn K mainGlobals "days" = some (some (.ref f8))) (l8 : K.lookup f8 = some ⟨oc8, od8, .func (PySem.W.fnOf "days" "days" (defArgs s_days) (defBody s_days) (defScope s_days) .none kV8 dc8 pm8 an8 cd8 ct8), sl8⟩) (c8 : PySem.W.codeIn K cd8 "days" = true) (k8 : PySem.W.keepIn K (.ref f8) = true)
    (a9 : PySem.W.nsIn K mainGlobals "amount" = some (some (.ref f9))) (l9 : K.lookup f9 = some ⟨oc9, od9, .func (PySem.W.fnOf "amount" "amount" (defArgs s_amount) (defBody s_amount) (defScope s_amount) .none kV9 dc9 pm9 an9 cd9 ct9), sl9⟩) (c9 : PySem.W.codeIn K cd9 "amount" = true) (k9 : PySem.W.keepIn K (.ref f9) = true)
    (a10 : PySem.W.nsIn K mainGlobals "amounts" = some (some (.ref f10))) (l10 : K.lookup f10 = some ⟨oc10, od10, .func (PySem.W.fnOf "amounts" "amounts" (defArgs s_amounts) (defBody s_amounts) (defScope s_amounts) .none kV10 dc10 pm10 an10 cd10 ct10), sl10⟩) (c10 : PySem.W.codeIn K cd10 "amounts" = true) (k10 : PySem.W.keepIn K (.ref f10) = true)
    (a11 : PySem.W.nsIn K mainGlobals "almanac_of" = some (some (.ref f11))) (l11 : K.lookup f11 = some ⟨oc11, od11, .func (PySem.W.fnOf "almanac_of" "almanac_of" (defArgs s_almanac_of) (defBody s_almanac_of) (defScope s_almanac_of) .none kV11 dc11 pm11 an11 cd11 ct11), sl11⟩) (c11 : PySem.W.codeIn K cd11 "almanac_of" = true) (k11 : PySem.W.keepIn K (.ref f11) = true)
    (a12 : PySem.W.nsIn K mainGlobals "is_hand" = some (some (.ref f12))) (l12 : K.lookup f12 = some ⟨oc12, od12, .func (PySem.W.fnOf "is_hand" "is_hand" (defArgs s_is_hand) (defBody s_is_hand) (defScope s_is_hand) .none kV12 dc12 pm12 an12 cd12 ct12), sl12⟩) (c12 : PySem.W.codeIn K cd12 "is_hand" = true) (k12 : PySem.W.keepIn K (.ref f12) = true)
    (a13 : PySem.W.nsIn K mainGlobals "done" = some (some (.ref f13))) (l13 : K.lookup f13 = some ⟨oc13, od13, .func (PySem.W.fnOf "done" "done" (defArgs s_done) (defBody s_done) (defScope s_done) .none kV13 dc13 pm13 an13 cd13 ct13), sl13⟩) (c13 : PySem.W.codeIn K cd13 "done" = true) (k13 : PySem.W.keepIn K (.ref f13) = true)
    (a14 : PySem.W.nsIn K mainGlobals "entries_with" = some (some (.ref f14))) (l14 : K.lookup f14 = some ⟨oc14, od14, .func (PySem.W.fnOf "entries_with" "entries_with" (defArgs s_entries_with) (defBody s_entries_with) (defScope s_entries_with) .none kV14 dc14 pm14 an14 cd14 ct14), sl14⟩) (c14 : PySem.W.codeIn K cd14 "entries_with" = true) (k14 : PySem.W.keepIn K (.ref f14) = true)
    (a15 : PySem.W.nsIn K mainGlobals "slopes_between" = some (some (.ref f15))) (l15 : K.lookup f15 = some ⟨oc15, od15, .func (PySem.W.fnOf "slopes_between" "slopes_between" (defArgs s_slopes_between) (defBody s_slopes_between) (defScope s_slopes_between) .none kV15 dc15 pm15 an15 cd15 ct15), sl15⟩) (c15 : PySem.W.codeIn K cd15 "slopes_between" = true) (k15 : PySem.W.keepIn K (.ref f15) = true)
    (a16 : PySem.W.nsIn K mainGlobals "same_hands" = some (some (.ref f16))) (l16 : K.lookup f16 = some ⟨oc16, od16, .func (PySem.W.fnOf "same_hands" "same_hands" (defArgs s_same_hands) (defBody s_same_hands) (defScope s_same_hands) .none kV16 dc16 pm16 an16 cd16 ct16), sl16⟩) (c16 : PySem.W.codeIn K cd16 "same_hands" = true) (k16 : PySem.W.keepIn K (.ref f16) = true)
    (a17 : PySem.W.nsIn K mainGlobals "stretches" = some (some (.ref f17))) (l17 : K.lookup f17 = some ⟨oc17, od17, .func (PySem.W.fnOf "stretches" "stretches" (defArgs s_stretches) (defBody s_stretches) (defScope s_stretches) .none kV17 dc17 pm17 an17 cd17 ct17), sl17⟩) (c17 : PySem.W.codeIn K cd17 "stretches" = true) (k17 : PySem.W.keepIn K (.ref f17) = true)
    (a18 : PySem.W.nsIn K mainGlobals "all_of_one_first" = some (some (.ref f18))) (l18 : K.lookup f18 = some ⟨oc18, od18, .func (PySem.W.fnOf "all_of_one_first" "all_of_one_first" (defArgs s_all_of_one_first) (defBody s_all_of_one_first) (defScope s_all_of_one_first) .none kV18 dc18 pm18 an18 cd18 ct18), sl18⟩) (c18 : PySem.W.codeIn K cd18 "all_of_one_first" = true) (k18 : PySem.W.keepIn K (.ref f18) = true)
    (a19 : PySem.W.nsIn K mainGlobals "long_may" = some (some (.ref f19))) (l19 : K.lookup f19 = some ⟨oc19, od19, .func (PySem.W.fnOf "long_may" "long_may" (defArgs s_long_may) (defBody s_long_may) (defScope s_long_may) .none kV19 dc19 pm19 an19 cd19 ct19), sl19⟩) (c19 : PySem.W.codeIn K cd19 "long_may" = true) (k19 : PySem.W.keepIn K (.ref f19) = true)
    (a20 : PySem.W.nsIn K mainGlobals "outcome" = some (some (.ref f20))) (l20 : K.lookup f20 = some ⟨oc20, od20, .func (PySem.W.fnOf "outcome" "outcome" (defArgs s_outcome) (defBody s_outcome) (defScope s_outcome) .none kV20 dc20 pm20 an20 cd20 ct20), sl20⟩) (c20 : PySem.W.codeIn K cd20 "outcome" = true) (k20 : PySem.W.keepIn K (.ref f20) = true)
    (a21 : PySem.W.nsIn K mainGlobals "rises" = some (some (.ref f21))) (l21 : K.lookup f21 = some ⟨oc21, od21, .func (PySem.W.fnOf "rises" "rises" (defArgs s_rises) (defBody s_rises) (defScope s_rises) .none kV21 dc21 pm21 an21 cd21 ct21), sl21⟩) (c21 : PySem.W.codeIn K cd21 "rises" = true) (k21 : PySem.W.keepIn K (.ref f21) = true)
    (a22 : PySem.W.nsIn K mainGlobals "gaps" = some (some (.ref f22))) (l22 : K.lookup f22 = some ⟨oc22, od22, .func (PySem.W.fnOf "gaps" "gaps" (defArgs s_gaps) (defBody s_gaps) (defScope s_gaps) .none kV22 dc22 pm22 an22 cd22 ct22), sl22⟩) (c22 : PySem.W.codeIn K cd22 "gaps" = true) (k22 : PySem.W.keepIn K (.ref f22) = true)
    (a23 : PySem.W.nsIn K mainGlobals "width" = some (some (.ref f23))) (l23 : K.lookup f23 = some ⟨oc23, od23, .func (PySem.W.fnOf "width" "width" (defArgs s_width) (defBody s_width) (defScope s_width) .none kV23 dc23 pm23 an23 cd23 ct23), sl23⟩) (c23 : PySem.W.codeIn K cd23 "width" = true) (k23 : PySem.W.keepIn K (.ref f23) = true)
    (a24 : PySem.W.nsIn K mainGlobals "is_below" = some (some (.ref f24))) (l24 : K.lookup f24 = some ⟨oc24, od24, .func (PySem.W.fnOf "is_below" "is_below" (defArgs s_is_below) (defBody s_is_below) (defScope s_is_below) .none kV24 dc24 pm24 an24 cd24 ct24), sl24⟩) (c24 : PySem.W.codeIn K cd24 "is_below" = true) (k24 : PySem.W.keepIn K (.ref f24) = true)
    (a25 : PySem.W.nsIn K mainGlobals "_law_cell_at" = some (some (.ref f25))) (l25 : K.lookup f25 = some ⟨oc25, od25, .func (PySem.W.fnOf "_law_cell_at" "_law_cell_at" (defArgs s__law_cell_at) (defBody s__law_cell_at) (defScope s__law_cell_at) .none kV25 dc25 pm25 an25 cd25 ct25), sl25⟩) (c25 : PySem.W.codeIn K cd25 "_law_cell_at" = true) (k25 : PySem.W.keepIn K (.ref f25) = true)
    (a26 : PySem.W.nsIn K mainGlobals "_law_box" = some (some (.ref f26))) (l26 : K.lookup f26 = some ⟨oc26, od26, .func (PySem.W.fnOf "_law_box" "_law_box" (defArgs s__law_box) (defBody s__law_box) (defScope s__law_box) .none kV26 dc26 pm26 an26 cd26 ct26), sl26⟩) (c26 : PySem.W.codeIn K cd26 "_law_box" = true) (k26 : PySem.W.keepIn K (.ref f26) = true)
    (a27 : PySem.W.nsIn K mainGlobals "_law_take" = some (some (.ref f27))) (l27 : K.lookup f27 = some ⟨oc27, od27, .func (PySem.W.fnOf "_law_take" "_law_take" (defArgs s__law_take) (defBody s__law_take) (defScope s__law_take) .none kV27 dc27 pm27 an27 cd27 ct27), sl27⟩) (c27 : PySem.W.codeIn K cd27 "_law_take" = true) (k27 : PySem.W.keepIn K (.ref f27) = true)
    (a28 : PySem.W.nsIn K mainGlobals "_law_same" = some (some (.ref f28))) (l28 : K.lookup f28 = some ⟨oc28, od28, .func (PySem.W.fnOf "_law_same" "_law_same" (defArgs s__law_same) (defBody s__law_same) (defScope s__law_same) .none kV28 dc28 pm28 an28 cd28 ct28), sl28⟩) (c28 : PySem.W.codeIn K cd28 "_law_same" = true) (k28 : PySem.W.keepIn K (.ref f28) = true)
    (a29 : PySem.W.nsIn K mainGlobals "_law_dune" = some (some (.ref f29))) (l29 : K.lookup f29 = some ⟨oc29, od29, .func (PySem.W.fnOf "_law_dune" "_law_dune" (defArgs s__law_dune) (defBody s__law_dune) (defScope s__law_dune) .none kV29 dc29 pm29 an29 cd29 ct29), sl29⟩) (c29 : PySem.W.codeIn K cd29 "_law_dune" = true) (k29 : PySem.W.keepIn K (.ref f29) = true)
    (a30 : PySem.W.nsIn K mainGlobals "_law_slope" = some (some (.ref f30))) (l30 : K.lookup f30 = some ⟨oc30, od30, .func (PySem.W.fnOf "_law_slope" "_law_slope" (defArgs s__law_slope) (defBody s__law_slope) (defScope s__law_slope) .none kV30 dc30 pm30 an30 cd30 ct30), sl30⟩) (c30 : PySem.W.codeIn K cd30 "_law_slope" = true) (k30 : PySem.W.keepIn K (.ref f30) = true)
    (a31 : PySem.W.nsIn K mainGlobals "_law_entry" = some (some (.ref f31))) (l31 : K.lookup f31 = some ⟨oc31, od31, .func (PySem.W.fnOf "_law_entry" "_law_entry" (defArgs s__law_entry) (defBody s__law_entry) (defScope s__law_entry) .none kV31 dc31 pm31 an31 cd31 ct31), sl31⟩) (c31 : PySem.W.codeIn K cd31 "_law_entry" = true) (k31 : PySem.W.keepIn K (.ref f31) = true)
    (a32 : PySem.W.nsIn K mainGlobals "_law_do_one" = some (some (.ref f32))) (l32 : K.lookup f32 = some ⟨oc32, od32, .func (PySem.W.fnOf "_law_do_one" "_law_do_one" (defArgs s__law_do_one) (defBody s__law_do_one) (defScope s__law_do_one) .none kV32 dc32 pm32 an32 cd32 ct32), sl32⟩) (c32 : PySem.W.codeIn K cd32 "_law_do_one" = true) (k32 : PySem.W.keepIn K (.ref f32) = true)
    (a33 : PySem.W.nsIn K mainGlobals "_law_turned" = some (some (.ref f33))) (l33 : K.lookup f33 = some ⟨oc33, od33, .func (PySem.W.fnOf "_law_turned" "_law_turned" (defArgs s__law_turned) (defBody s__law_turned) (defScope s__law_turned) .none kV33 dc33 pm33 an33 cd33 ct33), sl33⟩) (c33 : PySem.W.codeIn K cd33 "_law_turned" = true) (k33 : PySem.W.keepIn K (.ref f33) = true)
    (a34 : PySem.W.nsIn K mainGlobals "_law_right" = some (some (.ref f34))) (l34 : K.lookup f34 = some ⟨oc34, od34, .func (PySem.W.fnOf "_law_right" "_law_right" (defArgs s__law_right) (defBody s__law_right) (defScope s__law_right) .none kV34 dc34 pm34 an34 cd34 ct34), sl34⟩) (c34 : PySem.W.codeIn K cd34 "_law_right" = true) (k34 : PySem.W.keepIn K (.ref f34) = true)
    (a35 : PySem.W.nsIn K mainGlobals "law" = some (some (.ref f35))) (l35 : K.lookup f35 = some ⟨oc35, od35, .func (PySem.W.fnOf "law" "law" (defArgs s_law) (defBody s_law) (defScope s_law) .none kV35 dc35 pm35 an35 cd35 ct35), sl35⟩) (c35 : PySem.W.codeIn K cd35 "law" = true) (k35 : PySem.W.keepIn K (.ref f35) = true)
    (a36 : PySem.W.findIn K (.ref yC) "__init__" = some (some (.ref f36))) (l36 : K.lookup f36 = some ⟨oc36, od36, .func (PySem.W.fnOf "__init__" "Yard.__init__" (defArgs s_Yard___init__) (defBody s_Yard___init__) (defScope s_Yard___init__) .none kV36 dc36 pm36 an36 cd36 ct36), sl36⟩) (c36 : PySem.W.codeIn K cd36 "Yard.__init__" = true) (k36 : PySem.W.keepIn K (.ref f36) = true) (i36 : PySem.W.isFn K (.ref f36) = true)
    (a37 : PySem.W.findIn K (.ref yC) "__len__" = some (some (.ref f37))) (l37 : K.lookup f37 = some ⟨oc37, od37, .func (PySem.W.fnOf "__len__" "Yard.__len__" (defArgs s_Yard___len__) (defBody s_Yard___len__) (defScope s_Yard___len__) .none kV37 dc37 pm37 an37 cd37 ct37), sl37⟩) (c37 : PySem.W.codeIn K cd37 "Yard.__len__" = true) (k37 : PySem.W.keepIn K (.ref f37) = true) (i37 : PySem.W.isFn K (.ref f37) = true)
    (a38 : PySem.W.findIn K (.ref yC) "__repr__" = some (some (.ref f38))) (l38 : K.lookup f38 = some ⟨oc38, od38, .func (PySem.W.fnOf "__repr__" "Yard.__repr__" (defArgs s_Yard___repr__) (defBody s_Yard___repr__) (defScope s_Yard___repr__) .none kV38 dc38 pm38 an38 cd38 ct38), sl38⟩) (c38 : PySem.W.codeIn K cd38 "Yard.__repr__" = true) (k38 : PySem.W.keepIn K (.ref f38) = true) (i38 : PySem.W.isFn K (.ref f38) = true)
    (a39 : PySem.W.findIn K (.ref yC) "blow" = some (some (.ref f39))) (l39 : K.lookup f39 = some ⟨oc39, od39, .func (PySem.W.fnOf "blow" "Yard.blow" (defArgs s_Yard_blow) (defBody s_Yard_blow) (defScope s_Yard_blow) .none kV39 dc39 pm39 an39 cd39 ct39), sl39⟩) (c39 : PySem.W.codeIn K cd39 "Yard.blow" = true) (k39 : PySem.W.keepIn K (.ref f39) = true) (i39 : PySem.W.isFn K (.ref f39) = true)
    (a40 : PySem.W.findIn K (.ref yC) "hand" = some (some (.ref f40))) (l40 : K.lookup f40 = some ⟨oc40, od40, .func (PySem.W.fnOf "hand" "Yard.hand" (defArgs s_Yard_hand) (defBody s_Yard_hand) (defScope s_Yard_hand) .none kV40 dc40 pm40 an40 cd40 ct40), sl40⟩) (c40 : PySem.W.codeIn K cd40 "Yard.hand" = true) (k40 : PySem.W.keepIn K (.ref f40) = true) (i40 : PySem.W.isFn K (.ref f40) = true)
    (a41 : PySem.W.findIn K (.ref yC) "do" = some (some (.ref f41))) (l41 : K.lookup f41 = some ⟨oc41, od41, .func (PySem.W.fnOf "do" "Yard.do" (defArgs s_Yard_do) (defBody s_Yard_do) (defScope s_Yard_do) .none kV41 dc41 pm41 an41 cd41 ct41), sl41⟩) (c41 : PySem.W.codeIn K cd41 "Yard.do" = true) (k41 : PySem.W.keepIn K (.ref f41) = true) (i41 : PySem.W.isFn K (.ref f41) = true)
    (a42 : PySem.W.findIn K (.ref yC) "do_all" = some (some (.ref f42))) (l42 : K.lookup f42 = some ⟨oc42, od42, .func (PySem.W.fnOf "do_all" "Yard.do_all" (defArgs s_Yard_do_all) (defBody s_Yard_do_all) (defScope s_Yard_do_all) .none kV42 dc42 pm42 an42 cd42 ct42), sl42⟩) (c42 : PySem.W.codeIn K cd42 "Yard.do_all" = true) (k42 : PySem.W.keepIn K (.ref f42) = true) (i42 : PySem.W.isFn K (.ref f42) = true)
    (a43 : PySem.W.findIn K (.ref yC) "undo" = some (some (.ref f43))) (l43 : K.lookup f43 = some ⟨oc43, od43, .func (PySem.W.fnOf "undo" "Yard.undo" (defArgs s_Yard_undo) (defBody s_Yard_undo) (defScope s_Yard_undo) .none kV43 dc43 pm43 an43 cd43 ct43), sl43⟩) (c43 : PySem.W.codeIn K cd43 "Yard.undo" = true) (k43 : PySem.W.keepIn K (.ref f43) = true) (i43 : PySem.W.isFn K (.ref f43) = true)
    (a44 : PySem.W.findIn K (.ref yC) "dune" = some (some (.ref f44))) (l44 : K.lookup f44 = some ⟨oc44, od44, .func (PySem.W.fnOf "dune" "Yard.dune" (defArgs s_Yard_dune) (defBody s_Yard_dune) (defScope s_Yard_dune) .none kV44 dc44 pm44 an44 cd44 ct44), sl44⟩) (c44 : PySem.W.codeIn K cd44 "Yard.dune" = true) (k44 : PySem.W.keepIn K (.ref f44) = true) (i44 : PySem.W.isFn K (.ref f44) = true)
    (a45 : PySem.W.findIn K (.ref yC) "first" = some (some (.ref f45))) (l45 : K.lookup f45 = some ⟨oc45, od45, .func (PySem.W.fnOf "first" "Yard.first" (defArgs s_Yard_first) (defBody s_Yard_first) (defScope s_Yard_first) .none kV45 dc45 pm45 an45 cd45 ct45), sl45⟩) (c45 : PySem.W.codeIn K cd45 "Yard.first" = true) (k45 : PySem.W.keepIn K (.ref f45) = true) (i45 : PySem.W.isFn K (.ref f45) = true)
    (a46 : PySem.W.findIn K (.ref yC) "entries" = some (some (.ref f46))) (l46 : K.lookup f46 = some ⟨oc46, od46, .func (PySem.W.fnOf "entries" "Yard.entries" (defArgs s_Yard_entries) (defBody s_Yard_entries) (defScope s_Yard_entries) .none kV46 dc46 pm46 an46 cd46 ct46), sl46⟩) (c46 : PySem.W.codeIn K cd46 "Yard.entries" = true) (k46 : PySem.W.keepIn K (.ref f46) = true) (i46 : PySem.W.isFn K (.ref f46) = true)
    (a47 : PySem.W.findIn K (.ref yC) "kept_by" = some (some (.ref f47))) (l47 : K.lookup f47 = some ⟨oc47, od47, .func (PySem.W.fnOf "kept_by" "Yard.kept_by" (defArgs s_Yard_kept_by) (defBody s_Yard_kept_by) (defScope s_Yard_kept_by) .none kV47 dc47 pm47 an47 cd47 ct47), sl47⟩) (c47 : PySem.W.codeIn K cd47 "Yard.kept_by" = true) (k47 : PySem.W.keepIn K (.ref f47) = true) (i47 : PySem.W.isFn K (.ref f47) = true)
    (a48 : PySem.W.findIn K (.ref yC) "may" = some (some (.ref f48))) (l48 : K.lookup f48 = some ⟨oc48, od48, .func (PySem.W.fnOf "may" "Yard.may" (defArgs s_Yard_may) (defBody s_Yard_may) (defScope s_Yard_may) .none kV48 dc48 pm48 an48 cd48 ct48), sl48⟩) (c48 : PySem.W.codeIn K cd48 "Yard.may" = true) (k48 : PySem.W.keepIn K (.ref f48) = true) (i48 : PySem.W.isFn K (.ref f48) = true)
    (a49 : PySem.W.findIn K (.ref yC) "deeds" = some (some (.ref f49))) (l49 : K.lookup f49 = some ⟨oc49, od49, .func (PySem.W.fnOf "deeds" "Yard.deeds" (defArgs s_Yard_deeds) (defBody s_Yard_deeds) (defScope s_Yard_deeds) .none kV49 dc49 pm49 an49 cd49 ct49), sl49⟩) (c49 : PySem.W.codeIn K cd49 "Yard.deeds" = true) (k49 : PySem.W.keepIn K (.ref f49) = true) (i49 : PySem.W.isFn K (.ref f49) = true)
    (ya : PySem.W.nsIn K mainGlobals "Yard" = some (some (.ref yC))) (y1 : PySem.W.plainGet K yC Str.empty = true) (y2 : PySem.W.hasDictIn K yC = true) (y3 : PySem.W.plainOver K yC = true) (y4 : PySem.W.findIn K (.ref yC) "__setattr__" = some (some (.builtin "object.__setattr__"))) (y5 : PySem.W.makesIn K yC = true) (y6 : PySem.W.keepIn K (.ref yC) = true)
    (yf0 : PySem.W.findIn K (.ref yC) "origin" = some none)
    (yf1 : PySem.W.findIn K (.ref yC) "standing" = some none)
    (yf2 : PySem.W.findIn K (.ref yC) "notes" = some none)
    (z0 : PySem.W.nsIn K mainGlobals "abs" = some none)
    (z1 : PySem.W.nsIn K mainGlobals "all" = some none)
    (z2 : PySem.W.nsIn K mainGlobals "any" = some none)
    (z3 : PySem.W.nsIn K mainGlobals "bool" = some none)
    (z4 : PySem.W.nsIn K mainGlobals "enumerate" = some none)
    (z5 : PySem.W.nsIn K mainGlobals "int" = some none)
    (z6 : PySem.W.nsIn K mainGlobals "isinstance" = some none)
    (z7 : PySem.W.nsIn K mainGlobals "len" = some none)
    (z8 : PySem.W.nsIn K mainGlobals "list" = some none)
    (z9 : PySem.W.nsIn K mainGlobals "max" = some none)
    (z10 : PySem.W.nsIn K mainGlobals "min" = some none)
    (z11 : PySem.W.nsIn K mainGlobals "range" = some none)
    (z12 : PySem.W.nsIn K mainGlobals "set" = some none)
    (z13 : PySem.W.nsIn K mainGlobals "str" = some none)
    (z14 : PySem.W.nsIn K mainGlobals "sum" = some none)
    (z15 : PySem.W.nsIn K mainGlobals "tuple" = some none)
    (z16 : PySem.W.nsIn K mainGlobals "zip" = some none) :
    ∃ fd : FuncData, (∀ (s : Shared) (v : Value), BindsTo s fd ⟨[v], []⟩ [("_law_script", v)]) ∧ ∀ base : Heap, K.In base → base.Ns mainGlobals mg → FnOk l.prog w K mg base CX0 12 fa fd ["_law_script"] (spA K 1 g_law) := by
  have e := hfa.symm.trans (PySem.W.mg_of X G a35)
  cases e
  exact ⟨PySem.W.fnOf "law" "law" (defArgs s_law) (defBody s_law) (defScope s_law) .none kV35 dc35 pm35 an35 cd35 ct35, fun s v => .of_eq rfl, fun base _ _ => ok_law { C_Yard := yC, c_Yard := ⟨y1, y2, y3, y4⟩, m_Yard := PySem.W.mg_of X G ya, na_origin := yf0, na_standing := yf1, na_notes := yf2, f__wall := _, fd__wall := _, F__wall := fun_mk (st := s__wall) l0 c0 k0, m__wall := PySem.W.mg_of X G a0, b__wall := (fun_mk (st := s__wall) l0 c0 k0).binds (ps := ["k"]) (fun _ _ _ _ _ _ us hl => match us, hl with | [_], _ => rfl), f_sand := _, fd_sand := _, F_sand := fun_mk (st := s_sand) l1 c1 k1, m_sand := PySem.W.mg_of X G a1, b_sand := (fun_mk (st := s_sand) l1 c1 k1).binds (ps := ["dune"]) (fun _ _ _ _ _ _ us hl => match us, hl with | [_], _ => rfl), f_mirrored := _, fd_mirrored := _, F_mirrored := fun_mk (st := s_mirrored) l2 c2 k2, m_mirrored := PySem.W.mg_of X G a2, b_mirrored := (fun_mk (st := s_mirrored) l2 c2 k2).binds (ps := ["dune"]) (fun _ _ _ _ _ _ us hl => match us, hl with | [_], _ => rfl), f_upside := _, fd_upside := _, F_upside := fun_mk (st := s_upside) l3 c3 k3, m_upside := PySem.W.mg_of X G a3, b_upside := (fun_mk (st := s_upside) l3 c3 k3).binds (ps := ["dune"]) (fun _ _ _ _ _ _ us hl => match us, hl with | [_], _ => rfl), f_handed := _, fd_handed := _, F_handed := fun_mk (st := s_handed) l4 c4 k4, m_handed := PySem.W.mg_of X G a4, b_handed := (fun_mk (st := s_handed) l4 c4 k4).binds (ps := ["dune", "post", "by"]) (fun _ _ _ _ _ _ us hl => match us, hl with | [_, _, _], _ => rfl), f_blown := _, fd_blown := _, F_blown := fun_mk (st := s_blown) l5 c5 k5, m_blown := PySem.W.mg_of X G a5, b_blown := (fun_mk (st := s_blown) l5 c5 k5).binds (ps := ["dune", "wind"]) (fun _ _ _ _ _ _ us hl => match us, hl with | [_, _], _ => rfl), f_cut_to := _, fd_cut_to := _, F_cut_to := fun_mk (st := s_cut_to) l6 c6 k6, m_cut_to := PySem.W.mg_of X G a6, b_cut_to := (fun_mk (st := s_cut_to) l6 c6 k6).binds (ps := ["dune", "slope"]) (fun _ _ _ _ _ _ us hl => match us, hl with | [_, _], _ => rfl), f_cut_onward := _, fd_cut_onward := _, F_cut_onward := fun_mk (st := s_cut_onward) l7 c7 k7, m_cut_onward := PySem.W.mg_of X G a7, b_cut_onward := (fun_mk (st := s_cut_onward) l7 c7 k7).binds (ps := ["dune", "slope"]) (fun _ _ _ _ _ _ us hl => match us, hl with | [_, _], _ => rfl), f_days := _, fd_days := _, F_days := fun_mk (st := s_days) l8 c8 k8, m_days := PySem.W.mg_of X G a8, b_days := (fun_mk (st := s_days) l8 c8 k8).binds (ps := ["dune", "almanac"]) (fun _ _ _ _ _ _ us hl => match us, hl with | [_, _], _ => rfl), f_amount := _, fd_amount := _, F_amount := fun_mk (st := s_amount) l9 c9 k9, m_amount := PySem.W.mg_of X G a9, b_amount := (fun_mk (st := s_amount) l9 c9 k9).binds (ps := ["wind", "ahead", "after"]) (fun _ _ _ _ _ _ us hl => match us, hl with | [_, _, _], _ => rfl), f_amounts := _, fd_amounts := _, F_amounts := fun_mk (st := s_amounts) l10 c10 k10, m_amounts := PySem.W.mg_of X G a10, b_amounts := (fun_mk (st := s_amounts) l10 c10 k10).binds (ps := ["dune", "almanac"]) (fun _ _ _ _ _ _ us hl => match us, hl with | [_, _], _ => rfl), f_almanac_of := _, fd_almanac_of := _, F_almanac_of := fun_mk (st := s_almanac_of) l11 c11 k11, m_almanac_of := PySem.W.mg_of X G a11, b_almanac_of := (fun_mk (st := s_almanac_of) l11 c11 k11).binds (ps := ["cuts", "fills", "order"]) (fun _ _ _ _ _ _ us hl => match us, hl with | [_, _, _], _ => rfl), f_is_hand := _, fd_is_hand := _, F_is_hand := fun_mk (st := s_is_hand) l12 c12 k12, m_is_hand := PySem.W.mg_of X G a12, b_is_hand := (fun_mk (st := s_is_hand) l12 c12 k12).binds (ps := ["entry"]) (fun _ _ _ _ _ _ us hl => match us, hl with | [_], _ => rfl), f_done := _, fd_done := _, F_done := fun_mk (st := s_done) l13 c13 k13, m_done := PySem.W.mg_of X G a13, b_done := (fun_mk (st := s_done) l13 c13 k13).binds (ps := ["dune", "entries"]) (fun _ _ _ _ _ _ us hl => match us, hl with | [_, _], _ => rfl), f_entries_with := _, fd_entries_with := _, F_entries_with := fun_mk (st := s_entries_with) l14 c14 k14, m_entries_with := PySem.W.mg_of X G a14, b_entries_with := (fun_mk (st := s_entries_with) l14 c14 k14).binds (ps := ["entries", "words"]) (fun _ _ _ _ _ _ us hl => match us, hl with | [_, _], _ => rfl), f_slopes_between := _, fd_slopes_between := _, F_slopes_between := fun_mk (st := s_slopes_between) l15 c15 k15, m_slopes_between := PySem.W.mg_of X G a15, b_slopes_between := (fun_mk (st := s_slopes_between) l15 c15 k15).binds (ps := ["book"]) (fun _ _ _ _ _ _ us hl => match us, hl with | [_], _ => rfl), f_same_hands := _, fd_same_hands := _, F_same_hands := fun_mk (st := s_same_hands) l16 c16 k16, m_same_hands := PySem.W.mg_of X G a16, b_same_hands := (fun_mk (st := s_same_hands) l16 c16 k16).binds (ps := ["cutter", "filler"]) (fun _ _ _ _ _ _ us hl => match us, hl with | [_, _], _ => rfl), f_stretches := _, fd_stretches := _, F_stretches := fun_mk (st := s_stretches) l17 c17 k17, m_stretches := PySem.W.mg_of X G a17, b_stretches := (fun_mk (st := s_stretches) l17 c17 k17).binds (ps := ["cutter", "filler"]) (fun _ _ _ _ _ _ us hl => match us, hl with | [_, _], _ => rfl), f_all_of_one_first := _, fd_all_of_one_first := _, F_all_of_one_first := fun_mk (st := s_all_of_one_first) l18 c18 k18, m_all_of_one_first := PySem.W.mg_of X G a18, b_all_of_one_first := (fun_mk (st := s_all_of_one_first) l18 c18 k18).binds (ps := ["parts", "word"]) (fun _ _ _ _ _ _ us hl => match us, hl with | [_, _], _ => rfl), f_long_may := _, fd_long_may := _, F_long_may := fun_mk (st := s_long_may) l19 c19 k19, m_long_may := PySem.W.mg_of X G a19, b_long_may := (fun_mk (st := s_long_may) l19 c19 k19).binds (ps := ["dune", "cutter", "filler"]) (fun _ _ _ _ _ _ us hl => match us, hl with | [_, _, _], _ => rfl), f_outcome := _, fd_outcome := _, F_outcome := fun_mk (st := s_outcome) l20 c20 k20, m_outcome := PySem.W.mg_of X G a20, b_outcome := (fun_mk (st := s_outcome) l20 c20 k20).binds (ps := ["dune", "entry"]) (fun _ _ _ _ _ _ us hl => match us, hl with | [_, _], _ => rfl), f_rises := _, fd_rises := _, F_rises := fun_mk (st := s_rises) l21 c21 k21, m_rises := PySem.W.mg_of X G a21, b_rises := (fun_mk (st := s_rises) l21 c21 k21).binds (ps := ["one", "other"]) (fun _ _ _ _ _ _ us hl => match us, hl with | [_, _], _ => rfl), f_gaps := _, fd_gaps := _, F_gaps := fun_mk (st := s_gaps) l22 c22 k22, m_gaps := PySem.W.mg_of X G a22, b_gaps := (fun_mk (st := s_gaps) l22 c22 k22).binds (ps := ["one", "other"]) (fun _ _ _ _ _ _ us hl => match us, hl with | [_, _], _ => rfl), f_width := _, fd_width := _, F_width := fun_mk (st := s_width) l23 c23 k23, m_width := PySem.W.mg_of X G a23, b_width := (fun_mk (st := s_width) l23 c23 k23).binds (ps := ["one", "other"]) (fun _ _ _ _ _ _ us hl => match us, hl with | [_, _], _ => rfl), f_is_below := _, fd_is_below := _, F_is_below := fun_mk (st := s_is_below) l24 c24 k24, m_is_below := PySem.W.mg_of X G a24, b_is_below := (fun_mk (st := s_is_below) l24 c24 k24).binds (ps := ["one", "other"]) (fun _ _ _ _ _ _ us hl => match us, hl with | [_, _], _ => rfl), f__law_cell_at := _, fd__law_cell_at := _, F__law_cell_at := fun_mk (st := s__law_cell_at) l25 c25 k25, m__law_cell_at := PySem.W.mg_of X G a25, b__law_cell_at := (fun_mk (st := s__law_cell_at) l25 c25 k25).binds (ps := ["_law_script", "_law_k"]) (fun _ _ _ _ _ _ us hl => match us, hl with | [_, _], _ => rfl), f__law_box := _, fd__law_box := _, F__law_box := fun_mk (st := s__law_box) l26 c26 k26, m__law_box := PySem.W.mg_of X G a26, b__law_box := (fun_mk (st := s__law_box) l26 c26 k26).binds (ps := ["_law_script", "_law_k"]) (fun _ _ _ _ _ _ us hl => match us, hl with | [_, _], _ => rfl), f__law_take := _, fd__law_take := _, F__law_take := fun_mk (st := s__law_take) l27 c27 k27, m__law_take := PySem.W.mg_of X G a27, b__law_take := (fun_mk (st := s__law_take) l27 c27 k27).binds (ps := ["_law_box_here", "_law_size"]) (fun _ _ _ _ _ _ us hl => match us, hl with | [_, _], _ => rfl), f__law_same := _, fd__law_same := _, F__law_same := fun_mk (st := s__law_same) l28 c28 k28, m__law_same := PySem.W.mg_of X G a28, b__law_same := (fun_mk (st := s__law_same) l28 c28 k28).binds (ps := ["_law_told", "_law_due"]) (fun _ _ _ _ _ _ us hl => match us, hl with | [_, _], _ => rfl), f__law_dune := _, fd__law_dune := _, F__law_dune := fun_mk (st := s__law_dune) l29 c29 k29, m__law_dune := PySem.W.mg_of X G a29, b__law_dune := (fun_mk (st := s__law_dune) l29 c29 k29).binds (ps := ["_law_box_here", "_law_size"]) (fun _ _ _ _ _ _ us hl => match us, hl with | [_, _], _ => rfl), f__law_slope := _, fd__law_slope := _, F__law_slope := fun_mk (st := s__law_slope) l30 c30 k30, m__law_slope := PySem.W.mg_of X G a30, b__law_slope := (fun_mk (st := s__law_slope) l30 c30 k30).binds (ps := ["_law_box_here"]) (fun _ _ _ _ _ _ us hl => match us, hl with | [_], _ => rfl), f__law_entry := _, fd__law_entry := _, F__law_entry := fun_mk (st := s__law_entry) l31 c31 k31, m__law_entry := PySem.W.mg_of X G a31, b__law_entry := (fun_mk (st := s__law_entry) l31 c31 k31).binds (ps := ["_law_box_here", "_law_posts"]) (fun _ _ _ _ _ _ us hl => match us, hl with | [_, _], _ => rfl), f__law_do_one := _, fd__law_do_one := _, F__law_do_one := fun_mk (st := s__law_do_one) l32 c32 k32, m__law_do_one := PySem.W.mg_of X G a32, b__law_do_one := (fun_mk (st := s__law_do_one) l32 c32 k32).binds (ps := ["_law_yard", "_law_entry_here"]) (fun _ _ _ _ _ _ us hl => match us, hl with | [_, _], _ => rfl), f__law_turned := _, fd__law_turned := _, F__law_turned := fun_mk (st := s__law_turned) l33 c33 k33, m__law_turned := PySem.W.mg_of X G a33, b__law_turned := (fun_mk (st := s__law_turned) l33 c33 k33).binds (ps := ["_law_entry_here"]) (fun _ _ _ _ _ _ us hl => match us, hl with | [_], _ => rfl), f__law_right := _, fd__law_right := _, F__law_right := fun_mk (st := s__law_right) l34 c34 k34, m__law_right := PySem.W.mg_of X G a34, b__law_right := (fun_mk (st := s__law_right) l34 c34 k34).binds (ps := ["_law_box_here"]) (fun _ _ _ _ _ _ us hl => match us, hl with | [_], _ => rfl), f_law := _, fd_law := _, F_law := fun_mk (st := s_law) l35 c35 k35, m_law := PySem.W.mg_of X G a35, b_law := (fun_mk (st := s_law) l35 c35 k35).binds (ps := ["_law_script"]) (fun _ _ _ _ _ _ us hl => match us, hl with | [_], _ => rfl), f_Yard___init__ := _, fd_Yard___init__ := _, F_Yard___init__ := fun_mk (st := s_Yard___init__) l36 c36 k36, mt_Yard___init__ := ⟨a36, i36, k36⟩, b_Yard___init__ := (fun_mk (st := s_Yard___init__) l36 c36 k36).binds (ps := ["self", "dune"]) (fun _ _ _ _ _ _ us hl => match us, hl with | [_, _], _ => rfl), mk_Yard := ⟨y5, a36, i36, y6⟩, f_Yard___len__ := _, fd_Yard___len__ := _, F_Yard___len__ := fun_mk (st := s_Yard___len__) l37 c37 k37, mt_Yard___len__ := ⟨a37, i37, k37⟩, b_Yard___len__ := (fun_mk (st := s_Yard___len__) l37 c37 k37).binds (ps := ["self"]) (fun _ _ _ _ _ _ us hl => match us, hl with | [_], _ => rfl), f_Yard___repr__ := _, fd_Yard___repr__ := _, F_Yard___repr__ := fun_mk (st := s_Yard___repr__) l38 c38 k38, mt_Yard___repr__ := ⟨a38, i38, k38⟩, b_Yard___repr__ := (fun_mk (st := s_Yard___repr__) l38 c38 k38).binds (ps := ["self"]) (fun _ _ _ _ _ _ us hl => match us, hl with | [_], _ => rfl), f_Yard_blow := _, fd_Yard_blow := _, F_Yard_blow := fun_mk (st := s_Yard_blow) l39 c39 k39, mt_Yard_blow := ⟨a39, i39, k39⟩, b_Yard_blow := (fun_mk (st := s_Yard_blow) l39 c39 k39).binds (ps := ["self", "word", "slope"]) (fun _ _ _ _ _ _ us hl => match us, hl with | [_, _, _], _ => rfl), f_Yard_hand := _, fd_Yard_hand := _, F_Yard_hand := fun_mk (st := s_Yard_hand) l40 c40 k40, mt_Yard_hand := ⟨a40, i40, k40⟩, b_Yard_hand := (fun_mk (st := s_Yard_hand) l40 c40 k40).binds (ps := ["self", "post", "by"]) (fun _ _ _ _ _ _ us hl => match us, hl with | [_, _, _], _ => rfl), f_Yard_do := _, fd_Yard_do := _, F_Yard_do := fun_mk (st := s_Yard_do) l41 c41 k41, mt_Yard_do := ⟨a41, i41, k41⟩, b_Yard_do := (fun_mk (st := s_Yard_do) l41 c41 k41).binds (ps := ["self", "deeds"]) (fun _ _ _ _ _ _ us hl => match us, hl with | [_, _], _ => rfl), f_Yard_do_all := _, fd_Yard_do_all := _, F_Yard_do_all := fun_mk (st := s_Yard_do_all) l42 c42 k42, mt_Yard_do_all := ⟨a42, i42, k42⟩, b_Yard_do_all := (fun_mk (st := s_Yard_do_all) l42 c42 k42).binds (ps := ["self", "entries"]) (fun _ _ _ _ _ _ us hl => match us, hl with | [_, _], _ => rfl), f_Yard_undo := _, fd_Yard_undo := _, F_Yard_undo := fun_mk (st := s_Yard_undo) l43 c43 k43, mt_Yard_undo := ⟨a43, i43, k43⟩, b_Yard_undo := (fun_mk (st := s_Yard_undo) l43 c43 k43).binds (ps := ["self"]) (fun _ _ _ _ _ _ us hl => match us, hl with | [_], _ => rfl), f_Yard_dune := _, fd_Yard_dune := _, F_Yard_dune := fun_mk (st := s_Yard_dune) l44 c44 k44, mt_Yard_dune := ⟨a44, i44, k44⟩, b_Yard_dune := (fun_mk (st := s_Yard_dune) l44 c44 k44).binds (ps := ["self"]) (fun _ _ _ _ _ _ us hl => match us, hl with | [_], _ => rfl), f_Yard_first := _, fd_Yard_first := _, F_Yard_first := fun_mk (st := s_Yard_first) l45 c45 k45, mt_Yard_first := ⟨a45, i45, k45⟩, b_Yard_first := (fun_mk (st := s_Yard_first) l45 c45 k45).binds (ps := ["self"]) (fun _ _ _ _ _ _ us hl => match us, hl with | [_], _ => rfl), f_Yard_entries := _, fd_Yard_entries := _, F_Yard_entries := fun_mk (st := s_Yard_entries) l46 c46 k46, mt_Yard_entries := ⟨a46, i46, k46⟩, b_Yard_entries := (fun_mk (st := s_Yard_entries) l46 c46 k46).binds (ps := ["self"]) (fun _ _ _ _ _ _ us hl => match us, hl with | [_], _ => rfl), f_Yard_kept_by := _, fd_Yard_kept_by := _, F_Yard_kept_by := fun_mk (st := s_Yard_kept_by) l47 c47 k47, mt_Yard_kept_by := ⟨a47, i47, k47⟩, b_Yard_kept_by := (fun_mk (st := s_Yard_kept_by) l47 c47 k47).binds (ps := ["self", "word"]) (fun _ _ _ _ _ _ us hl => match us, hl with | [_, _], _ => rfl), f_Yard_may := _, fd_Yard_may := _, F_Yard_may := fun_mk (st := s_Yard_may) l48 c48 k48, mt_Yard_may := ⟨a48, i48, k48⟩, b_Yard_may := (fun_mk (st := s_Yard_may) l48 c48 k48).binds (ps := ["self"]) (fun _ _ _ _ _ _ us hl => match us, hl with | [_], _ => rfl), f_Yard_deeds := _, fd_Yard_deeds := _, F_Yard_deeds := fun_mk (st := s_Yard_deeds) l49 c49 k49, mt_Yard_deeds := ⟨a49, i49, k49⟩, b_Yard_deeds := (fun_mk (st := s_Yard_deeds) l49 c49 k49).binds (ps := ["self"]) (fun _ _ _ _ _ _ us hl => match us, hl with | [_], _ => rfl), z_abs := PySem.W.mg_none_of X G z0, z_all := PySem.W.mg_none_of X G z1, z_any := PySem.W.mg_none_of X G z2, z_bool := PySem.W.mg_none_of X G z3, z_enumerate := PySem.W.mg_none_of X G z4, z_int := PySem.W.mg_none_of X G z5, z_isinstance := PySem.W.mg_none_of X G z6, z_len := PySem.W.mg_none_of X G z7, z_list := PySem.W.mg_none_of X G z8, z_max := PySem.W.mg_none_of X G z9, z_min := PySem.W.mg_none_of X G z10, z_range := PySem.W.mg_none_of X G z11, z_set := PySem.W.mg_none_of X G z12, z_str := PySem.W.mg_none_of X G z13, z_sum := PySem.W.mg_none_of X G z14, z_tuple := PySem.W.mg_none_of X G z15, z_zip := PySem.W.mg_none_of X G z16 }⟩
theorem law_sp (K : PySem.W.Frag) (H : Hp) (a : Addr) (ns : List Int) (hl : ns.length ≤ 63) (_ : Only H) (hS : SqL K H a (ns.map V.int)) : spA K 1 g_law [.ref a] H (fun v _ => v = .bl true) fun _ _ _ => False := by
  refine ⟨H, [.scr ns], fun c => c = .val (.bl true), rfl, .refl H, .cons (.scr hS) .nil, ⟨ns, rfl, hl, rfl⟩, fun v c F' H' u S e => ?_⟩
  subst e
  obtain ⟨v', h1, h2⟩ := S.val 0 (.bl true) rfl
  cases h1
  exact h2.blInv
end Pl
open PySem PySem.W PyProof.Rows
set_option maxHeartbeats 0 in
theorem PySem.Challenge.cw_dunebooks_k89_whole_yards_beside_each_ot_holds : PySem.Challenge.rw_dunebooks_k89_whole_yards_beside_each_ot.Holds := by
  w_on; o_law; k_head; (case hw => w_witness2)
  k_fill
  refine L2.walk_ofK (l := PySem.Challenge.rw_dunebooks_k89_whole_yards_beside_each_ot) (n := 63) (k := 12) (x := "_law_script") (CX := L2.CX0) (sp := fun K => Pl.spA K 1 Pl.g_law) rfl (by decide) rfl ⟨rfl, by decide, by decide⟩ (fun w h Y => PySem.W.kIn_of Y) ?F Pl.law_sp (fun _ _ _ _ h => h)
  case F =>
    intro w mg fa h KX G hmg
    refine' Pl.all_mk KX G hmg ?a0 ?l0 ?c0 ?k0 ?a1 ?l1 ?c1 ?k1 ?a2 ?l2 ?c2 ?k2 ?a3 ?l3 ?c3 ?k3 ?a4 ?l4 ?c4 ?k4 ?a5 ?l5 ?c5 ?k5 ?a6 ?l6 ?c6 ?k6 ?a7 ?l7 ?c7 ?k7 ?a8 ?l8 ?c8 ?k8 ?a9 ?l9 ?c9 ?k9 ?a10 ?l10 ?c10 ?k10 ?a11 ?l11 ?c11 ?k11 ?a12 ?l12 ?c12 ?k12 ?a13 ?l13 ?c13 ?k13 ?a14 ?l14 ?c14 ?k14 ?a15 ?l15 ?c15 ?k15 ?a16 ?l16 ?c16 ?k16 ?a17 ?l17 ?c17 ?k17 ?a18 ?l18 ?c18 ?k18 ?a19 ?l19 ?c19 ?k19 ?a20 ?l20 ?c20 ?k20 ?a21 ?l21 ?c21 ?k21 ?a22 ?l22 ?c22 ?k22 ?a23 ?l23 ?c23 ?k23 ?a24 ?l24 ?c24 ?k24 ?a25 ?l25 ?c25 ?k25 ?a26 ?l26 ?c26 ?k26 ?a27 ?l27 ?c27 ?k27 ?a28 ?l28 ?c28 ?k28 ?a29 ?l29 ?c29 ?k29 ?a30 ?l30 ?c30 ?k30 ?a31 ?l31 ?c31 ?k31 ?a32 ?l32 ?c32 ?k32 ?a33 ?l33 ?c33 ?k33 ?a34 ?l34 ?c34 ?k34 ?a35 ?l35 ?c35 ?k35 ?a36 ?l36 ?c36 ?k36 ?i36 ?a37 ?l37 ?c37 ?k37 ?i37 ?a38 ?l38 ?c38 ?k38 ?i38 ?a39 ?l39 ?c39 ?k39 ?i39 ?a40 ?l40 ?c40 ?k40 ?i40 ?a41 ?l41 ?c41 ?k41 ?i41 ?a42 ?l42 ?c42 ?k42 ?i42 ?a43 ?l43 ?c43 ?k43 ?i43 ?a44 ?l44 ?c44 ?k44 ?i44 ?a45 ?l45 ?c45 ?k45 ?i45 ?a46 ?l46 ?c46 ?k46 ?i46 ?a47 ?l47 ?c47 ?k47 ?i47 ?a48 ?l48 ?c48 ?k48 ?i48 ?a49 ?l49 ?c49 ?k49 ?i49 ?ya ?y1 ?y2 ?y3 ?y4 ?y5 ?y6 ?yf0 ?yf1 ?yf2 ?z0 ?z1 ?z2 ?z3 ?z4 ?z5 ?z6 ?z7 ?z8 ?z9 ?z10 ?z11 ?z12 ?z13 ?z14 ?z15 ?z16
    (case ya => k_is); (case a0 => k_is); (case l0 => k_is); (case c0 => k_is); (case k0 => k_is); (case a1 => k_is); (case l1 => k_is); (case c1 => k_is); (case k1 => k_is); (case a2 => k_is); (case l2 => k_is); (case c2 => k_is); (case k2 => k_is); (case a3 => k_is); (case l3 => k_is); (case c3 => k_is); (case k3 => k_is); (case a4 => k_is); (case l4 => k_is); (case c4 => k_is); (case k4 => k_is); (case a5 => k_is); (case l5 => k_is); (case c5 => k_is); (case k5 => k_is); (case a6 => k_is); (case l6 => k_is); (case c6 => k_is); (case k6 => k_is); (case a7 => k_is); (case l7 => k_is); (case c7 => k_is); (case k7 => k_is); (case a8 => k_is); (case l8 => k_is); (case c8 => k_is); (case k8 => k_is); (case a9 => k_is); (case l9 => k_is); (case c9 => k_is); (case k9 => k_is); (case a10 => k_is); (case l10 => k_is); (case c10 => k_is); (case k10 => k_is); (case a11 => k_is); (case l11 => k_is); (case c11 => k_is); (case k11 => k_is); (case a12 => k_is); (case l12 => k_is); (case c12 => k_is); (case k12 => k_is); (case a13 => k_is); (case l13 => k_is); (case c13 => k_is); (case k13 => k_is); (case a14 => k_is); (case l14 => k_is); (case c14 => k_is); (case k14 => k_is); (case a15 => k_is); (case l15 => k_is); (case c15 => k_is); (case k15 => k_is); (case a16 => k_is); (case l16 => k_is); (case c16 => k_is); (case k16 => k_is); (case a17 => k_is); (case l17 => k_is); (case c17 => k_is); (case k17 => k_is); (case a18 => k_is); (case l18 => k_is); (case c18 => k_is); (case k18 => k_is); (case a19 => k_is); (case l19 => k_is); (case c19 => k_is); (case k19 => k_is); (case a20 => k_is); (case l20 => k_is); (case c20 => k_is); (case k20 => k_is); (case a21 => k_is); (case l21 => k_is); (case c21 => k_is); (case k21 => k_is); (case a22 => k_is); (case l22 => k_is); (case c22 => k_is); (case k22 => k_is); (case a23 => k_is); (case l23 => k_is); (case c23 => k_is); (case k23 => k_is); (case a24 => k_is); (case l24 => k_is); (case c24 => k_is); (case k24 => k_is); (case a25 => k_is); (case l25 => k_is); (case c25 => k_is); (case k25 => k_is); (case a26 => k_is); (case l26 => k_is); (case c26 => k_is); (case k26 => k_is); (case a27 => k_is); (case l27 => k_is); (case c27 => k_is); (case k27 => k_is); (case a28 => k_is); (case l28 => k_is); (case c28 => k_is); (case k28 => k_is); (case a29 => k_is); (case l29 => k_is); (case c29 => k_is); (case k29 => k_is); (case a30 => k_is); (case l30 => k_is); (case c30 => k_is); (case k30 => k_is); (case a31 => k_is); (case l31 => k_is); (case c31 => k_is); (case k31 => k_is); (case a32 => k_is); (case l32 => k_is); (case c32 => k_is); (case k32 => k_is); (case a33 => k_is); (case l33 => k_is); (case c33 => k_is); (case k33 => k_is); (case a34 => k_is); (case l34 => k_is); (case c34 => k_is); (case k34 => k_is); (case a35 => k_is); (case l35 => k_is); (case c35 => k_is); (case k35 => k_is); (case a36 => k_is); (case l36 => k_is); (case c36 => k_is); (case k36 => k_is); (case i36 => k_is); (case a37 => k_is); (case l37 => k_is); (case c37 => k_is); (case k37 => k_is); (case i37 => k_is); (case a38 => k_is); (case l38 => k_is); (case c38 => k_is); (case k38 => k_is); (case i38 => k_is); (case a39 => k_is); (case l39 => k_is); (case c39 => k_is); (case k39 => k_is); (case i39 => k_is); (case a40 => k_is); (case l40 => k_is); (case c40 => k_is); (case k40 => k_is); (case i40 => k_is); (case a41 => k_is); (case l41 => k_is); (case c41 => k_is); (case k41 => k_is); (case i41 => k_is); (case a42 => k_is); (case l42 => k_is); (case c42 => k_is); (case k42 => k_is); (case i42 => k_is); (case a43 => k_is); (case l43 => k_is); (case c43 => k_is); (case k43 => k_is); (case i43 => k_is); (case a44 => k_is); (case l44 => k_is); (case c44 => k_is); (case k44 => k_is); (case i44 => k_is); (case a45 => k_is); (case l45 => k_is); (case c45 => k_is); (case k45 => k_is); (case i45 => k_is); (case a46 => k_is); (case l46 => k_is); (case c46 => k_is); (case k46 => k_is); (case i46 => k_is); (case a47 => k_is); (case l47 => k_is); (case c47 => k_is); (case k47 => k_is); (case i47 => k_is); (case a48 => k_is); (case l48 => k_is); (case c48 => k_is); (case k48 => k_is); (case i48 => k_is); (case a49 => k_is); (case l49 => k_is); (case c49 => k_is); (case k49 => k_is); (case i49 => k_is); (case y1 => k_is); (case y2 => k_is); (case y3 => k_is); (case y4 => k_is); (case y5 => k_is); (case y6 => k_is); (case yf0 => k_is); (case yf1 => k_is); (case yf2 => k_is); (case z0 => k_is); (case z1 => k_is); (case z2 => k_is); (case z3 => k_is); (case z4 => k_is); (case z5 => k_is); (case z6 => k_is); (case z7 => k_is); (case z8 => k_is); (case z9 => k_is); (case z10 => k_is); (case z11 => k_is); (case z12 => k_is); (case z13 => k_is); (case z14 => k_is); (case z15 => k_is); (case z16 => k_is)
