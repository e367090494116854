import PyProof.Rows.All
import Wide.All
import OpenK.AllK
import Wide.FinOn
import HandS.ExcInit
import KE.KExcInit
import KE.KExcIs
import HandS.ForMost
import HandS.Wide
import HandS.Zip
import HandS.Style
import HandS.IsInst
import HandS.Walk
import HandS.TupAny
import HandS.Defaults
import KE.DataMinMax
import KE.GoesNew
import HandS.NoneIn
import HandS.Deep
import HandS.More
import HandS.TupMul
import HandS.Conv
import KE.KTupSum
import HandS.Text
import HandS.Iter
import HandS.RevRange
import KE.GoesMore
import PyProof.StrBlock2
import PyProof.Rows.StrJoinRep
import PyProof.Rows.StrCountLaw
import HandS.Star
import HandS.Ends
import PySem.Challenge.RW_dunebooks_k42_corners_of_orders
set_option Elab.async false
set_option linter.all false
set_option maxRecDepth 100000
namespace L2
open PySem PySem.Spec PyProof.Rows
def exk (a C dd : Addr) : HO := .ext fun h => ∃ (oe : Obj) (vs : Array Value), h.get? a = some oe ∧ oe.cls = .ref C ∧ oe.dict = some dd ∧ oe.data = .fields vs
def xfield (c : Str) : Str :=
  if c = "Clash" then "places" else if c = "Against" then "place" else if c = "Astray" then "number" else if c = "BadText" then "at" else if c = "BadRow" then "row" else
  if c = "NoPost" then "post" else if c = "NoOrder" then "number" else if c = "NoCore" then "core" else "many"
inductive XB where
  | v | l | o
def XB.tl : XB → List String
  | .v => ["ValueError", "Exception", "BaseException", "object"]
  | .l => ["LookupError", "Exception", "BaseException", "object"]
  | .o => ["OverflowError", "ArithmeticError", "Exception", "BaseException", "object"]
def XB.new : XB → String
  | .v => "ValueError.__new__"
  | .l => "LookupError.__new__"
  | .o => "OverflowError.__new__"
end L2
namespace Pl
open PySem PySem.Spec PyProof.Rows L2
inductive D where
  | non | bl (b : Bool) | int (i : Int) | str (x : Str) | lst (xs : List D) | tup (xs : List D) | scr (ns : List Int) | adr (a : Addr) | exc (c : Str) (y : D)
mutual
inductive Rep (K : PySem.W.Frag) (F : Hp) : V → D → Prop
  | non : Rep K F .non .non
  | bl (b : Bool) : Rep K F (.bl b) (.bl b)
  | int (i : Int) : Rep K F (.int i) (.int i)
  | str (x : Str) : Rep K F (.str x) (.str x)
  | lst {a : Addr} {vs : List V} {ds : List D} : F a = some (.lst vs) → Reps K F vs ds → Rep K F (.ref a) (.lst ds)
  | tup {a : Addr} {vs : List V} {ds : List D} : F a = some (.tup vs) → Reps K F vs ds → Rep K F (.ref a) (.tup ds)
  | scr {a : Addr} {ns : List Int} : SqL K F a (ns.map V.int) → Rep K F (.ref a) (.scr ns)
  | adr (a : Addr) : Rep K F (.ref a) (.adr a)
  | exc {a C dd : Addr} {v : V} {c : Str} {y : D} : PySem.W.nsIn K mainGlobals c = some (some (.ref C)) → F a = some (exk a C dd) → F dd = some (.xd [(xfield c, v)]) → Rep K F v y → Rep K F (.ref a) (.exc c y)
inductive Reps (K : PySem.W.Frag) (F : Hp) : List V → List D → Prop
  | nil : Reps K F [] []
  | cons {v : V} {vs : List V} {d : D} {ds : List D} : Rep K F v d → Reps K F vs ds → Reps K F (v :: vs) (d :: ds)
end
section
variable {K : PySem.W.Frag} {F F' : Hp}
mutual
theorem Rep.mono (e : Same F F') : ∀ {v : V} {d : D}, Rep K F v d → Rep K F' v d
  | _, _, .non => .non
  | _, _, .bl b => .bl b
  | _, _, .int i => .int i
  | _, _, .str x => .str x
  | _, _, .lst h r => .lst (e _ _ h) (Reps.mono e r)
  | _, _, .tup h r => .tup (e _ _ h) (Reps.mono e r)
  | _, _, .scr h => .scr (e.seq h)
  | _, _, .adr a => .adr a
  | _, _, .exc h1 h2 h3 r => .exc h1 (e _ _ h2) (e _ _ h3) (Rep.mono e r)
theorem Reps.mono (e : Same F F') : ∀ {vs : List V} {ds : List D}, Reps K F vs ds → Reps K F' vs ds
  | _, _, .nil => .nil
  | _, _, .cons h r => .cons (Rep.mono e h) (Reps.mono e r)
end
theorem Reps.length : ∀ {vs : List V} {ds : List D}, Reps K F vs ds → vs.length = ds.length
  | _, _, .nil => rfl
  | _, _, .cons _ r => by simp [Reps.length r]
theorem Reps.get : ∀ {vs : List V} {ds : List D} {i : Nat} {d : D}, Reps K F vs ds → ds[i]? = some d → ∃ v, vs[i]? = some v ∧ Rep K F v d
  | _, _, _, _, .nil, e => by simp at e
  | _, _, 0, _, .cons r _, e => by simp at e; subst e; exact ⟨_, rfl, r⟩
  | _, _, i + 1, d, .cons _ t, e => by
    obtain ⟨u, h1, h2⟩ := Reps.get (i := i) (d := d) t (by simpa using e)
    exact ⟨u, by simpa using h1, h2⟩
theorem Reps.append : ∀ {vs ws : List V} {ds es : List D}, Reps K F vs ds → Reps K F ws es → Reps K F (vs ++ ws) (ds ++ es)
  | _, _, _, _, .nil, s => s
  | _, _, _, _, .cons r t, s => .cons r (Reps.append t s)
theorem Reps.one {v : V} {d : D} (h : Rep K F v d) : Reps K F [v] [d] := .cons h .nil
theorem Reps.set {v : V} {d : D} (r : Rep K F v d) : ∀ {vs : List V} {ds : List D} (i : Nat), Reps K F vs ds → Reps K F (vs.set i v) (ds.set i d)
  | _, _, _, .nil => .nil
  | _, _, 0, .cons _ t => .cons r t
  | _, _, i + 1, .cons q t => .cons q (Reps.set r i t)
theorem Reps.drop : ∀ {vs : List V} {ds : List D} (n : Nat), Reps K F vs ds → Reps K F (vs.drop n) (ds.drop n)
  | _, _, 0, h => h
  | _, _, _ + 1, .nil => .nil
  | _, _, n + 1, .cons _ t => Reps.drop n t
theorem Reps.take : ∀ {vs : List V} {ds : List D} (n : Nat), Reps K F vs ds → Reps K F (vs.take n) (ds.take n)
  | _, _, 0, _ => .nil
  | _, _, _ + 1, .nil => .nil
  | _, _, n + 1, .cons r t => .cons r (Reps.take n t)
theorem Reps.reverse : ∀ {vs : List V} {ds : List D}, Reps K F vs ds → Reps K F vs.reverse ds.reverse
  | _, _, .nil => .nil
  | _, _, .cons r t => by
    rw [List.reverse_cons, List.reverse_cons]
    exact (Reps.reverse t).append (.one r)
theorem Reps.bls : ∀ {vs : List V} {bs : List Bool}, Reps K F vs (bs.map D.bl) → vs = bs.map V.bl
  | _, [], .nil => rfl
  | _, n :: ns, .cons h t => by cases h; rw [Reps.bls t]; rfl
end
inductive Fd where
  | val (d : D) | own (a : Addr) (xs : List D)
inductive Sh where
  | dic (a : Addr) (ps : List (L2.Key × D)) | ins (a C dx : Addr) (fs : List (Str × Fd))
  | dicL (a : Addr) (o : Obj) (kvs : List (L2.Key × V)) (ps : List (L2.Key × D))
inductive Cell where
  | val (d : D) | own (a : Addr) (xs : List D) | box (s : Sh)
abbrev Ro := List (Option Cell)
def KvR (K : PySem.W.Frag) (F : Hp) : List (L2.Key × V) → List (L2.Key × D) → Prop
  | [], [] => True
  | p :: ps, q :: qs => p.1 = q.1 ∧ Rep K F p.2 q.2 ∧ KvR K F ps qs
  | _, _ => False
def Fd.foot : Fd → List Addr
  | .val _ => []
  | .own a _ => [a]
def Fd.At (K : PySem.W.Frag) (F H : Hp) (v : V) : Fd → Prop
  | .val d => Rep K F v d
  | .own a xs => v = .ref a ∧ ∃ vs, H a = some (.lst vs) ∧ Reps K F vs xs
def FsR (K : PySem.W.Frag) (F H : Hp) : List (Str × V) → List (Str × Fd) → Prop
  | [], [] => True
  | p :: ps, q :: qs => p.1 = q.1 ∧ q.2.At K F H p.2 ∧ FsR K F H ps qs
  | _, _ => False
def fsFoot (fs : List (Str × Fd)) : List Addr := fs.flatMap fun p => p.2.foot
def Sh.root : Sh → Addr
  | .dic a _ => a
  | .ins a _ _ _ => a
  | .dicL a _ _ _ => a
def Sh.foot : Sh → List Addr
  | .dic a _ => [a]
  | .ins a _ dx fs => a :: dx :: fsFoot fs
  | .dicL a _ _ _ => [a]
def Sh.At (K : PySem.W.Frag) (F H : Hp) : Sh → Prop
  | .dic a ps => ∃ kvs, H a = some (.dK kvs) ∧ KvR K F kvs ps
  | .ins a C dx fs => (fsFoot fs).Nodup ∧ ∃ vs, H a = some (.ins C dx vs) ∧ H dx = some (.own a) ∧ FsR K F H vs fs
  | .dicL a o kvs ps => H a = some (.frz o (.dK kvs)) ∧ KvR K F kvs ps
theorem KvR.mono {K : PySem.W.Frag} {F F' : Hp} (sm : Same F F') : ∀ {kvs : List (L2.Key × V)} {ps : List (L2.Key × D)}, KvR K F kvs ps → KvR K F' kvs ps
  | [], [], _ => trivial
  | _ :: _, _ :: _, h => ⟨h.1, h.2.1.mono sm, KvR.mono sm h.2.2⟩
  | [], _ :: _, h => h.elim
  | _ :: _, [], h => h.elim
theorem FsR.mono {K : PySem.W.Frag} {F F' H H' : Hp} (sm : Same F F') : ∀ {vs : List (Str × V)} {fs : List (Str × Fd)}, (∀ p ∈ fsFoot fs, H' p = H p) → FsR K F H vs fs → FsR K F' H' vs fs
  | [], [], _, _ => trivial
  | (x, v) :: vs, (y, .val d) :: fs, e, h => ⟨h.1, h.2.1.mono sm, FsR.mono sm e h.2.2⟩
  | (x, v) :: vs, (y, .own a xs) :: fs, e, h => ⟨h.1, by
    obtain ⟨h1, ws, h2, h3⟩ := h.2.1
    exact ⟨h1, ws, by rw [e a (List.mem_cons_self)]; exact h2, h3.mono sm⟩, FsR.mono sm (fun p m => e p (List.mem_cons_of_mem _ m)) h.2.2⟩
  | [], _ :: _, _, h => h.elim
  | _ :: _, [], _, h => h.elim
theorem FsR.live {K : PySem.W.Frag} {F H : Hp} : ∀ {vs : List (Str × V)} {fs : List (Str × Fd)}, FsR K F H vs fs → ∀ p ∈ fsFoot fs, ∃ o, H p = some o
  | [], [], _, p, m => by cases m
  | (x, v) :: vs, (y, .val d) :: fs, h, p, m => FsR.live h.2.2 p m
  | (x, v) :: vs, (y, .own a xs) :: fs, h, p, m => by
    have m : p ∈ a :: fsFoot fs := m
    rcases List.mem_cons.mp m with rfl | m
    · obtain ⟨h1, ws, h2, h3⟩ := h.2.1
      exact ⟨_, h2⟩
    · exact FsR.live h.2.2 p m
  | [], _ :: _, h, _, _ => h.elim
  | _ :: _, [], h, _, _ => h.elim
theorem Sh.At.mono {K : PySem.W.Frag} {F F' H H' : Hp} {s : Sh} (h : s.At K F H) (sm : Same F F') (e : ∀ p ∈ s.foot, H' p = H p) : s.At K F' H' := by
  cases s with
  | dic a ps =>
    obtain ⟨kvs, h1, h2⟩ := h
    exact ⟨kvs, by rw [e a (by simp [Sh.foot])]; exact h1, h2.mono sm⟩
  | ins a C dx fs =>
    obtain ⟨n, vs, h1, h2, h3⟩ := h
    exact ⟨n, vs, by rw [e a (by simp [Sh.foot])]; exact h1, by rw [e dx (by simp [Sh.foot])]; exact h2, h3.mono sm fun p m => e p (by simp [Sh.foot, m])⟩
  | dicL a o kvs ps => exact ⟨by rw [e a (by simp [Sh.foot])]; exact h.1, h.2.mono sm⟩
theorem Sh.At.live {K : PySem.W.Frag} {F H : Hp} {s : Sh} (h : s.At K F H) {p : Addr} (m : p ∈ s.foot) : ∃ o, H p = some o := by
  cases s with
  | dic a ps =>
    obtain ⟨kvs, h1, h2⟩ := h
    rw [List.mem_singleton.mp m]; exact ⟨_, h1⟩
  | ins a C dx fs =>
    obtain ⟨n, vs, h1, h2, h3⟩ := h
    have m : p ∈ a :: dx :: fsFoot fs := m
    rcases List.mem_cons.mp m with rfl | m
    · exact ⟨_, h1⟩
    rcases List.mem_cons.mp m with rfl | m
    · exact ⟨_, h2⟩
    · exact h3.live p m
  | dicL a o kvs ps => rw [List.mem_singleton.mp m]; exact ⟨_, h.1⟩
def InBox (ρ : Ro) (p : Addr) : Prop := ∃ (i : Nat) (s : Sh), ρ[i]? = some (some (.box s)) ∧ p ∈ s.foot
structure BxOk (K : PySem.W.Frag) (F G H : Hp) (σ : L2.St) (ρ : Ro) : Prop where
  box : ∀ (i : Nat) (s : Sh), ρ[i]? = some (some (.box s)) → σ[i]? = some (some (.ref s.root)) ∧ (∀ p ∈ s.foot, F p = none ∧ G p = none) ∧ s.At K F H
  bb : ∀ (i j : Nat) (s t : Sh) (p : Addr), ρ[i]? = some (some (.box s)) → ρ[j]? = some (some (.box t)) → p ∈ s.foot → p ∈ t.foot → i = j
  bo : ∀ (j : Nat) (a : Addr) (xs : List D), ρ[j]? = some (some (.own a xs)) → ¬ InBox ρ a
section
variable {K : PySem.W.Frag} {F F' G G' H H' : Hp} {σ σ' : L2.St} {ρ ρ' : Ro}
theorem BxOk.to (B : BxOk K F G H σ ρ) (hs : Same F F') (hp : ∀ p, InBox ρ p → F' p = none ∧ G' p = none ∧ H' p = H p) (hb : ∀ (i : Nat) (s : Sh), ρ'[i]? = some (some (.box s)) → ρ[i]? = some (some (.box s)) ∧ σ'[i]? = σ[i]?)
    (ho : ∀ (j : Nat) (a : Addr) (xs : List D), ρ'[j]? = some (some (.own a xs)) → (∃ (k : Nat) (ys : List D), ρ[k]? = some (some (.own a ys))) ∨ ¬ InBox ρ a) : BxOk K F' G' H' σ' ρ' := by
  refine ⟨fun i s q => ?_, fun i j s t p q1 q2 m1 m2 => B.bb i j s t p (hb i s q1).1 (hb j t q2).1 m1 m2, fun j a xs q m => ?_⟩
  · obtain ⟨h1, h2⟩ := hb i s q
    obtain ⟨g1, g2, g3⟩ := B.box i s h1
    exact ⟨h2.trans g1, fun p m => ⟨(hp p ⟨i, s, h1, m⟩).1, (hp p ⟨i, s, h1, m⟩).2.1⟩, g3.mono hs fun p m => (hp p ⟨i, s, h1, m⟩).2.2⟩
  · have n : ¬ InBox ρ a := (ho j a xs q).elim (fun ⟨k, ys, e⟩ => B.bo k a ys e) id
    obtain ⟨i, s, h1, h2⟩ := m
    exact n ⟨i, s, (hb i s h1).1, h2⟩
theorem BxOk.free (B : BxOk K F G H σ ρ) {p : Addr} (m : InBox ρ p) : F p = none ∧ G p = none ∧ ∃ o, H p = some o := by
  obtain ⟨i, s, h1, h2⟩ := m
  obtain ⟨g1, g2, g3⟩ := B.box i s h1
  exact ⟨(g2 p h2).1, (g2 p h2).2, g3.live h2⟩
theorem BxOk.apart (B : BxOk K F G H σ ρ) {p a : Addr} {j : Nat} {xs : List D} (m : InBox ρ p) (e : ρ[j]? = some (some (.own a xs))) : p ≠ a := fun z => by
  subst z
  exact B.bo j _ xs e m
theorem BxOk.heap (B : BxOk K F G H σ ρ) (hs : Same F F') (hp : ∀ p, InBox ρ p → F' p = none ∧ G' p = none ∧ H' p = H p) : BxOk K F' G' H' σ ρ := B.to hs hp (fun i s q => ⟨q, rfl⟩) fun j a xs q => .inl ⟨j, xs, q⟩
theorem BxOk.nil (h : ∀ (i : Nat) (s : Sh), ρ[i]? ≠ some (some (.box s))) : BxOk K F G H σ ρ := ⟨fun i s q => absurd q (h i s), fun i j s t p q1 _ _ _ => absurd q1 (h i s), fun j a xs q m => by
  obtain ⟨i, s, h1, _⟩ := m
  exact h i s h1⟩
theorem BxOk.fresh (B : BxOk K F G H σ ρ) {a : Addr} (h : H a = none) : ¬ InBox ρ a := fun m => by
  obtain ⟨_, _, o, e⟩ := B.free m
  rw [h] at e; cases e
theorem BxOk.notG (B : BxOk K F G H σ ρ) {a : Addr} {o : HO} (h : G a = some o) : ¬ InBox ρ a := fun m => by
  have := (B.free m).2.1
  rw [h] at this; cases this
theorem BxOk.unguard (B : BxOk K F G' H σ ρ) (h : Same G G') : BxOk K F G H σ ρ := B.heap (.refl _) fun p m => ⟨(B.free m).1, h.free (B.free m).2.1, rfl⟩
theorem BxOk.guard (B : BxOk K F G H σ ρ) {p : Addr} {o : HO} (h : ¬ InBox ρ p) : BxOk K F (upd G p o) H σ ρ := B.heap (.refl _) fun q m => ⟨(B.free m).1, by rw [upd_ne (a := p) (b := q) fun z => h (by rw [← z]; exact m)]; exact (B.free m).2.1, rfl⟩
theorem BxOk.upd' (B : BxOk K F G H σ ρ) {p : Addr} {o : HO} (h : ¬ InBox ρ p) : BxOk K F G (upd H p o) σ ρ := B.heap (.refl _) fun q m => ⟨(B.free m).1, (B.free m).2.1, upd_ne fun z => h (by rw [← z]; exact m)⟩
theorem BxOk.new (B : BxOk K F G H σ ρ) {p : Addr} {o : HO} (hF : F p = none) (h : H p = none) : BxOk K (upd F p o) G (upd H p o) σ ρ := B.heap (fun b x e => by rw [upd_ne (ne_of_none e hF)]; exact e) fun q m => by
  obtain ⟨f, g, o, e⟩ := B.free m
  have n : q ≠ p := ne_of_none e h
  exact ⟨by rw [upd_ne n]; exact f, g, by rw [upd_ne n]⟩
theorem BxOk.more (B : BxOk K F G H σ ρ) {p : Addr} {o : HO} (h : H p = none) : BxOk K F G (upd H p o) σ ρ := B.heap (.refl _) fun q m => by
  obtain ⟨f, g, o, e⟩ := B.free m
  have n : q ≠ p := ne_of_none e h
  exact ⟨f, g, by rw [upd_ne n]⟩
theorem set_box {i j : Nat} {c : Option Cell} {s : Sh} (hc : ∀ t, c ≠ some (.box t)) (q : (ρ.set i c)[j]? = some (some (.box s))) : ρ[j]? = some (some (.box s)) ∧ i ≠ j := by
  by_cases hj : i = j
  · subst hj
    by_cases hi : i < ρ.length
    · rw [List.getElem?_set_self hi] at q; exact absurd (Option.some.inj q) (hc s)
    · rw [List.getElem?_eq_none (by simpa using hi)] at q; cases q
  · rw [List.getElem?_set_ne hj] at q; exact ⟨q, hj⟩
theorem set_inbox {i : Nat} {c : Option Cell} {p : Addr} (hc : ∀ t, c ≠ some (.box t)) : InBox (ρ.set i c) p → InBox ρ p := fun ⟨j, s, e, m⟩ => ⟨j, s, (set_box hc e).1, m⟩
theorem set_own {i j : Nat} {c : Option Cell} {a : Addr} {xs : List D} (q : (ρ.set i c)[j]? = some (some (.own a xs))) : c = some (.own a xs) ∨ ρ[j]? = some (some (.own a xs)) := by
  by_cases hj : i = j
  · subst hj
    by_cases hi : i < ρ.length
    · rw [List.getElem?_set_self hi] at q; exact .inl (Option.some.inj q)
    · rw [List.getElem?_eq_none (by simpa using hi)] at q; cases q
  · rw [List.getElem?_set_ne hj] at q; exact .inr q
theorem BxOk.set (B : BxOk K F G H σ ρ) (i : Nat) (v : Option V) {c : Option Cell} (hc : ∀ t, c ≠ some (.box t)) (ho : ∀ a xs, c = some (.own a xs) → (∃ (k : Nat) (ys : List D), ρ[k]? = some (some (.own a ys))) ∨ ¬ InBox ρ a) : BxOk K F G H (σ.set i v) (ρ.set i c) :=
  B.to (.refl _) (fun p m => ⟨(B.free m).1, (B.free m).2.1, rfl⟩) (fun j s q => ⟨(set_box hc q).1, List.getElem?_set_ne (set_box hc q).2⟩) fun j a xs q => (set_own q).elim (ho a xs) fun q => .inl ⟨j, xs, q⟩
theorem BxOk.set' (B : BxOk K F G H σ ρ) (i : Nat) {c : Option Cell} (hc : ∀ t, c ≠ some (.box t)) (ho : ∀ a xs, c = some (.own a xs) → (∃ (k : Nat) (ys : List D), ρ[k]? = some (some (.own a ys))) ∨ ¬ InBox ρ a) : BxOk K F G H σ (ρ.set i c) :=
  B.to (.refl _) (fun p m => ⟨(B.free m).1, (B.free m).2.1, rfl⟩) (fun j s q => ⟨(set_box hc q).1, rfl⟩) fun j a xs q => (set_own q).elim (ho a xs) fun q => .inl ⟨j, xs, q⟩
end
structure Up (G F F' : Hp) : Prop where
  ex : Same F F'
  out : ∀ a o, F' a = some o → F a = some o ∨ G a = none
theorem Up.refl (G F : Hp) : Up G F F := ⟨.refl F, fun _ _ h => .inl h⟩
theorem Up.trans {G F F1 F2 : Hp} (a : Up G F F1) (b : Up G F1 F2) : Up G F F2 := ⟨a.ex.trans b.ex, fun x o h => by
  rcases b.out x o h with h | h
  · exact a.out x o h
  · exact .inr h⟩
theorem Up.isNone {G F F' : Hp} (u : Up G F F') {a : Addr} {o : HO} (hF : F a = none) (hG : G a = some o) : F' a = none := by
  cases q : F' a with
  | none => rfl
  | some x =>
    rcases u.out a x q with h | h
    · rw [hF] at h; cases h
    · rw [hG] at h; cases h
theorem Up.less {G G' F F' : Hp} (u : Up G F F') (h : Same G' G) : Up G' F F' := ⟨u.ex, fun a o e => by
  rcases u.out a o e with q | q
  · exact .inl q
  · exact .inr (h.free q)⟩
def Mut : HO → Prop
  | .lst _ => True
  | .dK _ => True
  | .ins _ _ _ => True
  | .own _ => True
  | .frz _ _ => True
  | _ => False
theorem FsR.mut {K : PySem.W.Frag} {F H : Hp} : ∀ {vs : List (Str × V)} {fs : List (Str × Fd)}, FsR K F H vs fs → ∀ p ∈ fsFoot fs, ∃ o, H p = some o ∧ Mut o
  | [], [], _, p, m => by cases m
  | (x, v) :: vs, (y, .val d) :: fs, h, p, m => FsR.mut h.2.2 p m
  | (x, v) :: vs, (y, .own a xs) :: fs, h, p, m => by
    have m : p ∈ a :: fsFoot fs := m
    rcases List.mem_cons.mp m with rfl | m
    · obtain ⟨h1, ws, h2, h3⟩ := h.2.1
      exact ⟨_, h2, trivial⟩
    · exact FsR.mut h.2.2 p m
  | [], _ :: _, h, _, _ => h.elim
  | _ :: _, [], h, _, _ => h.elim
theorem Sh.At.mut {K : PySem.W.Frag} {F H : Hp} {s : Sh} (h : s.At K F H) {p : Addr} (m : p ∈ s.foot) : ∃ o, H p = some o ∧ Mut o := by
  cases s with
  | dic a ps =>
    obtain ⟨kvs, h1, h2⟩ := h
    rw [List.mem_singleton.mp m]; exact ⟨_, h1, trivial⟩
  | ins a C dx fs =>
    obtain ⟨n, vs, h1, h2, h3⟩ := h
    have m : p ∈ a :: dx :: fsFoot fs := m
    rcases List.mem_cons.mp m with rfl | m
    · exact ⟨_, h1, trivial⟩
    rcases List.mem_cons.mp m with rfl | m
    · exact ⟨_, h2, trivial⟩
    · exact h3.mut p m
  | dicL a o kvs ps => rw [List.mem_singleton.mp m]; exact ⟨_, h.1, trivial⟩
theorem BxOk.mut {K : PySem.W.Frag} {F G H : Hp} {σ : L2.St} {ρ : Ro} (B : BxOk K F G H σ ρ) {p : Addr} (m : InBox ρ p) : ∃ o, H p = some o ∧ Mut o := by
  obtain ⟨i, s, h1, h2⟩ := m
  exact (B.box i s h1).2.2.mut h2
class TJ where
  J : Hp → Hp → Hp → Prop
  step : ∀ {G F F' H H' : Hp}, J G F H → (∀ b o, H b = some o → ¬ Mut o → H' b = some o) → (∀ b o, F' b = some o → F b = some o ∨ H b = none ∨ ∃ x, H b = some x ∧ Mut x) → J G F' H'
  frame : ∀ {G G' F H : Hp}, J G F H → (∀ b o, G' b = some o → G b = some o ∨ ∃ x, H b = some x ∧ Mut x) → J G' F H
@[reducible] def tj0 : TJ := ⟨fun _ _ _ => True, fun _ _ _ => trivial, fun _ _ => trivial⟩
@[reducible] instance (priority := low) tjNone : TJ := tj0
structure SameJ [TJ] (G F H : Hp) : Prop where
  same : Same G H
  tj : TJ.J G F H
section
variable [TJ] {G G' F F' H H' : Hp}
instance : CoeFun (SameJ G F H) (fun _ => ∀ a x, G a = some x → H a = some x) := ⟨fun h => h.same⟩
instance : CoeOut (SameJ G F H) (Same G H) := ⟨fun h => h.same⟩
theorem SameJ.step (h : SameJ G F H) (e : Same H H') (f : ∀ b o, F' b = some o → F b = some o ∨ H b = none ∨ ∃ vs, H b = some (.lst vs)) : SameJ G F' H' := ⟨h.same.trans e, TJ.step h.tj (fun b o q _ => e b o q) fun b o q => (f b o q).elim .inl fun z => z.elim (fun z => .inr (.inl z)) fun ⟨vs, z⟩ => .inr (.inr ⟨_, z, trivial⟩)⟩
theorem SameJ.trans (h : SameJ G F H) (e : Same H H') : SameJ G F H' := h.step e fun _ _ q => .inl q
theorem SameJ.up (h : SameJ G F H) (e : Same H H') (u : ∀ b o, F' b = some o → F b = some o ∨ H b = none) : SameJ G F' H' := h.step e fun b o q => (u b o q).elim .inl fun z => .inr (.inl z)
theorem SameJ.new (h : SameJ G F H) {p : Addr} {o : HO} (n : H p = none) : SameJ G (upd F p o) (upd H p o) := h.up (fun b x q => by rw [upd_ne (ne_of_none q n)]; exact q) fun b x q => by
  by_cases m : b = p
  · subst m; exact .inr n
  · rw [upd_ne m] at q; exact .inl q
theorem SameJ.froz (h : SameJ G F H) (f : ∀ b o, F' b = some o → F b = some o ∨ ∃ vs, H b = some (.lst vs)) : SameJ G F' H := h.step (.refl _) fun b o q => (f b o q).elim .inl fun z => .inr (.inr z)
theorem SameJ.free (h : SameJ G F H) {a : Addr} (n : H a = none) : G a = none := h.same.free n
theorem SameJ.less (h : SameJ G F H) (e : Same G' G) : SameJ G' F H := ⟨e.trans h.same, TJ.frame h.tj fun b o q => .inl (e b o q)⟩
theorem SameJ.mut (h : SameJ G F H) {a : Addr} {o u : HO} (n : G a = none) (e : H a = some o) (mo : Mut o := by trivial) : SameJ G F (upd H a u) :=
  ⟨fun b x q => by
    have m : b ≠ a := fun z => by subst z; rw [n] at q; cases q
    rw [upd_ne m]; exact h.same b x q, TJ.step h.tj (fun b o q ne => by
    have m : b ≠ a := fun z => by subst z; rw [e] at q; exact ne ((Option.some.inj q) ▸ mo)
    rw [upd_ne m]; exact q) fun _ _ q => .inl q⟩
theorem SameJ.guard (h : SameJ G F H) {a : Addr} {o : HO} (e : H a = some o) (mo : Mut o := by trivial) : SameJ (upd G a o) F H :=
  ⟨fun b x q => by
    by_cases m : b = a
    · subst m; rw [upd_same] at q; cases q; exact e
    · rw [upd_ne m] at q; exact h.same b x q, TJ.frame h.tj fun b u q => by
    by_cases m : b = a
    · subst m; exact .inr ⟨o, e, mo⟩
    · rw [upd_ne m] at q; exact .inl q⟩
end
structure Sim [TJ] (K : PySem.W.Frag) (G F H : Hp) (σ : L2.St) (ρ : Ro) : Prop where
  hF : Same F H
  hG : SameJ G F H
  len : σ.length = ρ.length
  val : ∀ (i : Nat) (d : D), ρ[i]? = some (some (.val d)) → ∃ v, σ[i]? = some (some v) ∧ Rep K F v d
  own : ∀ (i : Nat) (a : Addr) (xs : List D), ρ[i]? = some (some (.own a xs)) → σ[i]? = some (some (.ref a)) ∧ F a = none ∧ G a = none ∧ ∃ vs, H a = some (.lst vs) ∧ Reps K F vs xs
  ne : ∀ (i j : Nat) (a : Addr) (xs ys : List D), ρ[i]? = some (some (.own a xs)) → ρ[j]? = some (some (.own a ys)) → i = j
  bx : BxOk K F G H σ ρ
structure SimR (K : PySem.W.Frag) (G F H : Hp) (σ : L2.St) (ρ : Ro) : Prop where
  hF : Same F H
  hG : Same G H
  len : σ.length = ρ.length
  val : ∀ (i : Nat) (d : D), ρ[i]? = some (some (.val d)) → ∃ v, σ[i]? = some (some v) ∧ Rep K F v d
  own : ∀ (i : Nat) (a : Addr) (xs : List D), ρ[i]? = some (some (.own a xs)) → σ[i]? = some (some (.ref a)) ∧ F a = none ∧ G a = none ∧ ∃ vs, H a = some (.lst vs) ∧ Reps K F vs xs
  ne : ∀ (i j : Nat) (a : Addr) (xs ys : List D), ρ[i]? = some (some (.own a xs)) → ρ[j]? = some (some (.own a ys)) → i = j
  bx : BxOk K F G H σ ρ
theorem SameJ.rfl' (F H : Hp) : SameJ H F H := ⟨.refl H, trivial⟩
theorem SameJ.of {G F H : Hp} (h : Same G H) : SameJ G F H := ⟨h, trivial⟩
section
variable [TJ] {K : PySem.W.Frag} {G F H : Hp} {σ : L2.St} {ρ : Ro}
theorem Sim.freshF (S : Sim K G F H σ ρ) {p : Addr} (h : H p = none) : F p = none := S.hF.free h
theorem Sim.freshG (S : Sim K G F H σ ρ) {p : Addr} (h : H p = none) : G p = none := S.hG.free h
theorem same_new {H : Hp} {p : Addr} {o : HO} (h : H p = none) : Same H (upd H p o) := fun b x e => by
  rw [upd_ne (ne_of_none e h)]
  exact e
theorem Up.new {p : Addr} {o : HO} (hF : F p = none) (hG : G p = none) : Up G F (upd F p o) := ⟨same_new hF, fun a x e => by
  by_cases q : a = p
  · subst q; exact .inr hG
  · rw [upd_ne q] at e; exact .inl e⟩
theorem Sim.new (S : Sim K G F H σ ρ) {p : Addr} {o : HO} (h : H p = none) : Sim K G (upd F p o) (upd H p o) σ ρ where
  hF := fun a x e => by
    by_cases q : a = p
    · subst q; rw [upd_same] at e ⊢; exact e
    · rw [upd_ne q] at e ⊢; exact S.hF a x e
  hG := S.hG.new h
  len := S.len
  val := fun i d e => by
    obtain ⟨v, h1, h2⟩ := S.val i d e
    exact ⟨v, h1, h2.mono (same_new (S.freshF h))⟩
  own := fun i a xs e => by
    obtain ⟨h1, h2, h3, vs, h4, h5⟩ := S.own i a xs e
    have q : a ≠ p := ne_of_none h4 h
    exact ⟨h1, by rw [upd_ne q]; exact h2, h3, vs, by rw [upd_ne q]; exact h4, h5.mono (same_new (S.freshF h))⟩
  ne := S.ne
  bx := S.bx.new (S.freshF h) h
theorem Sim.upNew (S : Sim K G F H σ ρ) {p : Addr} {o : HO} (h : H p = none) : Up G F (upd F p o) := Up.new (S.freshF h) (S.freshG h)
theorem Sim.more (S : Sim K G F H σ ρ) {p : Addr} {o : HO} (h : H p = none) : Sim K G F (upd H p o) σ ρ where
  hF := S.hF.trans (same_new h)
  hG := S.hG.trans (same_new h)
  len := S.len
  val := S.val
  own := fun i a xs e => by
    obtain ⟨h1, h2, h3, vs, h4, h5⟩ := S.own i a xs e
    exact ⟨h1, h2, h3, vs, by rw [upd_ne (ne_of_none h4 h)]; exact h4, h5⟩
  ne := S.ne
  bx := S.bx.more h
theorem Sim.mut (S : Sim K G F H σ ρ) {i : Nat} {a : Addr} {xs ys : List D} {vs : List V} (e : ρ[i]? = some (some (.own a xs))) (r : Reps K F vs ys) :
    Sim K G F (upd H a (.lst vs)) σ (ρ.set i (some (.own a ys))) := by
  obtain ⟨h1, h2, h3, ws, h4, h5⟩ := S.own i a xs e
  have hi : i < ρ.length := by
    rcases Nat.lt_or_ge i ρ.length with h | h
    · exact h
    · rw [List.getElem?_eq_none h] at e; cases e
  refine ⟨fun b x q => ?_, S.hG.mut h3 h4, by simpa using S.len, fun j d q => ?_, fun j b zs q => ?_, fun j k b zs ws q1 q2 => ?_, S.bx.to (.refl _) (fun q m => ⟨(S.bx.free m).1, (S.bx.free m).2.1, upd_ne (S.bx.apart m e)⟩) (fun j s q => ⟨(set_box (by simp) q).1, rfl⟩) fun j b zs q => (set_own q).elim (fun z => by cases z; exact .inl ⟨i, xs, e⟩) fun q => .inl ⟨j, zs, q⟩⟩
  · have n : b ≠ a := fun z => by subst z; rw [h2] at q; cases q
    rw [upd_ne n]; exact S.hF b x q
  · by_cases hj : i = j
    · subst hj; rw [List.getElem?_set_self hi] at q; cases q
    · rw [List.getElem?_set_ne hj] at q; exact S.val j d q
  · by_cases hj : i = j
    · subst hj
      rw [List.getElem?_set_self hi] at q
      cases q
      exact ⟨h1, h2, h3, vs, upd_same, r⟩
    · rw [List.getElem?_set_ne hj] at q
      obtain ⟨g1, g2, g3, us, g4, g5⟩ := S.own j b zs q
      have n : b ≠ a := fun z => by subst z; exact hj (S.ne _ _ _ _ _ e q)
      exact ⟨g1, g2, g3, us, by rw [upd_ne n]; exact g4, g5⟩
  · by_cases hj : i = j
    · subst hj
      by_cases hk : i = k
      · exact hk
      · rw [List.getElem?_set_self hi] at q1
        rw [List.getElem?_set_ne hk] at q2
        cases q1
        exact absurd (S.ne _ _ _ _ _ e q2) hk
    · by_cases hk : i = k
      · subst hk
        rw [List.getElem?_set_self hi] at q2
        rw [List.getElem?_set_ne hj] at q1
        cases q2
        exact absurd (S.ne _ _ _ _ _ e q1) hj
      · rw [List.getElem?_set_ne hj] at q1
        rw [List.getElem?_set_ne hk] at q2
        exact S.ne _ _ _ _ _ q1 q2
theorem Sim.setVal (S : Sim K G F H σ ρ) (i : Nat) {v : V} {d : D} (r : Rep K F v d) : Sim K G F H (σ.set i (some v)) (ρ.set i (some (.val d))) := by
  refine ⟨S.hF, S.hG, by simpa using S.len, fun j d' q => ?_, fun j b zs q => ?_, fun j k b zs ws q1 q2 => ?_, S.bx.set i _ (by simp) (by simp)⟩
  · by_cases hj : i = j
    · subst hj
      by_cases hi : i < ρ.length
      · rw [List.getElem?_set_self hi] at q
        cases q
        exact ⟨v, List.getElem?_set_self (by rw [S.len]; exact hi), r⟩
      · rw [List.getElem?_eq_none (by simpa using hi)] at q; cases q
    · rw [List.getElem?_set_ne hj] at q ⊢; exact S.val j d' q
  · by_cases hj : i = j
    · subst hj
      by_cases hi : i < ρ.length
      · rw [List.getElem?_set_self hi] at q; cases q
      · rw [List.getElem?_eq_none (by simpa using hi)] at q; cases q
    · rw [List.getElem?_set_ne hj] at q ⊢; exact S.own j b zs q
  · have n : ∀ (j : Nat) (zs : List D), (ρ.set i (some (.val d)))[j]? = some (some (.own b zs)) → ρ[j]? = some (some (.own b zs)) := fun j zs q => by
      by_cases hj : i = j
      · subst hj
        by_cases hi : i < ρ.length
        · rw [List.getElem?_set_self hi] at q; cases q
        · rw [List.getElem?_eq_none (by simpa using hi)] at q; cases q
      · rw [List.getElem?_set_ne hj] at q; exact q
    exact S.ne _ _ _ _ _ (n _ _ q1) (n _ _ q2)
def NotOwn (ρ : Ro) (a : Addr) : Prop := (∀ (i : Nat) (xs : List D), ρ[i]? ≠ some (some (.own a xs))) ∧ ¬ InBox ρ a
theorem Sim.notOwn (S : Sim K G F H σ ρ) {a : Addr} (h : H a = none) : NotOwn ρ a := ⟨fun i xs q => (by
  obtain ⟨_, _, _, vs, h4, _⟩ := S.own i a xs q
  rw [h] at h4
  cases h4), S.bx.fresh h⟩
theorem Sim.setOwn (S : Sim K G F H σ ρ) (i : Nat) {a : Addr} {vs : List V} {xs : List D} (hH : H a = some (.lst vs)) (hF : F a = none) (hG : G a = none) (hn : NotOwn ρ a) (r : Reps K F vs xs) :
    Sim K G F H (σ.set i (some (.ref a))) (ρ.set i (some (.own a xs))) := by
  have far : ∀ (j : Nat) (c : Cell), i ≠ j → (ρ.set i (some (.own a xs)))[j]? = some (some c) → ρ[j]? = some (some c) := fun j c hj q => by
    rw [List.getElem?_set_ne hj] at q; exact q
  have near : ∀ (c : Cell), (ρ.set i (some (.own a xs)))[i]? = some (some c) → c = .own a xs ∧ i < ρ.length := fun c q => by
    by_cases hi : i < ρ.length
    · rw [List.getElem?_set_self hi] at q; cases q; exact ⟨rfl, hi⟩
    · rw [List.getElem?_eq_none (by simpa using hi)] at q; cases q
  refine ⟨S.hF, S.hG, by simpa using S.len, fun j d' q => ?_, fun j b zs q => ?_, fun j k b zs ws q1 q2 => ?_, S.bx.set i _ (by simp) fun b zs z => by cases z; exact .inr hn.2⟩
  · by_cases hj : i = j
    · subst hj; exact nomatch (near _ q).1
    · obtain ⟨v, h1, h2⟩ := S.val j d' (far _ _ hj q)
      exact ⟨v, by rw [List.getElem?_set_ne hj]; exact h1, h2⟩
  · by_cases hj : i = j
    · subst hj
      obtain ⟨e, hi⟩ := near _ q
      cases e
      exact ⟨List.getElem?_set_self (by rw [S.len]; exact hi), hF, hG, vs, hH, r⟩
    · obtain ⟨h1, h2⟩ := S.own j b zs (far _ _ hj q)
      exact ⟨by rw [List.getElem?_set_ne hj]; exact h1, h2⟩
  · by_cases hj : i = j
    · subst hj
      by_cases hk : i = k
      · exact hk
      · have e := (near _ q1).1
        cases e
        exact absurd (far _ _ hk q2) (hn.1 _ _)
    · by_cases hk : i = k
      · subst hk
        have e := (near _ q2).1
        cases e
        exact absurd (far _ _ hj q1) (hn.1 _ _)
      · exact S.ne _ _ _ _ _ (far _ _ hj q1) (far _ _ hk q2)
theorem Sim.forget (S : Sim K G F H σ ρ) (i : Nat) (x : Option V) : Sim K G F H (σ.set i x) (ρ.set i none) := by
  have far : ∀ (j : Nat) (c : Cell), (ρ.set i none)[j]? = some (some c) → ρ[j]? = some (some c) ∧ i ≠ j := fun j c q => by
    by_cases hj : i = j
    · subst hj
      by_cases hi : i < ρ.length
      · rw [List.getElem?_set_self hi] at q; cases q
      · rw [List.getElem?_eq_none (by simpa using hi)] at q; cases q
    · rw [List.getElem?_set_ne hj] at q; exact ⟨q, hj⟩
  refine ⟨S.hF, S.hG, by simpa using S.len, fun j d' q => ?_, fun j b zs q => ?_, fun j k b zs ws q1 q2 => S.ne _ _ _ _ _ (far _ _ q1).1 (far _ _ q2).1, S.bx.set i x (by simp) (by simp)⟩
  · obtain ⟨q1, hj⟩ := far _ _ q
    rw [List.getElem?_set_ne hj]
    exact S.val j d' q1
  · obtain ⟨q1, hj⟩ := far _ _ q
    rw [List.getElem?_set_ne hj]
    exact S.own j b zs q1
theorem Sim.forget' (S : Sim K G F H σ ρ) (i : Nat) : Sim K G F H σ (ρ.set i none) := by
  have far : ∀ (j : Nat) (c : Cell), (ρ.set i none)[j]? = some (some c) → ρ[j]? = some (some c) := fun j c q => by
    by_cases hj : i = j
    · subst hj
      by_cases hi : i < ρ.length
      · rw [List.getElem?_set_self hi] at q; cases q
      · rw [List.getElem?_eq_none (by simpa using hi)] at q; cases q
    · rw [List.getElem?_set_ne hj] at q; exact q
  exact ⟨S.hF, S.hG, by simpa using S.len, fun j d' q => S.val j d' (far _ _ q), fun j b zs q => S.own j b zs (far _ _ q), fun j k b zs ws q1 q2 => S.ne _ _ _ _ _ (far _ _ q1) (far _ _ q2), S.bx.set' i (by simp) (by simp)⟩
theorem Sim.freeze (S : Sim K G F H σ ρ) {i : Nat} {a : Addr} {xs : List D} (e : ρ[i]? = some (some (.own a xs))) :
    ∃ F', Up G F F' ∧ Rep K F' (.ref a) (.lst xs) ∧ Sim K G F' H σ (ρ.set i (some (.val (.lst xs)))) := by
  obtain ⟨h1, h2, h3, vs, h4, h5⟩ := S.own i a xs e
  have hi : i < ρ.length := by
    rcases Nat.lt_or_ge i ρ.length with h | h
    · exact h
    · rw [List.getElem?_eq_none h] at e; cases e
  have sm : Same F (upd F a (.lst vs)) := same_new h2
  have rp : Rep K (upd F a (.lst vs)) (.ref a) (.lst xs) := .lst upd_same (h5.mono sm)
  refine ⟨upd F a (.lst vs), Up.new h2 h3, rp, fun b x q => ?_, S.hG.froz fun b x q => ?_, by simpa using S.len, fun j d q => ?_, fun j b zs q => ?_, fun j k b zs ws q1 q2 => ?_, S.bx.to sm (fun q m => ⟨by rw [upd_ne (S.bx.apart m e)]; exact (S.bx.free m).1, (S.bx.free m).2.1, rfl⟩) (fun j s q => ⟨(set_box (by simp) q).1, rfl⟩) fun j b zs q => (set_own q).elim (fun z => by cases z) fun q => .inl ⟨j, zs, q⟩⟩
  · by_cases n : b = a
    · subst n; rw [upd_same] at q; cases q; exact h4
    · rw [upd_ne n] at q; exact S.hF b x q
  · by_cases n : b = a
    · subst n; exact .inr ⟨vs, h4⟩
    · rw [upd_ne n] at q; exact .inl q
  · by_cases hj : i = j
    · subst hj
      rw [List.getElem?_set_self hi] at q
      cases q
      exact ⟨_, h1, rp⟩
    · rw [List.getElem?_set_ne hj] at q
      obtain ⟨v, g1, g2⟩ := S.val j d q
      exact ⟨v, g1, g2.mono sm⟩
  · by_cases hj : i = j
    · subst hj
      rw [List.getElem?_set_self hi] at q; cases q
    · rw [List.getElem?_set_ne hj] at q
      obtain ⟨g1, g2, g3, us, g4, g5⟩ := S.own j b zs q
      have n : b ≠ a := fun z => by subst z; exact hj (S.ne _ _ _ _ _ e q)
      exact ⟨g1, by rw [upd_ne n]; exact g2, g3, us, g4, g5.mono sm⟩
  · have n : ∀ (j : Nat) (zs : List D), (ρ.set i (some (.val (.lst xs))))[j]? = some (some (.own b zs)) → ρ[j]? = some (some (.own b zs)) := fun j zs q => by
      by_cases hj : i = j
      · subst hj; rw [List.getElem?_set_self hi] at q; cases q
      · rw [List.getElem?_set_ne hj] at q; exact q
    exact S.ne _ _ _ _ _ (n _ _ q1) (n _ _ q2)
end
end Pl
namespace Pl
open PySem PySem.Spec PyProof.Rows L2
variable [TJ]
abbrev TEp := Ro → (D → Ro → Prop) → Prop
abbrev TCp := Ro → (Cell → Ro → Prop) → Prop
abbrev TTp := Ro → (Bool → Ro → Prop) → Prop
abbrev TAp := Ro → (List D → Ro → Prop) → Prop
def SndE (K : PySem.W.Frag) (t : TE) (T : TEp) : Prop := ∀ (G F H : Hp) (σ : L2.St) (ρ : Ro) (Q : D → Ro → Prop) (R : VK), Sim K G F H σ ρ → T ρ Q →
  (∀ v d F' H' ρ', Up G F F' → Sim K G F' H' σ ρ' → Rep K F' v d → Q d ρ' → R v H') → t σ H R
def SndT (K : PySem.W.Frag) (t : TT) (T : TTp) : Prop := ∀ (G F H : Hp) (σ : L2.St) (ρ : Ro) (Q : Bool → Ro → Prop) (R : Bool → Hp → Prop), Sim K G F H σ ρ → T ρ Q →
  (∀ b F' H' ρ', Up G F F' → Sim K G F' H' σ ρ' → Q b ρ' → R b H') → t σ H R
def SndA (K : PySem.W.Frag) (t : TA) (T : TAp) : Prop := ∀ (G F H : Hp) (σ : L2.St) (ρ : Ro) (Q : List D → Ro → Prop) (R : List V → Hp → Prop), Sim K G F H σ ρ → T ρ Q →
  (∀ vs ds F' H' ρ', Up G F F' → Sim K G F' H' σ ρ' → Reps K F' vs ds → Q ds ρ' → R vs H') → t σ H R
def SndC (K : PySem.W.Frag) (t : TE) (T : TCp) : Prop := ∀ (G F H : Hp) (σ : L2.St) (ρ : Ro) (Q : Cell → Ro → Prop) (R : VK), Sim K G F H σ ρ → T ρ Q →
  (∀ v c F' H' ρ', Up G F F' → Sim K G F' H' (σ ++ [some v]) (ρ' ++ [some c]) → Q c ρ' → R v H') → t σ H R
structure PPE (X : Cx) (e : Expr) (t : TE) (T : TEp) : Prop where
  pe : PE X e t
  snd : SndE X.K t T
structure PPC (X : Cx) (e : Expr) (t : TE) (T : TCp) : Prop where
  pe : PE X e t
  snd : SndC X.K t T
structure PPT (X : Cx) (e : Expr) (t : TT) (T : TTp) : Prop where
  pt : PT X e t
  snd : SndT X.K t T
structure PPW (X : Cx) (e : Expr) (t : TT) (T : TTp) : Prop where
  pw : PW X e t
  snd : SndT X.K t T
structure PPA (X : Cx) (es : List Expr) (t : TA) (T : TAp) : Prop where
  pa : PA X es t
  snd : SndA X.K t T
inductive Res (K : PySem.W.Frag) (F H : Hp) (v : V) (d : D) : Hp → Hp → Prop
  | old : Rep K F v d → Res K F H v d F H
  | new {p : Addr} {o : HO} : H p = none → Rep K (upd F p o) v d → Res K F H v d (upd F p o) (upd H p o)
section
variable {K : PySem.W.Frag} {G F H F' H' : Hp} {σ : L2.St} {ρ : Ro} {v : V} {d : D}
theorem Sim.res (S : Sim K G F H σ ρ) (r : Res K F H v d F' H') : Up G F F' ∧ Sim K G F' H' σ ρ ∧ Rep K F' v d := by
  cases r with
  | old r => exact ⟨.refl _ _, S, r⟩
  | new h r => exact ⟨S.upNew h, S.new h, r⟩
theorem cut_last {ρ : Ro} {c : Cell} {i : Nat} {x : Cell} (h : (ρ ++ [some c])[i]? = some (some x)) : (ρ[i]? = some (some x) ∧ i < ρ.length) ∨ (i = ρ.length ∧ x = c) := by
  rcases Nat.lt_or_ge i ρ.length with q | q
  · rw [List.getElem?_append_left q] at h; exact .inl ⟨h, q⟩
  · rw [List.getElem?_append_right q] at h
    rcases Nat.eq_zero_or_pos (i - ρ.length) with z | z
    · rw [z] at h; simp at h; exact .inr ⟨by omega, h.symm⟩
    · rw [List.getElem?_eq_none (by simp; omega)] at h; cases h
theorem at_lt {ρ : Ro} {i : Nat} {c : Cell} (h : ρ[i]? = some (some c)) : i < ρ.length := by
  rcases Nat.lt_or_ge i ρ.length with q | q
  · exact q
  · rw [List.getElem?_eq_none q] at h; cases h
theorem at_more {ρ : Ro} {i : Nat} {x c : Cell} (h : ρ[i]? = some (some x)) : (ρ ++ [some c])[i]? = some (some x) := by rw [List.getElem?_append_left (at_lt h)]; exact h
theorem BxOk.push {G F H : Hp} {σ : L2.St} {ρ : Ro} {c : Cell} (B : BxOk K F G H σ ρ) (hl : σ.length = ρ.length) (v : Option V) (hc : ∀ t, c ≠ .box t) (ho : ∀ a xs, c = .own a xs → ¬ InBox ρ a) : BxOk K F G H (σ ++ [v]) (ρ ++ [some c]) :=
  B.to (.refl _) (fun p m => ⟨(B.free m).1, (B.free m).2.1, rfl⟩) (fun i s h => by
    rcases cut_last h with ⟨h, q⟩ | ⟨_, e⟩
    · exact ⟨h, by rw [List.getElem?_append_left (by rw [hl]; exact q)]⟩
    · exact absurd e.symm (hc s)) fun j a xs h => by
    rcases cut_last h with ⟨h, q⟩ | ⟨_, e⟩
    · exact .inl ⟨j, xs, h⟩
    · exact .inr (ho a xs e.symm)
theorem BxOk.drop {G F H : Hp} {σ : L2.St} {ρ : Ro} {c : Cell} {v : Option V} (B : BxOk K F G H (σ ++ [v]) (ρ ++ [some c])) (hl : σ.length = ρ.length) : BxOk K F G H σ ρ :=
  B.to (.refl _) (fun p m => ⟨(B.free m).1, (B.free m).2.1, rfl⟩) (fun i s h => ⟨at_more h, by rw [List.getElem?_append_left (by rw [hl]; exact at_lt h)]⟩) fun j a xs h => .inl ⟨j, xs, at_more h⟩
theorem Sim.drop {c : Cell} (S : Sim K G F H (σ ++ [some v]) (ρ ++ [some c])) : Sim K G F H σ ρ := by
  have hl : σ.length = ρ.length := by have := S.len; simpa using this
  have ix : ∀ {i : Nat} {c : Cell}, ρ[i]? = some (some c) → i < ρ.length := fun {i c} h => by
    rcases Nat.lt_or_ge i ρ.length with q | q
    · exact q
    · rw [List.getElem?_eq_none q] at h; cases h
  have up : ∀ {i : Nat} {x : Cell}, ρ[i]? = some (some x) → (ρ ++ [some c])[i]? = some (some x) := fun {i x} h => by
    rw [List.getElem?_append_left (ix h)]; exact h
  refine ⟨S.hF, S.hG, hl, fun i d h => ?_, fun i a xs h => ?_, fun i j a xs ys h1 h2 => S.ne i j a xs ys (up h1) (up h2), S.bx.drop hl⟩
  · obtain ⟨v, h1, h2⟩ := S.val i d (up h)
    rw [List.getElem?_append_left (by rw [hl]; exact ix h)] at h1
    exact ⟨v, h1, h2⟩
  · obtain ⟨h1, h2⟩ := S.own i a xs (up h)
    rw [List.getElem?_append_left (by rw [hl]; exact ix h)] at h1
    exact ⟨h1, h2⟩
theorem Sim.lastVal (S : Sim K G F H (σ ++ [some v]) (ρ ++ [some (.val d)])) : Rep K F v d := by
  have hl : σ.length = ρ.length := by have := S.len; simpa using this
  obtain ⟨u, h1, h2⟩ := S.val ρ.length d (by simp)
  rw [← hl] at h1
  simp at h1
  subst h1
  exact h2
theorem Sim.lastOwn {a : Addr} {xs : List D} (S : Sim K G F H (σ ++ [some v]) (ρ ++ [some (.own a xs)])) : v = .ref a ∧ F a = none ∧ G a = none ∧ NotOwn ρ a ∧ ∃ vs, H a = some (.lst vs) ∧ Reps K F vs xs := by
  have hl : σ.length = ρ.length := by have := S.len; simpa using this
  obtain ⟨h1, h2, h3, h4⟩ := S.own ρ.length a xs (by simp)
  rw [← hl] at h1
  simp at h1
  refine ⟨h1, h2, h3, ⟨fun i ys h => ?_, fun ⟨i, s, m1, m2⟩ => S.bx.bo ρ.length a xs (by simp) ⟨i, s, at_more m1, m2⟩⟩, h4⟩
  have hi : i < ρ.length := by
    rcases Nat.lt_or_ge i ρ.length with q | q
    · exact q
    · rw [List.getElem?_eq_none q] at h; cases h
  have := S.ne i ρ.length a ys xs (by rw [List.getElem?_append_left hi]; exact h) (by simp)
  omega
theorem Sim.pushVal (S : Sim K G F H σ ρ) (r : Rep K F v d) : Sim K G F H (σ ++ [some v]) (ρ ++ [some (.val d)]) := by
  have cut : ∀ {i : Nat} {x : Cell}, (ρ ++ [some (.val d)])[i]? = some (some x) → (ρ[i]? = some (some x) ∧ i < ρ.length) ∨ (i = ρ.length ∧ x = .val d) := fun {i x} h => by
    rcases Nat.lt_or_ge i ρ.length with q | q
    · rw [List.getElem?_append_left q] at h; exact .inl ⟨h, q⟩
    · rw [List.getElem?_append_right q] at h
      rcases Nat.eq_zero_or_pos (i - ρ.length) with z | z
      · rw [z] at h; simp at h; exact .inr ⟨by omega, h.symm⟩
      · rw [List.getElem?_eq_none (by simp; omega)] at h; cases h
  refine ⟨S.hF, S.hG, by simp [S.len], fun i d' h => ?_, fun i a xs h => ?_, fun i j a xs ys h1 h2 => ?_, S.bx.push S.len _ (by simp) (by simp)⟩
  · rcases cut h with ⟨h, q⟩ | ⟨rfl, e⟩
    · obtain ⟨u, g1, g2⟩ := S.val i d' h
      exact ⟨u, by rw [List.getElem?_append_left (by rw [S.len]; exact q)]; exact g1, g2⟩
    · cases e
      exact ⟨v, by rw [← S.len]; simp, r⟩
  · rcases cut h with ⟨h, q⟩ | ⟨_, e⟩
    · obtain ⟨g1, g2⟩ := S.own i a xs h
      exact ⟨by rw [List.getElem?_append_left (by rw [S.len]; exact q)]; exact g1, g2⟩
    · cases e
  · rcases cut h1 with ⟨h1, _⟩ | ⟨_, e⟩
    · rcases cut h2 with ⟨h2, _⟩ | ⟨_, e⟩
      · exact S.ne i j a xs ys h1 h2
      · cases e
    · cases e
theorem Sim.pushOwn (S : Sim K G F H σ ρ) {a : Addr} {vs : List V} {xs : List D} (hH : H a = some (.lst vs)) (hF : F a = none) (hG : G a = none) (hn : NotOwn ρ a) (r : Reps K F vs xs) :
    Sim K G F H (σ ++ [some (.ref a)]) (ρ ++ [some (.own a xs)]) := by
  have cut : ∀ {i : Nat} {x : Cell}, (ρ ++ [some (.own a xs)])[i]? = some (some x) → (ρ[i]? = some (some x) ∧ i < ρ.length) ∨ (i = ρ.length ∧ x = .own a xs) := fun {i x} h => by
    rcases Nat.lt_or_ge i ρ.length with q | q
    · rw [List.getElem?_append_left q] at h; exact .inl ⟨h, q⟩
    · rw [List.getElem?_append_right q] at h
      rcases Nat.eq_zero_or_pos (i - ρ.length) with z | z
      · rw [z] at h; simp at h; exact .inr ⟨by omega, h.symm⟩
      · rw [List.getElem?_eq_none (by simp; omega)] at h; cases h
  refine ⟨S.hF, S.hG, by simp [S.len], fun i d' h => ?_, fun i b ys h => ?_, fun i j b ys zs h1 h2 => ?_, S.bx.push S.len _ (by simp) fun b ys e => by cases e; exact hn.2⟩
  · rcases cut h with ⟨h, q⟩ | ⟨_, e⟩
    · obtain ⟨u, g1, g2⟩ := S.val i d' h
      exact ⟨u, by rw [List.getElem?_append_left (by rw [S.len]; exact q)]; exact g1, g2⟩
    · cases e
  · rcases cut h with ⟨h, q⟩ | ⟨rfl, e⟩
    · obtain ⟨g1, g2⟩ := S.own i b ys h
      exact ⟨by rw [List.getElem?_append_left (by rw [S.len]; exact q)]; exact g1, g2⟩
    · cases e
      exact ⟨by rw [← S.len]; simp, hF, hG, vs, hH, r⟩
  · rcases cut h1 with ⟨h1, _⟩ | ⟨e1, e⟩
    · rcases cut h2 with ⟨h2, _⟩ | ⟨_, e⟩
      · exact S.ne i j b ys zs h1 h2
      · cases e
        exact absurd h1 (hn.1 _ _)
    · cases e
      rcases cut h2 with ⟨h2, _⟩ | ⟨e2, _⟩
      · exact absurd h2 (hn.1 _ _)
      · omega
theorem Sim.lastBox {s : Sh} (S : Sim K G F H (σ ++ [some v]) (ρ ++ [some (.box s)])) : v = .ref s.root ∧ (∀ p ∈ s.foot, F p = none ∧ G p = none) ∧ s.At K F H ∧ ∀ p ∈ s.foot, NotOwn ρ p := by
  have hl : σ.length = ρ.length := by have := S.len; simpa using this
  obtain ⟨h1, h2, h3⟩ := S.bx.box ρ.length s (by simp)
  rw [← hl] at h1
  simp at h1
  refine ⟨h1, h2, h3, fun p m => ⟨fun i ys h => ?_, fun ⟨i, t, m1, m2⟩ => ?_⟩⟩
  · exact S.bx.bo i p ys (at_more h) ⟨ρ.length, s, by simp, m⟩
  · have := S.bx.bb i ρ.length t s p (at_more m1) (by simp) m2 m
    have := at_lt m1
    omega
theorem Sim.pushBox (S : Sim K G F H σ ρ) {s : Sh} (hf : ∀ p ∈ s.foot, F p = none ∧ G p = none) (ha : s.At K F H) (hn : ∀ p ∈ s.foot, NotOwn ρ p) : Sim K G F H (σ ++ [some (.ref s.root)]) (ρ ++ [some (.box s)]) := by
  refine ⟨S.hF, S.hG, by simp [S.len], fun i d' h => ?_, fun i b ys h => ?_, fun i j b ys zs h1 h2 => ?_, fun i t h => ?_, fun i j t u p h1 h2 m1 m2 => ?_, fun j a xs h ⟨i, t, h1, m⟩ => ?_⟩
  · rcases cut_last h with ⟨h, q⟩ | ⟨_, e⟩
    · obtain ⟨u, g1, g2⟩ := S.val i d' h
      exact ⟨u, by rw [List.getElem?_append_left (by rw [S.len]; exact q)]; exact g1, g2⟩
    · cases e
  · rcases cut_last h with ⟨h, q⟩ | ⟨_, e⟩
    · obtain ⟨g1, g2⟩ := S.own i b ys h
      exact ⟨by rw [List.getElem?_append_left (by rw [S.len]; exact q)]; exact g1, g2⟩
    · cases e
  · rcases cut_last h1 with ⟨h1, _⟩ | ⟨_, e⟩
    · rcases cut_last h2 with ⟨h2, _⟩ | ⟨_, e⟩
      · exact S.ne i j b ys zs h1 h2
      · cases e
    · cases e
  · rcases cut_last h with ⟨h, q⟩ | ⟨rfl, e⟩
    · obtain ⟨g1, g2⟩ := S.bx.box i t h
      exact ⟨by rw [List.getElem?_append_left (by rw [S.len]; exact q)]; exact g1, g2⟩
    · cases e
      exact ⟨by rw [← S.len]; simp, hf, ha⟩
  · rcases cut_last h1 with ⟨h1, _⟩ | ⟨e1, e⟩
    · rcases cut_last h2 with ⟨h2, _⟩ | ⟨_, e⟩
      · exact S.bx.bb i j t u p h1 h2 m1 m2
      · cases e
        exact absurd ⟨i, t, h1, m1⟩ (hn p m2).2
    · cases e
      rcases cut_last h2 with ⟨h2, _⟩ | ⟨e2, _⟩
      · exact absurd ⟨j, u, h2, m2⟩ (hn p m1).2
      · omega
  · rcases cut_last h with ⟨h, _⟩ | ⟨_, e⟩
    · rcases cut_last h1 with ⟨h1, _⟩ | ⟨_, e⟩
      · exact S.bx.bo j a xs h ⟨i, t, h1, m⟩
      · cases e
        exact (hn a m).1 j xs h
    · cases e
theorem Sim.setBox (S : Sim K G F H σ ρ) (i : Nat) {s : Sh} (hf : ∀ p ∈ s.foot, F p = none ∧ G p = none) (ha : s.At K F H) (hn : ∀ p ∈ s.foot, NotOwn ρ p) : Sim K G F H (σ.set i (some (.ref s.root))) (ρ.set i (some (.box s))) := by
  have far : ∀ (j : Nat) (c : Cell), i ≠ j → (ρ.set i (some (.box s)))[j]? = some (some c) → ρ[j]? = some (some c) := fun j c hj q => by
    rw [List.getElem?_set_ne hj] at q; exact q
  have near : ∀ (c : Cell), (ρ.set i (some (.box s)))[i]? = some (some c) → c = .box s ∧ i < ρ.length := fun c q => by
    by_cases hi : i < ρ.length
    · rw [List.getElem?_set_self hi] at q; cases q; exact ⟨rfl, hi⟩
    · rw [List.getElem?_eq_none (by simpa using hi)] at q; cases q
  have cut : ∀ {j : Nat} {x : Cell}, (ρ.set i (some (.box s)))[j]? = some (some x) → (ρ[j]? = some (some x) ∧ i ≠ j) ∨ (j = i ∧ x = .box s ∧ i < ρ.length) := fun {j x} h => by
    by_cases hj : i = j
    · subst hj; exact .inr ⟨rfl, near _ h⟩
    · exact .inl ⟨far _ _ hj h, hj⟩
  refine ⟨S.hF, S.hG, by simpa using S.len, fun j d' h => ?_, fun j b ys h => ?_, fun j k b ys zs h1 h2 => ?_, fun j t h => ?_, fun j k t u p h1 h2 m1 m2 => ?_, fun j a xs h ⟨k, t, h1, m⟩ => ?_⟩
  · rcases cut h with ⟨h, q⟩ | ⟨_, e, _⟩
    · obtain ⟨u, g1, g2⟩ := S.val j d' h
      exact ⟨u, by rw [List.getElem?_set_ne q]; exact g1, g2⟩
    · cases e
  · rcases cut h with ⟨h, q⟩ | ⟨_, e, _⟩
    · obtain ⟨g1, g2⟩ := S.own j b ys h
      exact ⟨by rw [List.getElem?_set_ne q]; exact g1, g2⟩
    · cases e
  · rcases cut h1 with ⟨h1, _⟩ | ⟨_, e, _⟩
    · rcases cut h2 with ⟨h2, _⟩ | ⟨_, e, _⟩
      · exact S.ne j k b ys zs h1 h2
      · cases e
    · cases e
  · rcases cut h with ⟨h, q⟩ | ⟨rfl, e, hi⟩
    · obtain ⟨g1, g2⟩ := S.bx.box j t h
      exact ⟨by rw [List.getElem?_set_ne q]; exact g1, g2⟩
    · cases e
      exact ⟨List.getElem?_set_self (by rw [S.len]; exact hi), hf, ha⟩
  · rcases cut h1 with ⟨h1, _⟩ | ⟨e1, e, _⟩
    · rcases cut h2 with ⟨h2, _⟩ | ⟨_, e, _⟩
      · exact S.bx.bb j k t u p h1 h2 m1 m2
      · cases e
        exact absurd ⟨j, t, h1, m1⟩ (hn p m2).2
    · cases e
      rcases cut h2 with ⟨h2, _⟩ | ⟨e2, _⟩
      · exact absurd ⟨k, u, h2, m2⟩ (hn p m1).2
      · omega
  · rcases cut h with ⟨h, _⟩ | ⟨_, e, _⟩
    · rcases cut h1 with ⟨h1, _⟩ | ⟨_, e, _⟩
      · exact S.bx.bo j a xs h ⟨k, t, h1, m⟩
      · cases e
        exact (hn a m).1 j xs h
    · cases e
theorem Sim.store {c : Cell} (S : Sim K G F H (σ ++ [some v]) (ρ ++ [some c])) (i : Nat) : Sim K G F H (σ.set i (some v)) (ρ.set i (some c)) := by
  cases c with
  | val d => exact S.drop.setVal i S.lastVal
  | own a xs =>
    obtain ⟨rfl, h2, h3, h4, vs, h5, h6⟩ := S.lastOwn
    exact S.drop.setOwn i h5 h2 h3 h4 h6
  | box s =>
    obtain ⟨rfl, h2, h3, h4⟩ := S.lastBox
    exact S.drop.setBox i h2 h3 h4
def Cell.froz : Cell → D
  | .val d => d
  | .own _ xs => .lst xs
  | .box s => .adr s.root
theorem Sim.froz {c : Cell} (S : Sim K G F H (σ ++ [some v]) (ρ ++ [some c])) : ∃ F', Up G F F' ∧ Sim K G F' H σ ρ ∧ Rep K F' v c.froz := by
  cases c with
  | val d => exact ⟨F, .refl _ _, S.drop, S.lastVal⟩
  | own a xs =>
    obtain ⟨rfl, _⟩ := S.lastOwn
    obtain ⟨F', u, r, S'⟩ := S.freeze (i := ρ.length) (a := a) (xs := xs) (by simp)
    refine ⟨F', u, ?_, r⟩
    rw [List.set_append_right _ _ (Nat.le_refl _)] at S'
    simp at S'
    exact S'.drop
  | box s =>
    obtain ⟨rfl, _⟩ := S.lastBox
    exact ⟨F, .refl _ _, S.drop, .adr _⟩
end
section
variable {X : Cx}
def pFrz (T : TCp) : TEp := fun ρ Q => T ρ fun c ρ' => Q c.froz ρ'
def pVal (T : TEp) : TCp := fun ρ Q => T ρ fun d ρ' => Q (.val d) ρ'
theorem ppe_frz {e : Expr} {t : TE} {T : TCp} (h : PPC X e t T) : PPE X e t (pFrz T) := ⟨h.pe, fun G F H σ ρ Q R S hT k => h.snd G F H σ ρ _ R S hT fun v c F' H' ρ' u S' q => by
  obtain ⟨F2, u2, S2, r2⟩ := S'.froz
  exact k v _ F2 H' ρ' (u.trans u2) S2 r2 q⟩
theorem ppc_val {e : Expr} {t : TE} {T : TEp} (h : PPE X e t T) : PPC X e t (pVal T) := ⟨h.pe, fun G F H σ ρ Q R S hT k => h.snd G F H σ ρ _ R S hT fun v d F' H' ρ' u S' r q => k v _ F' H' ρ' u (S'.pushVal r) q⟩
def pVar (i : Nat) : TEp := fun ρ Q => match ρ[i]? with
  | some (some (.val d)) => Q d ρ
  | some (some (.own _ xs)) => Q (.lst xs) (ρ.set i (some (.val (.lst xs))))
  | _ => False
theorem ppe_var (i : Nat) {x : Str} {pos : Pos} (hN : X.N[i]? = some x := by rfl) (hv : Vis X.env.scope x := by first | exact Or.inl rfl | exact Or.inr (Or.inl rfl) | exact Or.inr (Or.inr rfl)) (hd : (x == ("__debug__" : Str)) = false := by decide)
    (hcd : (x == ("__classdict__" : Str)) = false := by decide) : PPE X (.Name x pos) (tVar i) (pVar i) := ⟨pe_var hN hv hd hcd, fun G F H σ ρ Q R S hT k => by
  unfold pVar at hT
  split at hT
  · rename_i d e
    obtain ⟨v, h1, h2⟩ := S.val i d e
    exact ⟨v, h1, k v d F H ρ (.refl _ _) S h2 hT⟩
  · rename_i a xs e
    obtain ⟨F', u, r, S'⟩ := S.freeze e
    exact ⟨.ref a, (S.own i a xs e).1, k _ _ F' H _ u S' r hT⟩
  · exact hT.elim⟩
def pMove (i : Nat) : TCp := fun ρ Q => match ρ[i]? with
  | some (some (.val d)) => Q (.val d) ρ
  | some (some (.own a xs)) => Q (.own a xs) (ρ.set i none)
  | some (some (.box s)) => Q (.box s) (ρ.set i none)
  | _ => False
theorem ppc_move (i : Nat) {x : Str} {pos : Pos} (hN : X.N[i]? = some x := by rfl) (hv : Vis X.env.scope x := by first | exact Or.inl rfl | exact Or.inr (Or.inl rfl) | exact Or.inr (Or.inr rfl)) (hd : (x == ("__debug__" : Str)) = false := by decide)
    (hcd : (x == ("__classdict__" : Str)) = false := by decide) : PPC X (.Name x pos) (tVar i) (pMove i) := ⟨pe_var hN hv hd hcd, fun G F H σ ρ Q R S hT k => by
  unfold pMove at hT
  split at hT
  · rename_i d e
    obtain ⟨v, h1, h2⟩ := S.val i d e
    exact ⟨v, h1, k v _ F H ρ (.refl _ _) (S.pushVal h2) hT⟩
  · rename_i a xs e
    obtain ⟨h1, h2, h3, vs, h4, h5⟩ := S.own i a xs e
    refine ⟨.ref a, h1, k _ _ F H _ (.refl _ _) ((S.forget' i).pushOwn h4 h2 h3 ⟨fun j ys q => ?_, fun ⟨j, s, m1, m2⟩ => S.bx.bo i a xs e ⟨j, s, (set_box (by simp) m1).1, m2⟩⟩ h5) hT⟩
    by_cases hj : i = j
    · subst hj
      by_cases hi : i < ρ.length
      · rw [List.getElem?_set_self hi] at q; cases q
      · rw [List.getElem?_eq_none (by simpa using hi)] at q; cases q
    · rw [List.getElem?_set_ne hj] at q
      exact hj (S.ne _ _ _ _ _ e q)
  · rename_i s e
    obtain ⟨h1, h2, h3⟩ := S.bx.box i s e
    refine ⟨.ref s.root, h1, k _ _ F H _ (.refl _ _) ((S.forget' i).pushBox h2 h3 fun p m => ⟨fun j ys q => ?_, fun ⟨j, t, m1, m2⟩ => ?_⟩) hT⟩
    · exact S.bx.bo j p ys ((set_own q).elim (fun z => by cases z) id) ⟨i, s, e, m⟩
    · obtain ⟨q1, q2⟩ := set_box (by simp) m1
      exact q2 (S.bx.bb i j s t p e q1 m m2)
  · exact hT.elim⟩
def pC (d : D) : TEp := fun ρ Q => Q d ρ
theorem snd_c {K : PySem.W.Frag} {v : V} {d : D} (h : ∀ F, Rep K F v d) : SndE K (tC v) (pC d) := fun G F H σ ρ Q R S hT k => k v d F H ρ (.refl _ _) S (h F) hT
theorem ppe_int {i j pos} : PPE X (.Constant (.int i) j pos) (tC (.int i)) (pC (.int i)) := ⟨pe_int, snd_c fun _ => .int i⟩
theorem ppe_bl {b j pos} : PPE X (.Constant (.bool b) j pos) (tC (.bl b)) (pC (.bl b)) := ⟨pe_bl, snd_c fun _ => .bl b⟩
theorem ppe_non {j pos} : PPE X (.Constant .none j pos) (tC .non) (pC .non) := ⟨pe_non, snd_c fun _ => .non⟩
theorem ppe_str {x j pos} : PPE X (.Constant (.str x) j pos) (tC (.str x)) (pC (.str x)) := ⟨pe_str, snd_c fun _ => .str x⟩
abbrev F2 := D → D → (D → Prop) → Prop
abbrev F1 := D → (D → Prop) → Prop
def OpP (K : PySem.W.Frag) (r : R2) (f : F2) : Prop := ∀ (F H : Hp) (x y : V) (dx dy : D) (Q : D → Prop) (R : VK), Same F H → Rep K F x dx → Rep K F y dy → f dx dy Q →
  (∀ v d F' H', Res K F H v d F' H' → Q d → R v H') → r x y H R
def CallP (K : PySem.W.Frag) (r : List V → Hp → VK → Prop) (f : List D → (D → Prop) → Prop) : Prop := ∀ (F H : Hp) (xs : List V) (ds : List D) (Q : D → Prop) (R : VK), Same F H → Reps K F xs ds → f ds Q →
  (∀ v d F' H', Res K F H v d F' H' → Q d → R v H') → r xs H R
def pOp (f : F2) (Ta Tb : TEp) : TEp := fun ρ Q => Ta ρ fun x ρ1 => Tb ρ1 fun y ρ2 => f x y fun z => Q z ρ2
theorem snd_op {K : PySem.W.Frag} {r : R2} {f : F2} {ta tb : TE} {Ta Tb : TEp} (hp : OpP K r f) (ha : SndE K ta Ta) (hb : SndE K tb Tb) : SndE K (tOp r ta tb) (pOp f Ta Tb) := fun G F H σ ρ Q R S hT k =>
  ha G F H σ ρ _ _ S hT fun x dx F1 H1 ρ1 u1 S1 r1 h1 => hb G F1 H1 σ ρ1 _ _ S1 h1 fun y dy F2 H2 ρ2 u2 S2 r2 h2 =>
    hp F2 H2 x y dx dy _ _ S2.hF (r1.mono u2.ex) r2 h2 fun v d F3 H3 res q => by
      obtain ⟨u3, S3, r3⟩ := S2.res res
      exact k v d F3 H3 ρ2 ((u1.trans u2).trans u3) S3 r3 q
variable {a b c : Expr} {ta tb tc : TE} {Ta Tb Tc : TEp} {pos : Pos}
theorem ppe_op {op : Operator} {r : R2} {f : F2} (ho : OpR X (binaryOp op) r) (hp : OpP X.K r f) (ha : PPE X a ta Ta) (hb : PPE X b tb Tb) : PPE X (.BinOp a op b pos) (tOp r ta tb) (pOp f Ta Tb) := ⟨pe_op ho ha.pe hb.pe, snd_op hp ha.snd hb.snd⟩
theorem OpP.or {K : PySem.W.Frag} {r r' : R2} {f : F2} (h : ∀ (F H : Hp) (x y : V) (dx dy : D) (Q : D → Prop) (R : VK), Same F H → Rep K F x dx → Rep K F y dy → f dx dy Q →
  (∀ v d F' H', Res K F H v d F' H' → Q d → R v H') → r x y H R ∨ r' x y H R) : OpP K (fun x y H Q => r x y H Q ∨ r' x y H Q) f := h
def fAdd : F2 := fun x y Q => match x, y with
  | .int i, .int j => Q (.int (i + j))
  | .str i, .str j => i.length + j.length ≤ sizeLine ∧ Q (.str (i ++ j))
  | .lst xs, .lst ys => xs.length + ys.length ≤ sizeLine ∧ Q (.lst (xs ++ ys))
  | .tup xs, .tup ys => xs.length + ys.length ≤ sizeLine ∧ Q (.tup (xs ++ ys))
  | _, _ => False
def rAddA (K : PySem.W.Frag) : R2 := fun x y H Q => (rI0 (fun i j => .int (i + j)) x y H Q ∨ (∃ i j, x = .str i ∧ y = .str j ∧ i.length + j.length ≤ sizeLine ∧ Q (.str (i ++ j)) H)) ∨ (rCat x y H Q ∨ rCatA K x y H Q)
theorem opr_add : OpR X (binaryOp .Add) (rAddA X.K) := OpR.or (OpR.or op_add op_add_str) (OpR.or op_cat op_catA)
theorem opp_add : OpP X.K (rAddA X.K) fAdd := fun F H x y dx dy Q R hs rx ry hf k => by
  cases rx with
  | int i =>
    cases ry with
    | int j => exact .inl (.inl ⟨i, j, rfl, rfl, k _ _ _ _ (.old (.int _)) hf⟩)
    | _ => exact hf.elim
  | str i =>
    cases ry with
    | str j => exact .inl (.inr ⟨i, j, rfl, rfl, hf.1, k _ _ _ _ (.old (.str _)) hf.2⟩)
    | _ => exact hf.elim
  | lst h1 r1 =>
    cases ry with
    | lst h2 r2 =>
      refine .inr (.inl ⟨_, _, _, _, rfl, rfl, hs _ _ h1, hs _ _ h2, by rw [r1.length, r2.length]; exact hf.1, fun p hp => ?_⟩)
      have hn : F p = none := hs.free hp
      exact k _ _ _ _ (.new hp (.lst upd_same ((r1.mono (same_new hn)).append (r2.mono (same_new hn))))) hf.2
    | _ => exact hf.elim
  | @tup _ vs xs h1 r1 =>
    cases ry with
    | @tup _ ws ys h2 r2 =>
      refine .inr (.inr ⟨_, _, _, _, rfl, rfl, SqT.of (hs _ _ h1), SqT.of (hs _ _ h2), by rw [r1.length, r2.length]; exact hf.1, fun e => ?_, fun e e2 => ?_, fun e e2 p hp => ?_⟩)
      · have := r1.length; subst e; cases r1; exact k _ _ _ _ (.old (.tup h2 r2)) hf.2
      · subst e2; cases r2; refine k _ _ _ _ (.old (.tup h1 r1)) ?_; have := hf.2; simpa using this
      · have hn : F p = none := hs.free hp
        exact k _ _ _ _ (.new hp (.tup upd_same ((r1.mono (same_new hn)).append (r2.mono (same_new hn))))) hf.2
    | _ => exact hf.elim
  | non => exact hf.elim
  | bl _ => exact hf.elim
  | scr _ => exact hf.elim
  | adr _ => exact hf.elim
  | exc _ _ _ _ => exact hf.elim
def f2I (C : Int → Int → Prop) (g : Int → Int → D) : F2 := fun x y Q => match x, y with
  | .int i, .int j => C i j ∧ Q (g i j)
  | _, _ => False
def f2I0 (g : Int → Int → D) : F2 := fun x y Q => match x, y with
  | .int i, .int j => Q (g i j)
  | _, _ => False
theorem opp_I {C C' : Int → Int → Prop} {g : Int → Int → V} {g' : Int → Int → D} (hc : ∀ i j, C' i j → C i j) (h : ∀ F i j, Rep X.K F (g i j) (g' i j)) : OpP X.K (rI C g) (f2I C' g') := fun F H x y dx dy Q R hs rx ry hf k => by
  cases rx with
  | int i =>
    cases ry with
    | int j => exact ⟨i, j, rfl, rfl, hc _ _ hf.1, k _ _ _ _ (.old (h F i j)) hf.2⟩
    | _ => exact hf.elim
  | _ => exact hf.elim
theorem opp_I0 {g : Int → Int → V} {g' : Int → Int → D} (h : ∀ F i j, Rep X.K F (g i j) (g' i j)) : OpP X.K (rI0 g) (f2I0 g') := fun F H x y dx dy Q R hs rx ry hf k => by
  cases rx with
  | int i =>
    cases ry with
    | int j => exact ⟨i, j, rfl, rfl, k _ _ _ _ (.old (h F i j)) hf⟩
    | _ => exact hf.elim
  | _ => exact hf.elim
def fSub : F2 := f2I0 fun i j => .int (i - j)
def fMod : F2 := f2I (fun _ j => 0 < j) fun i j => .int (i % j)
def fDiv : F2 := f2I (fun _ j => 0 < j ∧ j < 2 ^ 64) fun i j => .int (i / j)
def fMulI : F2 := f2I CMul fun i j => .int (i * j)
theorem ppe_add (ha : PPE X a ta Ta) (hb : PPE X b tb Tb) : PPE X (.BinOp a .Add b pos) (tOp (rAddA X.K) ta tb) (pOp fAdd Ta Tb) := ppe_op opr_add opp_add ha hb
theorem ppe_sub (ha : PPE X a ta Ta) (hb : PPE X b tb Tb) : PPE X (.BinOp a .Sub b pos) (tOp (rI0 fun i j => .int (i - j)) ta tb) (pOp fSub Ta Tb) := ppe_op op_sub (opp_I0 fun _ _ _ => .int _) ha hb
theorem ppe_mul (ha : PPE X a ta Ta) (hb : PPE X b tb Tb) : PPE X (.BinOp a .Mult b pos) (tOp (rI CMul fun i j => .int (i * j)) ta tb) (pOp fMulI Ta Tb) := ppe_op op_mul (opp_I (fun _ _ h => h) fun _ _ _ => .int _) ha hb
theorem ppe_mod (ha : PPE X a ta Ta) (hb : PPE X b tb Tb) : PPE X (.BinOp a .Mod b pos) (tOp (rI (fun _ j => 0 < j) fun i j => .int (i % j)) ta tb) (pOp fMod Ta Tb) := ppe_op op_mod (opp_I (fun _ _ h => h) fun _ _ _ => .int _) ha hb
theorem ppe_div (ha : PPE X a ta Ta) (hb : PPE X b tb Tb) : PPE X (.BinOp a .FloorDiv b pos) (tOp (rI CDivW fun i j => .int (i / j)) ta tb) (pOp fDiv Ta Tb) :=
  ppe_op op_fdivW (opp_I (fun _ _ h => wide_div (b := 64) h.1 (by have := h.1; have := h.2; omega) (by decide) (by decide)) fun _ _ _ => .int _) ha hb
theorem ppe_powc {i j : Int} {u v pa pb} (n : Int) (h : 0 ≤ j ∧ j ≤ 1000000 ∧ i.natAbs < 2 ^ 64 := by decide) (hn : i ^ j.toNat = n := by decide) : PPE X (.BinOp (.Constant (.int i) u pa) .Pow (.Constant (.int j) v pb) pos) (tOp (rI CPow fun i j => .int (i ^ j.toNat)) (tC (.int i)) (tC (.int j))) (pC (.int n)) :=
  ⟨pe_op op_pow pe_int pe_int, fun G F H σ ρ Q R S hT k => ⟨i, j, rfl, rfl, h, by show R (V.int (i ^ j.toNat)) H; rw [hn]; exact k _ _ F H ρ (.refl _ _) S (.int n) hT⟩⟩
def fRep : F2 := fun x y Q => match x, y with
  | .lst xs, .int k => 0 ≤ k ∧ k ≤ 1000 ∧ xs.length ≤ 1000 ∧ Q (.lst (List.replicate k.toNat xs).flatten)
  | _, _ => False
theorem Reps.rep {K : PySem.W.Frag} {F : Hp} {vs : List V} {ds : List D} (h : Reps K F vs ds) : ∀ n : Nat, Reps K F (List.replicate n vs).flatten (List.replicate n ds).flatten
  | 0 => .nil
  | n + 1 => by
    rw [List.replicate_succ, List.replicate_succ, List.flatten_cons, List.flatten_cons]
    exact h.append (Reps.rep h n)
theorem ppe_rep (ha : PPE X a ta Ta) (hb : PPE X b tb Tb) : PPE X (.BinOp a .Mult b pos) (tOp rRep ta tb) (pOp fRep Ta Tb) := ppe_op op_rep (fun F H x y dx dy Q R hs rx ry hf k => by
  cases rx with
  | @lst a vs xs h1 r1 =>
    cases ry with
    | int n =>
      obtain ⟨f1, f2, f3, f4⟩ := hf
      refine ⟨_, _, _, rfl, rfl, hs _ _ h1, by omega, by omega, ?_, fun p hp => ?_⟩
      · have e1 : vs.length ≤ 1000 := by rw [r1.length]; exact f3
        have e2 : n.toNat ≤ 1000 := by omega
        exact Nat.le_trans (Nat.mul_le_mul e1 e2) (by decide)
      · have hn : F p = none := hs.free hp
        exact k _ _ _ _ (.new hp (.lst upd_same ((r1.mono (same_new hn)).rep n.toNat))) f4
    | _ => exact hf.elim
  | _ => exact hf.elim) ha hb
mutual
def toPy : D → PyData
  | .non => .none
  | .bl b => .bool b
  | .int i => .int i
  | .str x => .str x
  | .lst xs => .list (toPys xs)
  | .tup xs => .tuple (toPys xs)
  | .scr ns => .list (ns.map PyData.int)
  | .adr _ => .dict []
  | .exc _ _ => .dict []
def toPys : List D → List PyData
  | [] => []
  | x :: xs => toPy x :: toPys xs
end
theorem dp_ints {K : PySem.W.Frag} {H : Hp} : ∀ ns : List Int, DpAll K H (ns.map V.int) (ns.map PyData.int)
  | [] => .nil
  | n :: ns => .cons (.int n) (dp_ints ns)
mutual
theorem Rep.dp0 {K : PySem.W.Frag} {F H : Hp} (e : Same F H) : ∀ {v : V} {d : D}, Rep K F v d → PyData.canLay0 (toPy d) = true → Dp K H v (toPy d)
  | _, _, .non, _ => by rw [toPy]; exact .non
  | _, _, .bl b, _ => by rw [toPy]; exact .bl b
  | _, _, .int i, _ => by rw [toPy]; exact .int i
  | _, _, .str x, _ => by rw [toPy]; exact .str x
  | _, _, .lst h r, c => by
    rw [toPy] at c ⊢
    rw [PyData.canLay0] at c
    exact .lst (SqL.of (e _ _ h)) (Reps.dp0 e r c)
  | _, _, .tup h r, c => by
    rw [toPy] at c ⊢
    rw [PyData.canLay0] at c
    exact .tup (SqT.of (e _ _ h)) (Reps.dp0 e r c)
  | _, _, .scr h, _ => by rw [toPy]; exact .lst (e.seq h) (dp_ints _)
  | _, _, .adr _, c => by rw [toPy, PyData.canLay0] at c; cases c
  | _, _, .exc _ _ _ _, c => by rw [toPy, PyData.canLay0] at c; cases c
theorem Reps.dp0 {K : PySem.W.Frag} {F H : Hp} (e : Same F H) : ∀ {vs : List V} {ds : List D}, Reps K F vs ds → PyData.canLayAll0 (toPys ds) = true → DpAll K H vs (toPys ds)
  | _, _, .nil, _ => by rw [toPys]; exact .nil
  | _, _, .cons h r, c => by
    rw [toPys] at c ⊢
    rw [PyData.canLayAll0, Bool.and_eq_true] at c
    exact .cons (Rep.dp0 e h c.1) (Reps.dp0 e r c.2)
end
theorem shaped_lay {d : PyData} (h : SeqAt.shaped d = true) : PyData.canLay0 d = true := by
  unfold SeqAt.shaped at h
  rw [Bool.and_eq_true] at h
  exact h.1
theorem Rep.dp {K : PySem.W.Frag} {F H : Hp} (e : Same F H) {v : V} {d : D} (r : Rep K F v d) (h : SeqAt.shaped (toPy d) = true) : Dp K H v (toPy d) := r.dp0 e (shaped_lay h)
def D.eqv (x y : D) : Bool := PyData.eqv (toPy x) (toPy y)
def D.sh (x : D) : Prop := SeqAt.shaped (toPy x) = true
def fEq : F2 := fun x y Q => x.sh ∧ y.sh ∧ Q (.bl (x.eqv y))
def fNe : F2 := fun x y Q => x.sh ∧ y.sh ∧ Q (.bl (!x.eqv y))
theorem opp_eq : OpP X.K (rEqD X.K) fEq := fun F H x y dx dy Q R hs rx ry hf k => ⟨_, _, rx.dp hs hf.1, ry.dp hs hf.2.1, hf.1, hf.2.1, k _ _ _ _ (.old (.bl _)) hf.2.2⟩
theorem opp_ne : OpP X.K (rNeD X.K) fNe := fun F H x y dx dy Q R hs rx ry hf k => ⟨_, _, rx.dp hs hf.1, ry.dp hs hf.2.1, hf.1, hf.2.1, k _ _ _ _ (.old (.bl _)) hf.2.2⟩
def fLt : F2 := f2I0 fun i j => .bl (decide (i < j))
def fLe : F2 := f2I0 fun i j => .bl (decide (i ≤ j))
def fGt : F2 := f2I0 fun i j => .bl (decide (j < i))
def fGe : F2 := f2I0 fun i j => .bl (decide (j ≤ i))
def D.isNon : D → Bool
  | .non => true
  | _ => false
def fIsN : F2 := fun x y Q => match y with | .non => Q (.bl x.isNon) | _ => False
theorem ite_t {A B : Prop} (h : if true = true then A else B) : A := by simpa using h
theorem ite_f {A B : Prop} (h : if false = true then A else B) : B := by simpa using h
theorem ite_ti {A B : Prop} (h : A) : if true = true then A else B := by simpa using h
theorem ite_fi {A B : Prop} (h : B) : if false = true then A else B := by simpa using h
structure Cmp (X : Cx) (op : CmpOp) (r : R2) (f : F2) : Prop where
  op : OpR X (compareOp op) r
  pp : OpP X.K r f
theorem cm_lt : Cmp X .Lt (rI0 fun i j => .bl (decide (i < j))) fLt := ⟨op_lt, opp_I0 fun _ _ _ => .bl _⟩
theorem cm_le : Cmp X .LtE (rI0 fun i j => .bl (decide (i ≤ j))) fLe := ⟨op_le, opp_I0 fun _ _ _ => .bl _⟩
theorem cm_gt : Cmp X .Gt (rI0 fun i j => .bl (decide (j < i))) fGt := ⟨op_gt, opp_I0 fun _ _ _ => .bl _⟩
theorem cm_ge : Cmp X .GtE (rI0 fun i j => .bl (decide (j ≤ i))) fGe := ⟨op_ge, opp_I0 fun _ _ _ => .bl _⟩
theorem cm_eq (hu : X.A.units + 64 < cLine) : Cmp X .Eq (rEqD X.K) fEq := ⟨op_eqD hu, opp_eq⟩
theorem cm_ne (hu : X.A.units + 64 < cLine) : Cmp X .NotEq (rNeD X.K) fNe := ⟨op_neD hu, opp_ne⟩
theorem dec_non {K : PySem.W.Frag} {F : Hp} {v : V} {d : D} (r : Rep K F v d) : decide (v = .non) = d.isNon := by
  cases r <;> rfl
theorem cm_isN : Cmp X .Is (fun x y H Q => y = .non ∧ Q (.bl (decide (x = .non))) H) fIsN := ⟨op_isN, fun F H x y dx dy Q R hs rx ry hf k => by
  cases ry with
  | non => exact ⟨rfl, by rw [dec_non rx]; exact k _ _ _ _ (.old (.bl _)) hf⟩
  | _ => exact hf.elim⟩
theorem ppe_cmp {op : CmpOp} {r : R2} {f : F2} (hc : Cmp X op r f) (ha : PPE X a ta Ta) (hb : PPE X b tb Tb) (hm : behindInMarks op b = false) : PPE X (.Compare a [op] [b] pos) (tOp r ta tb) (pOp f Ta Tb) := ⟨pe_cmpR hc.op ha.pe hb.pe hm, snd_op hc.pp ha.snd hb.snd⟩
def pTest (T : TEp) : TTp := fun ρ Q => T ρ fun x ρ' => match x with | .bl k => Q k ρ' | _ => False
theorem snd_test {K : PySem.W.Frag} {t : TE} {T : TEp} (h : SndE K t T) : SndT K (tTest t) (pTest T) := fun G F H σ ρ Q R S hT k => h G F H σ ρ _ _ S hT fun v d F' H' ρ' u S' r q => by
  cases r with
  | bl b => exact ⟨b, rfl, k b F' H' ρ' u S' q⟩
  | _ => exact q.elim
theorem ppt_cmp {op : CmpOp} {r : R2} {f : F2} (hc : Cmp X op r f) (ha : PPE X a ta Ta) (hb : PPE X b tb Tb) (hm : behindInMarks op b = false) : PPT X (.Compare a [op] [b] pos) (tTest (tOp r ta tb)) (pTest (pOp f Ta Tb)) := ⟨pt_cmpR hc.op ha.pe hb.pe hm, snd_test (snd_op hc.pp ha.snd hb.snd)⟩
theorem ppt_val {e : Expr} {t : TE} {T : TEp} (h : PPE X e t T) (he : ∀ whole, isTrue e X.env whole = (do let v ← whole; standAt e.pos; holding [v] (truthy v)) := by intro _; rfl) : PPT X e (tB t) (pTest T) := ⟨pt_val h.pe he, snd_test h.snd⟩
def pChain (f g : F2) (Ta Tb Tc : TEp) : TEp := fun ρ Q => Ta ρ fun x ρ1 => Tb ρ1 fun y ρ2 => f x y fun z => match z with
  | .bl k => if k = true then Tc ρ2 fun w ρ3 => g y w fun z => Q z ρ3 else Q (.bl false) ρ2
  | _ => False
theorem snd_chain {K : PySem.W.Frag} {r r' : R2} {f g : F2} (hp : OpP K r f) (hq : OpP K r' g) (ha : SndE K ta Ta) (hb : SndE K tb Tb) (hc : SndE K tc Tc) : SndE K (tChain r r' ta tb tc) (pChain f g Ta Tb Tc) := fun G F H σ ρ Q R S hT k =>
  ha G F H σ ρ _ _ S hT fun x dx F1 H1 ρ1 u1 S1 r1 h1 => hb G F1 H1 σ ρ1 _ _ S1 h1 fun y dy F2 H2 ρ2 u2 S2 r2 h2 =>
    hp F2 H2 x y dx dy _ _ S2.hF (r1.mono u2.ex) r2 h2 fun v d F3 H3 res q => by
      obtain ⟨u3, S3, r3⟩ := S2.res res
      cases r3 with
      | bl b =>
        refine ⟨b, rfl, ?_⟩
        cases b with
        | true =>
          have q := ite_t q
          refine ite_ti ?_
          refine hc G F3 H3 σ ρ2 _ _ S3 q fun w dw F4 H4 ρ4 u4 S4 r4 h4 => hq F4 H4 y w dy dw _ _ S4.hF ((r2.mono u3.ex).mono u4.ex) r4 h4 fun v d F5 H5 res5 q5 => ?_
          obtain ⟨u5, S5, r5⟩ := S4.res res5
          exact k v d F5 H5 ρ4 ((((u1.trans u2).trans u3).trans u4).trans u5) S5 r5 q5
        | false =>
          have q := ite_f q
          refine ite_fi ?_
          exact k _ _ F3 H3 ρ2 ((u1.trans u2).trans u3) S3 (.bl _) q
      | _ => exact q.elim
theorem ppt_chain {op op' : CmpOp} {r r' : R2} {f g : F2} (h1 : Cmp X op r f) (h2 : Cmp X op' r' g) (ha : PPE X a ta Ta) (hb : PPE X b tb Tb) (hc : PPE X c tc Tc) (hm : lastMarks [op, op'] [b, c] = false := by with_unfolding_all rfl) :
    PPT X (.Compare a [op, op'] [b, c] pos) (tTest (tChain r r' ta tb tc)) (pTest (pChain f g Ta Tb Tc)) := ⟨pt_chain h1.op h2.op ha.pe hb.pe hc.pe hm, snd_test (snd_chain h1.pp h2.pp ha.snd hb.snd hc.snd)⟩
variable {tA tB' : TT} {TA' TB' : TTp} {rest : List Expr}
def pAnd (T U : TTp) : TTp := fun ρ Q => T ρ fun c ρ1 => if c = true then U ρ1 Q else Q false ρ1
def pOr (T U : TTp) : TTp := fun ρ Q => T ρ fun c ρ1 => if c = true then Q true ρ1 else U ρ1 Q
def pNot (T : TTp) : TTp := fun ρ Q => T ρ fun c ρ1 => Q (!c) ρ1
theorem ppw_and1 (ha : PPT X a tA TA') : PPW X (.BoolOp .And [a] pos) tA TA' := ⟨pw_and1 ha.pt, ha.snd⟩
theorem ppw_or1 (ha : PPT X a tA TA') : PPW X (.BoolOp .Or [a] pos) tA TA' := ⟨pw_or1 ha.pt, ha.snd⟩
theorem ppw_and (ha : PPT X a tA TA') (hb : PPW X (.BoolOp .And (b :: rest) pos) tB' TB') : PPW X (.BoolOp .And (a :: b :: rest) pos) (tAnd tA tB') (pAnd TA' TB') := ⟨pw_and ha.pt hb.pw, fun G F H σ ρ Q R S hT k =>
  ha.snd G F H σ ρ _ _ S hT fun c F1 H1 ρ1 u1 S1 h1 => by
    cases c with
    | true => have h1 := ite_t h1; refine ite_ti ?_; exact hb.snd G F1 H1 σ ρ1 _ _ S1 h1 fun b F2 H2 ρ2 u2 S2 h2 => k b F2 H2 ρ2 (u1.trans u2) S2 h2
    | false => have h1 := ite_f h1; refine ite_fi ?_; exact k _ F1 H1 ρ1 u1 S1 h1⟩
theorem ppw_or (ha : PPT X a tA TA') (hb : PPW X (.BoolOp .Or (b :: rest) pos) tB' TB') : PPW X (.BoolOp .Or (a :: b :: rest) pos) (tOr tA tB') (pOr TA' TB') := ⟨pw_or ha.pt hb.pw, fun G F H σ ρ Q R S hT k =>
  ha.snd G F H σ ρ _ _ S hT fun c F1 H1 ρ1 u1 S1 h1 => by
    cases c with
    | false => have h1 := ite_f h1; refine ite_fi ?_; exact hb.snd G F1 H1 σ ρ1 _ _ S1 h1 fun b F2 H2 ρ2 u2 S2 h2 => k b F2 H2 ρ2 (u1.trans u2) S2 h2
    | true => have h1 := ite_t h1; refine ite_ti ?_; exact k _ F1 H1 ρ1 u1 S1 h1⟩
theorem PPW.ppt {e : Expr} {t : TT} {T : TTp} (h : PPW X e t T) : PPT X e t T := ⟨h.pw.pt, h.snd⟩
theorem ppt_not (ha : PPT X a tA TA') : PPT X (.UnaryOp .Not a pos) (tNot tA) (pNot TA') := ⟨pt_not ha.pt, fun G F H σ ρ Q R S hT k => ha.snd G F H σ ρ _ _ S hT fun c F1 H1 ρ1 u1 S1 h1 => k _ F1 H1 ρ1 u1 S1 h1⟩
def pAndV (Ta Tb : TEp) : TEp := fun ρ Q => Ta ρ fun x ρ1 => match x with | .bl c => if c = true then Tb ρ1 Q else Q (.bl false) ρ1 | _ => False
def pNotV (Ta : TEp) : TEp := fun ρ Q => Ta ρ fun x ρ1 => match x with | .bl c => Q (.bl (!c)) ρ1 | _ => False
theorem ppe_one {op} (h : PPE X a ta Ta) : PPE X (.BoolOp op [a] pos) ta Ta := ⟨pe_one h.pe, h.snd⟩
theorem ppe_and (ha : PPE X a ta Ta) (hb : PPE X (.BoolOp .And (b :: rest) pos) tb Tb) : PPE X (.BoolOp .And (a :: b :: rest) pos) (tAndV ta tb) (pAndV Ta Tb) := ⟨pe_and ha.pe hb.pe, fun G F H σ ρ Q R S hT k =>
  ha.snd G F H σ ρ _ _ S hT fun x dx F1 H1 ρ1 u1 S1 r1 h1 => by
    cases r1 with
    | bl c =>
      refine ⟨c, rfl, ?_⟩
      cases c with
      | true => have h1 := ite_t h1; refine ite_ti ?_; exact hb.snd G F1 H1 σ ρ1 _ _ S1 h1 fun v d F2 H2 ρ2 u2 S2 r2 h2 => k v d F2 H2 ρ2 (u1.trans u2) S2 r2 h2
      | false => have h1 := ite_f h1; refine ite_fi ?_; exact k _ _ F1 H1 ρ1 u1 S1 (.bl _) h1
    | _ => exact h1.elim⟩
theorem ppe_not (ha : PPE X a ta Ta) : PPE X (.UnaryOp .Not a pos) (tNotV ta) (pNotV Ta) := ⟨pe_not ha.pe, fun G F H σ ρ Q R S hT k =>
  ha.snd G F H σ ρ _ _ S hT fun x dx F1 H1 ρ1 u1 S1 r1 h1 => by
    cases r1 with
    | bl c => exact ⟨c, rfl, k _ _ F1 H1 ρ1 u1 S1 (.bl _) h1⟩
    | _ => exact h1.elim⟩
def pIf (T : TTp) (Ta Tb : TEp) : TEp := fun ρ Q => T ρ fun c ρ1 => if c = true then Ta ρ1 Q else Tb ρ1 Q
theorem ppe_ifExp {c : Expr} (hc : PPT X c tA TA') (ha : PPE X a ta Ta) (hb : PPE X b tb Tb) : PPE X (.IfExp c a b pos) (tIf tA ta tb) (pIf TA' Ta Tb) := ⟨pe_ifExp hc.pt ha.pe hb.pe, fun G F H σ ρ Q R S hT k =>
  hc.snd G F H σ ρ _ _ S hT fun c F1 H1 ρ1 u1 S1 h1 => by
    cases c with
    | true => have h1 := ite_t h1; refine ite_ti ?_; exact ha.snd G F1 H1 σ ρ1 _ _ S1 h1 fun v d F2 H2 ρ2 u2 S2 r2 h2 => k v d F2 H2 ρ2 (u1.trans u2) S2 r2 h2
    | false => have h1 := ite_f h1; refine ite_fi ?_; exact hb.snd G F1 H1 σ ρ1 _ _ S1 h1 fun v d F2 H2 ρ2 u2 S2 r2 h2 => k v d F2 H2 ρ2 (u1.trans u2) S2 r2 h2⟩
variable {e : Expr} {es : List Expr} {te : TE} {Te : TEp} {t : TA} {T : TAp}
def pNil : TAp := fun ρ Q => Q [] ρ
def pCons (Ta : TEp) (Tr : TAp) : TAp := fun ρ Q => Ta ρ fun x ρ1 => Tr ρ1 fun xs ρ2 => Q (x :: xs) ρ2
theorem ppa_nil : PPA X [] tNil pNil := ⟨pa_nil, fun G F H σ ρ Q R S hT k => k _ _ F H ρ (.refl _ _) S .nil hT⟩
theorem ppa_cons (ha : PPE X e te Te) (hr : PPA X es t T) (hs : starEach (e :: es) X.env = (false, eval e X.env) :: starEach es X.env := by rfl) : PPA X (e :: es) (tCons te t) (pCons Te T) := ⟨pa_cons ha.pe hr.pa hs, fun G F H σ ρ Q R S hT k =>
  ha.snd G F H σ ρ _ _ S hT fun v d F1 H1 ρ1 u1 S1 r1 h1 => hr.snd G F1 H1 σ ρ1 _ _ S1 h1 fun vs ds F2 H2 ρ2 u2 S2 r2 h2 => k _ _ F2 H2 ρ2 (u1.trans u2) S2 (.cons (r1.mono u2.ex) r2) h2⟩
def pTup (T : TAp) : TEp := fun ρ Q => T ρ fun xs ρ1 => xs.length ≤ sizeLine ∧ Q (.tup xs) ρ1
theorem ppe_tup {x1} (h : PPA X es t T) : PPE X (.Tuple es x1 pos) (tTup t) (pTup T) := ⟨pe_tup h.pa, fun G F H σ ρ Q R S hT k =>
  h.snd G F H σ ρ _ _ S hT fun vs ds F1 H1 ρ1 u1 S1 r1 h1 => ⟨by rw [r1.length]; exact h1.1, fun p hp => k _ _ _ _ ρ1 (u1.trans (S1.upNew hp)) (S1.new hp) (.tup upd_same (r1.mono (same_new (S1.freshF hp)))) h1.2⟩⟩
def pLst (T : TAp) : TEp := fun ρ Q => T ρ fun xs ρ1 => xs.length ≤ sizeLine ∧ Q (.lst xs) ρ1
theorem ppe_lst (h : PPA X es t T) : PPE X (.List es pos) (tLst t) (pLst T) := ⟨pe_lst h.pa, fun G F H σ ρ Q R S hT k =>
  h.snd G F H σ ρ _ _ S hT fun vs ds F1 H1 ρ1 u1 S1 r1 h1 => ⟨by rw [r1.length]; exact h1.1, fun p hp => k _ _ _ _ ρ1 (u1.trans (S1.upNew hp)) (S1.new hp) (.lst upd_same (r1.mono (same_new (S1.freshF hp)))) h1.2⟩⟩
def pLstO (T : TAp) : TCp := fun ρ Q => T ρ fun xs ρ1 => xs.length ≤ sizeLine ∧ ∀ a, Q (.own a xs) ρ1
theorem Sim.newOwn {K : PySem.W.Frag} {G F H : Hp} {σ : L2.St} {ρ : Ro} (S : Sim K G F H σ ρ) {p : Addr} {vs : List V} {xs : List D} (h : H p = none) (r : Reps K F vs xs) : Sim K G F (upd H p (.lst vs)) (σ ++ [some (.ref p)]) (ρ ++ [some (.own p xs)]) :=
  (S.more h).pushOwn upd_same (S.freshF h) (S.freshG h) (S.notOwn h) r
theorem ppc_lst (h : PPA X es t T) : PPC X (.List es pos) (tLst t) (pLstO T) := ⟨pe_lst h.pa, fun G F H σ ρ Q R S hT k =>
  h.snd G F H σ ρ _ _ S hT fun vs ds F1 H1 ρ1 u1 S1 r1 h1 => ⟨by rw [r1.length]; exact h1.1, fun p hp => k _ _ _ _ ρ1 u1 (S1.newOwn hp r1) (h1.2 p)⟩⟩
def pCB (f : List D → (D → Prop) → Prop) (T : TAp) : TEp := fun ρ Q => T ρ fun xs ρ1 => f xs fun z => Q z ρ1
theorem snd_cb {K : PySem.W.Frag} {r : List V → Hp → VK → Prop} {f : List D → (D → Prop) → Prop} (hp : CallP K r f) (h : SndA K t T) : SndE K (tCB r t) (pCB f T) := fun G F H σ ρ Q R S hT k =>
  h G F H σ ρ _ _ S hT fun vs ds F1 H1 ρ1 u1 S1 r1 h1 => hp F1 H1 vs ds _ _ S1.hF r1 h1 fun v d F2 H2 res q => by
    obtain ⟨u2, S2, r2⟩ := S1.res res
    exact k v d F2 H2 ρ1 (u1.trans u2) S2 r2 q
theorem ppe_callB {x : Str} {p : Pos} {id : String} {r : List V → Hp → VK → Prop} {f : List D → (D → Prop) → Prop} (hc : CallR X (.builtin id) r) (hp : CallP X.K r f) (hg : Gl X x) (hm : X.mg x = none) (hv : bootBuiltins x = some (.builtin id)) (ha : PPA X (e :: es) t T)
    (hn : x ≠ "__name__" := by decide) (hdb : (x == ("__debug__" : Str)) = false := by decide)
    (he : starEach (e :: es) X.env = (false, eval e X.env) :: starEach es X.env := by rfl) (hpl : (backTo pos (starEach es X.env)).any (·.1) = false := by rfl) : PPE X (.Call (.Name x p) (e :: es) [] pos) (tCB r t) (pCB f T) := ⟨pe_callB hc hg hm hv ha.pa hn hdb he hpl, snd_cb hp ha.snd⟩
theorem ppe_callTy {x : Str} {p : Pos} {id : String} {r : List V → Hp → VK → Prop} {f : List D → (D → Prop) → Prop} (hc : CallR X (.type id) r) (hp : CallP X.K r f) (hg : Gl X x) (hm : X.mg x = none) (hv : bootBuiltins x = some (.type id)) (ha : PPA X (e :: es) t T)
    (hn : x ≠ "__name__" := by decide) (hdb : (x == ("__debug__" : Str)) = false := by decide)
    (he : starEach (e :: es) X.env = (false, eval e X.env) :: starEach es X.env := by rfl) (hpl : (backTo pos (starEach es X.env)).any (·.1) = false := by rfl) : PPE X (.Call (.Name x p) (e :: es) [] pos) (tCB r t) (pCB f T) := ⟨pe_callTy hc hg hm hv ha.pa hn hdb he hpl, snd_cb hp ha.snd⟩
end
end Pl
namespace Pl
open PySem PySem.Spec PyProof.Rows L2
def SqK (K : PySem.W.Frag) (k : Bool) (H : Hp) (a : Addr) (xs : List V) : Prop := match k with
  | true => SqL K H a xs
  | false => SqT K H a xs
def ItK (k : Bool) (h : Heap) (it a : Addr) (i : Nat) : Prop := match k with
  | true => h.IsListIter it a i
  | false => h.IsTupleIter it a i
def IsK (k : Bool) (h : Heap) (a : Addr) (items : Array Value) : Prop := match k with
  | true => h.IsList a items
  | false => h.IsTuple a items
def objK (k : Bool) (l : Addr) : Obj := match k with
  | true => { cls := .type "list_iterator", data := .fields #[.ref l, .int 0 0] }
  | false => { cls := .type "tuple_iterator", data := .fields #[.ref l, .int 0 0] }
theorem drawsK {prog : Program} {w : World} {A : Around} (hh : A.handled = none) (k : Bool) (it l : Addr) (hne : l ≠ it) (items : Array Value) :
    Draws prog w A it [it, l] items.size (fun i v => items[i]? = some v) (fun i h => ItK k h it l i ∧ IsK k h l items) := by
  cases k with
  | true => exact Draws.list hh it l hne items
  | false => exact Draws.tuple hh it l hne items
theorem beginsK (k : Bool) (l : Addr) (items : Array Value) : Begins (.ref l) (objK k l) fun h => IsK k h l items := by
  cases k with
  | true => exact begins_list l items
  | false => exact begins_tuple l items
theorem itK_new {k : Bool} {h : Heap} {it l : Addr} (e : h.get? it = some (objK k l)) : ItK k h it l 0 := by
  cases k with
  | true => exact ⟨_, e, rfl, rfl⟩
  | false => exact ⟨_, e, rfl, rfl⟩
theorem ItK.obj {k : Bool} {h : Heap} {it l : Addr} {i : Nat} (x : ItK k h it l i) : ∃ o, h.get? it = some o ∧ ∀ v, o.data ≠ .cell v := by
  cases k with
  | true => obtain ⟨o, e, _, d⟩ := x; exact ⟨o, e, fun v q => by rw [d] at q; cases q⟩
  | false => obtain ⟨o, e, _, d⟩ := x; exact ⟨o, e, fun v q => by rw [d] at q; cases q⟩
theorem ItK.at {k : Bool} {h h' : Heap} {it l : Addr} {i : Nat} (x : ItK k h it l i) (e : ∀ o, h.get? it = some o → h'.get? it = some o) : ItK k h' it l i := by
  cases k with
  | true => obtain ⟨o, q, r⟩ := x; exact ⟨o, e o q, r⟩
  | false => obtain ⟨o, q, r⟩ := x; exact ⟨o, e o q, r⟩
section
variable {X : Cx} {pins : List (Addr × Obj)} {σ : L2.St} {H : Hp} {s : Shared} {a : Addr} {xs ys : List V} {k : Bool}
theorem invK (I : Inv X pins σ H s) (h : SqK X.K k H a xs) : ∃ its : List Value, Vals xs its ∧ IsK k s.heap a its.toArray ∧ xs.length ≤ sizeLine ∧ a < s.heap.objs.size := by
  cases k with
  | true =>
    obtain ⟨its, r, p, z⟩ := I.list h
    exact ⟨its, r, p.isList, z, p.lt⟩
  | false =>
    obtain ⟨its, r, p, z⟩ := I.tuple h
    exact ⟨its, r, p, z, p.lt⟩
theorem invK_inj (I : Inv X pins σ H s) (h : SqK X.K k H a xs) (h' : SqK X.K k H a ys) : xs = ys := by
  cases k with
  | true => exact I.list_inj h h'
  | false => exact I.tuple_inj h h'
end
theorem SqK.mono {K : PySem.W.Frag} {k : Bool} {H H' : Hp} {a : Addr} {xs : List V} (e : Same H H') (h : SqK K k H a xs) : SqK K k H' a xs := by
  cases k with
  | true => exact e.seq h
  | false =>
    rcases h with (h | ⟨o, h⟩) | h
    · exact .inl (.inl (e _ _ h))
    · exact .inl (.inr ⟨o, e _ _ h⟩)
    · exact .inr h
theorem turn_goes {P : Program} {w : World} {K : PySem.W.Frag} {tg : Expr} {J : It} {fp : List Addr} {it : Addr} {tn : Nat → Heap → Prop}
    (mem : it ∈ fp) (obj : ∀ i h, tn i h → ∀ b ∈ fp, ∃ o, h.get? b = some o ∧ ∀ v, o.data ≠ .cell v) (keep : ∀ i h h', tn i h → (∀ b ∈ fp, ∀ o, h.get? b = some o → h'.get? b = some o) → tn i h')
    (go : ∀ (X : Cx), X.prog = P → X.w = w → X.K = K → X.calm = true → ∀ (i : Nat) (pins : List (Addr × Obj)) (s : Shared) (σ : L2.St) (H : Hp), Inv X pins σ H s → (∀ b ∈ fp, FpOk X pins H b) → tn i s.heap → (J.go i H ∨ J.stop i H) →
      ∃ (gfp wr : List Addr) (n : Nat) (Y : Nat → Heap → Value → Heap → Prop) (St : Nat → Heap → Prop), GoesN P w X.A tg it gfp wr n Y St ∧ St i s.heap ∧ (∀ b ∈ wr, b ∈ fp) ∧
        (J.go i H → i < n ∧ ∀ v h', Y i s.heap v h' → St (i + 1) h' → (∀ b o, b ∉ wr → s.heap.get? b = some o → h'.get? b = some o) →
          tn (i + 1) h' ∧ ∃ T ob, v = .ref T ∧ s.heap.objs.size ≤ T ∧ ObjOk P w (upd H T ob) h' T ob ∧ J.yld i H (.ref T) (upd H T ob)) ∧ (J.stop i H → i = n))
    (self : ∀ (A : Around) (i : Nat) (s : Shared) (Q : Value → Shared → Prop) (E : Value → Shared → Prop), tn i s.heap → Q (.ref it) s → wpAny (model P w) A (pyIter (.ref it)) Q E s) : Turn P w K tg J fp it tn where
  mem := mem
  obj := obj
  keep := keep
  item := by
    intro X hP hw hK hc i pins s σ H E I hf st hg
    obtain ⟨gfp, wr, n, Y, St, W, hst, hsub, h1, _⟩ := go X hP hw hK hc i pins s σ H I hf st (.inl hg)
    obtain ⟨hlt, h2⟩ := h1 hg
    subst hP hw hK
    refine W.goes i s (fun u s2 => ∃ x H', Inv X pins σ H' s2 ∧ RelV x u ∧ J.yld i H x H' ∧ tn (i + 1) s2.heap ∧ ∀ b ∈ fp, H' b = none) E hlt hst fun v h' tk hY st' hk _ => ?_
    obtain ⟨ht, T, ob, rfl, hT, new, yl⟩ := h2 v h' hY st' hk
    have I1 : Inv X pins σ (upd H T ob) { s with heap := h', toks := tk } := I.turnedNew (ch := wr) hk (fun b hb => hf b (hsub b hb)) hT new
    refine ⟨.ref T, _, I1, rfl, yl, ht, fun b hb => ?_⟩
    obtain ⟨o, e, _⟩ := obj i s.heap st b hb
    rw [upd_ne (Nat.ne_of_lt (Nat.lt_of_lt_of_le (Heap.lt_size e) hT))]
    exact (hf b hb).1
  done := by
    intro X hP hw hK hc i pins s σ H E I hf st hg
    obtain ⟨gfp, wr, n, Y, St, W, hst, hsub, _, h2⟩ := go X hP hw hK hc i pins s σ H I hf st (.inr hg)
    subst hP hw hK
    have e := h2 hg
    subst e
    refine W.stops s (fun s1 => Inv X pins σ H s1) E hst fun h' tk hk _ => ?_
    exact I.turnedL hk fun b hb => hf b (hsub b hb)
  self := self
theorem tup_ok {P : Program} {w : World} {H : Hp} {h : Heap} {T : Addr} {xs : List V} {us : List Value} (r : Vals xs us) (ht : h.IsTuple T us.toArray) (hz : xs.length ≤ sizeLine) : ObjOk P w (upd H T (.tup xs)) h T (.tup xs) := ⟨hz, us, r, ht⟩
def ItZ2 (K : PySem.W.Frag) (k1 : Bool) (a : Addr) (k2 : Bool) (b : Addr) : It :=
  ⟨fun i H => ∃ (xs ys : List V) (x y : V), SqK K k1 H a xs ∧ SqK K k2 H b ys ∧ xs[i]? = some x ∧ ys[i]? = some y,
    fun i H v H' => ∃ T x y, v = .ref T ∧ H T = none ∧ H' = upd H T (.tup [x, y]) ∧ (∀ xs, SqK K k1 H a xs → xs[i]? = some x) ∧ ∀ ys, SqK K k2 H b ys → ys[i]? = some y,
    fun i H => ∃ xs ys : List V, SqK K k1 H a xs ∧ SqK K k2 H b ys ∧ i = min xs.length ys.length⟩
theorem turn_z2 {P : Program} {w : World} {K : PySem.W.Frag} {elts : List Expr} {kk : Nat} {tpos : Pos} {k1 k2 : Bool} {a b z TI TO i1 i2 : Addr} (S : ZipSep2 z TI TO i1 i2 [i1, a] [i2, b]) (hia : a ≠ i1) (hib : b ≠ i2) :
    Turn P w K (.Tuple elts kk tpos) (ItZ2 K k1 a k2 b) [z, TI, TO, i1, i2] z (fun i h => IsZip h z TI TO .none ∧ IsTupOf2 h TI (.ref i1) (.ref i2) ∧ (∃ a1 a2, IsTupOf2 h TO a1 a2) ∧ ItK k1 h i1 a i ∧ ItK k2 h i2 b i) := by
  refine turn_goes (by simp) (fun i h st c hc => ?_) (fun i h h' st k => ?_) (fun X hP hw hK hc i pins s σ H I hf st hg => ?_) fun A i s Q E st h => wpAny_pyIter_zip st.1 h
  · obtain ⟨hz, hTI, ⟨x, y, hTO⟩, h1, h2⟩ := st
    have e' : c = z ∨ c = TI ∨ c = TO ∨ c = i1 ∨ c = i2 := by simpa using hc
    rcases e' with q | q | q | q | q
    · rw [q]; exact ⟨_, hz, fun v q => nomatch q⟩
    · rw [q]; exact ⟨_, hTI, fun v q => nomatch q⟩
    · rw [q]; exact ⟨_, hTO, fun v q => nomatch q⟩
    · rw [q]; exact h1.obj
    · rw [q]; exact h2.obj
  · obtain ⟨hz, hTI, ⟨x, y, hTO⟩, h1, h2⟩ := st
    exact ⟨k z (by simp) _ hz, k TI (by simp) _ hTI, ⟨x, y, k TO (by simp) _ hTO⟩, h1.at fun o q => k i1 (by simp) o q, h2.at fun o q => k i2 (by simp) o q⟩
  · subst hP hw hK
    obtain ⟨hz, hTI, hTO, h1, h2⟩ := st
    have src : ∃ xs ys, SqK X.K k1 H a xs ∧ SqK X.K k2 H b ys := by
      rcases hg with ⟨xs, ys, _, _, p, q, _⟩ | ⟨xs, ys, p, q, _⟩
      · exact ⟨xs, ys, p, q⟩
      · exact ⟨xs, ys, p, q⟩
    obtain ⟨xs, ys, sx, sy⟩ := src
    obtain ⟨its, rv, p1, z1, _⟩ := invK I sx
    obtain ⟨its2, rv2, p2, z2, _⟩ := invK I sy
    have hh : X.A.in1.handled = none := I.ok.hd hc
    have l1 := rv.length
    have l2 := rv2.length
    refine ⟨_, _, _, _, _, GoesN.zip2 S (drawsK hh k1 i1 a hia its.toArray) (drawsK hh k2 i2 b hib its2.toArray), ⟨hz, hTI, hTO, ⟨h1, p1⟩, ⟨h2, p2⟩⟩, fun c hc => ?_, fun hgo => ⟨?_, fun v h' hY st' hk => ?_⟩, fun hs => ?_⟩
    · have e' : c = z ∨ c = TO ∨ c = i1 ∨ c = i2 := by simpa using hc
      rcases e' with q | q | q | q <;> simp [q]
    · obtain ⟨xs', ys', x, y, p, q, e1, e2⟩ := hgo
      have E1 := invK_inj I p sx
      have E2 := invK_inj I q sy
      subst E1 E2
      have g1 : i < xs'.length := by
        rcases Nat.lt_or_ge i xs'.length with g | g
        · exact g
        · rw [List.getElem?_eq_none g] at e1; cases e1
      have g2 : i < ys'.length := by
        rcases Nat.lt_or_ge i ys'.length with g | g
        · exact g
        · rw [List.getElem?_eq_none g] at e2; cases e2
      simp only [List.size_toArray]
      omega
    · obtain ⟨T, u, v', rfl, hT, hu, hv, htup⟩ := hY
      obtain ⟨hz', hTI', hTO', ⟨h1', _⟩, ⟨h2', _⟩⟩ := st'
      refine ⟨⟨hz', hTI', hTO', h1', h2'⟩, ?_⟩
      obtain ⟨xs', ys', x, y, p, q, e1, e2⟩ := hgo
      have E1 := invK_inj I p sx
      have E2 := invK_inj I q sy
      subst E1 E2
      obtain ⟨u', hu', ru⟩ := rv.get e1
      obtain ⟨w', hw', rw'⟩ := rv2.get e2
      have eu : u = u' := by
        have : its[i]? = some u := by simpa using hu
        rw [hu'] at this; exact (Option.some.inj this).symm
      have ev : v' = w' := by
        have : its2[i]? = some v' := by simpa using hv
        rw [hw'] at this; exact (Option.some.inj this).symm
      subst eu ev
      refine ⟨T, .tup [x, y], rfl, hT, tup_ok (us := [u, v']) (.cons ru (.cons rw' .nil)) htup (by show 2 ≤ sizeLine; decide), T, x, y, rfl, I.hok.fresh hT, rfl, fun l hl => by rw [invK_inj I hl p]; exact e1, fun l hl => by rw [invK_inj I hl q]; exact e2⟩
    · obtain ⟨xs', ys', p, q, e⟩ := hs
      have E1 := invK_inj I p sx
      have E2 := invK_inj I q sy
      subst E1 E2
      simp only [List.size_toArray]
      omega
def iZ2 (K : PySem.W.Frag) (ta : TA) : TI := fun σ H R => ta σ H fun vs H1 => ∃ k1 k2 a b xs ys, vs = [.ref a, .ref b] ∧ SqK K k1 H1 a xs ∧ SqK K k2 H1 b ys ∧ R (ItZ2 K k1 a k2 b) H1
theorem pi_z2 {X : Cx} {e e2 : Expr} {ta : TA} {p pos tpos : Pos} {elts : List Expr} {kk : Nat} (hg : Gl X "zip") (hm : X.mg "zip" = none) (ha : PA X [e, e2] ta)
    (hs : starEach [e, e2] X.env = (false, eval e X.env) :: starEach [e2] X.env := by rfl) (hpl : (backTo pos (starEach [e2] X.env)).any (·.1) = false := by rfl) :
    PI X (.Tuple elts kk tpos) (.Call (.Name "zip" p) [e, e2] [] pos) (iZ2 X.K ta) := by
  refine ⟨fun pins s σ H R I h => ?_⟩
  refine Call_ (ld_blt I hg hm PyProof.Rows.boot_zip (PyProof.Rows.callWith_type1 (thn (ha.run pos pins s σ H _ I h) fun us s1 ⟨vs, H1, I1, r1, q1⟩ => ?_) hs hpl))
  obtain ⟨k1, k2, a, b, xs, ys, ex, hqx, hqy, q⟩ := q1
  subst ex
  obtain ⟨u1, u2, rfl, ra, rb⟩ := vals2 r1
  cases ra
  cases rb
  obtain ⟨its, rv, p1, _, la⟩ := invK I1 hqx
  obtain ⟨its2, rv2, p2, _, lb⟩ := invK I1 hqy
  refine zip_begins2 (beginsK k1 a its.toArray) (beginsK k2 b its2.toArray) p1 p2 fun h' hz hTI hTO h1 h2 hsz hk => wpAny_pyIter_zip hz ?_
  have I2 : Inv X pins σ H1 { s1 with heap := h' } := I1.kept (t' := s1.toks) hk
  refine ⟨s1.heap.objs.size + 4, [s1.heap.objs.size + 4, s1.heap.objs.size + 2, s1.heap.objs.size + 3, s1.heap.objs.size, s1.heap.objs.size + 1], _, _, H1, rfl, I2,
    turn_z2 (zip_sep2 (fp1 := [a]) (fp2 := [b]) (fun c hc => by rw [List.mem_singleton.mp hc]; exact la) (fun c hc => by rw [List.mem_singleton.mp hc]; exact lb)) (Nat.ne_of_lt la) (Nat.ne_of_lt (Nat.lt_succ_of_lt lb)), ⟨hz, hTI, ⟨_, _, hTO⟩, itK_new h1, itK_new h2⟩, fun c hcm => ?_, q⟩
  have hle : s1.heap.objs.size ≤ c := by
    have e' : c = s1.heap.objs.size + 4 ∨ c = s1.heap.objs.size + 2 ∨ c = s1.heap.objs.size + 3 ∨ c = s1.heap.objs.size ∨ c = s1.heap.objs.size + 1 := by simpa using hcm
    rcases e' with z | z | z | z | z
    · rw [z]; exact Nat.le_add_right _ _
    · rw [z]; exact Nat.le_add_right _ _
    · rw [z]; exact Nat.le_add_right _ _
    · rw [z]; exact Nat.le_refl _
    · rw [z]; exact Nat.le_add_right _ _
  exact I1.fpOk hle (I1.hok.fresh hle)
theorem lt_of_get {α : Type} {l : List α} {i : Nat} {x : α} (e : l[i]? = some x) : i < l.length := by
  rcases Nat.lt_or_ge i l.length with g | g
  · exact g
  · rw [List.getElem?_eq_none g] at e; cases e
set_option maxHeartbeats 1000000 in
theorem meets_enumerate_new1 {v : Value} {o : Obj} {H : Heap → Prop} (B : Begins v o H) :
    Meets (Builtin.«enumerate.__new__» ⟨[.type "enumerate", v], []⟩) (fun _ R s => H s.heap ∧
      R (.ok (.ret (.ref (s.heap.push o).objs.size))) { s with heap := (s.heap.push o).push { cls := .type "enumerate", data := .fields #[.none, .bool false, .ref s.heap.objs.size, rawInt 0, .none, .none] } }) :=
  .of_wp fun prog w A R s h => by
    obtain ⟨hp, g, d, tk, os⟩ := s; obtain ⟨h1, h⟩ := h
    have hsub := sub_enumerate
    have q1 : ∀ {A' : Around} {E : Value → Shared → Prop} {Q : Value → Shared → Prop}, Q (.ref hp.objs.size) ⟨hp.push o, g, d, tk, os⟩ → wpAny (model prog w) A' (pyIter v) Q E ⟨hp, g, d, tk, os⟩ :=
      fun q => B.iter prog w _ _ ⟨hp, g, d, tk, os⟩ _ h1 q
    wp_walk using q1
    refine wpAny_stack_any fun st => wpAny_pure ?_
    split
    · rename_i c _ _ _ _ _
      cases (c == Value.type "enumerate")
      · wp_walk using q1
        exact ⟨_, rfl, h⟩
      · wp_walk using q1
        exact ⟨_, rfl, h⟩
    · wp_walk using q1
      exact ⟨_, rfl, h⟩
theorem enum_begins1 {prog : Program} {w : World} {A : Around} {E : Value → Shared → Prop} {s : Shared} {v : Value} {o : Obj} {H : Heap → Prop} {Q : Value → Shared → Prop} (B : Begins v o H) (h1 : H s.heap)
    (h : ∀ h', IsEnum h' (s.heap.objs.size + 1) s.heap.objs.size 0 .none → h'.get? s.heap.objs.size = some o → h'.objs.size = s.heap.objs.size + 2 →
      (∀ b o, s.heap.get? b = some o → h'.get? b = some o) → Q (.ref (s.heap.objs.size + 1)) { s with heap := h' }) :
    wpAny (model prog w) A (call (.type "enumerate") [v]) Q E s := by
  refine callType_new F.called_enumerate (by decide) (F.typeCall_enumerate_1 _) (F.newCall_enumerate_1 _) (fun obj => F.args_object_init_2 obj _) F.entry_enumerate_new
    (meets_enumerate_new1 B) ⟨h1, ?_⟩
  have hz : (s.heap.push o).objs.size = s.heap.objs.size + 1 := Heap.size_push ..
  show _ ∧ _
  rw [hz]
  have he : IsEnum ((s.heap.push o).push { cls := .type "enumerate", data := .fields #[.none, .bool false, .ref s.heap.objs.size, rawInt 0, .none, .none] }) (s.heap.objs.size + 1) s.heap.objs.size 0 .none := by
    have := Heap.get?_push_size (s.heap.push o) (o := { cls := .type "enumerate", data := .fields #[.none, .bool false, .ref s.heap.objs.size, rawInt 0, .none, .none] }) rfl
    rw [hz] at this; exact this
  refine ⟨⟨_, he, rfl⟩, h _ he (Heap.get?_push_of_some _ (Heap.get?_push_size _ B.free)) (by rw [Heap.size_push, hz]) fun b o x => Heap.get?_push_of_some _ (Heap.get?_push_of_some _ x)⟩
end Pl
namespace Pl
open PySem PySem.Spec PyProof.Rows L2
variable [TJ]
structure PEnds where
  nx : Ro → Prop
  rt : Cell → Ro → Prop
  bk : Ro → Prop := fun _ => False
  ct : Ro → Prop := fun _ => False
abbrev TSp := PEnds → Ro → Prop
structure ERel (K : PySem.W.Frag) (G F : Hp) (P : PEnds) (D : Ends) : Prop where
  nx : ∀ F' H' σ' ρ', Up G F F' → Sim K G F' H' σ' ρ' → P.nx ρ' → D.nx σ' H'
  rt : ∀ F' H' σ' ρ' v c, Up G F F' → Sim K G F' H' (σ' ++ [some v]) (ρ' ++ [some c]) → P.rt c ρ' → D.rt v H'
  bk : ∀ F' H' σ' ρ', Up G F F' → Sim K G F' H' σ' ρ' → P.bk ρ' → D.bk σ' H'
  ct : ∀ F' H' σ' ρ', Up G F F' → Sim K G F' H' σ' ρ' → P.ct ρ' → D.ct σ' H'
theorem ERel.mono {K : PySem.W.Frag} {G F F1 : Hp} {P : PEnds} {D : Ends} (e : ERel K G F P D) (u : Up G F F1) : ERel K G F1 P D :=
  ⟨fun F' H' σ' ρ' v => e.nx F' H' σ' ρ' (u.trans v), fun F' H' σ' ρ' x c v => e.rt F' H' σ' ρ' x c (u.trans v), fun F' H' σ' ρ' v => e.bk F' H' σ' ρ' (u.trans v), fun F' H' σ' ρ' v => e.ct F' H' σ' ρ' (u.trans v)⟩
def SndS (K : PySem.W.Frag) (t : TS) (T : TSp) : Prop := ∀ (G F H : Hp) (σ : L2.St) (ρ : Ro) (P : PEnds) (D : Ends), Sim K G F H σ ρ → T P ρ → ERel K G F P D → t D σ H
structure PPS (X : Cx) (st : Stmt) (t : TS) (T : TSp) : Prop where
  ps : PS X st t
  snd : SndS X.K t T
structure PPSs (X : Cx) (st : List Stmt) (t : TS) (T : TSp) : Prop where
  ps : PSs X st t
  snd : SndS X.K t T
section
variable {X : Cx} {st : Stmt} {rest : List Stmt} {t u : TS} {T U : TSp} {e : Expr} {te : TE} {Te : TEp} {Tc : TCp} {pos : Pos}
def pNext : TSp := fun P ρ => P.nx ρ
def pSeq (T U : TSp) : TSp := fun P ρ => T { P with nx := U P } ρ
theorem ppss_nil : PPSs X [] tNext pNext := ⟨pss_nil, fun G F H σ ρ P D S h r => r.nx F H σ ρ (.refl _ _) S h⟩
theorem ppss_one (h1 : PPS X st t T) : PPSs X [st] t T := ⟨pss_one h1.ps, h1.snd⟩
theorem ppss_cons (h1 : PPS X st t T) (h2 : PPSs X rest u U) : PPSs X (st :: rest) (tSeq t u) (pSeq T U) := ⟨pss_cons h1.ps h2.ps, fun G F H σ ρ P D S h r =>
  h1.snd G F H σ ρ _ _ S h ⟨fun F' H' σ' ρ' u S' q => h2.snd G F' H' σ' ρ' P D S' q (r.mono u), r.rt, r.bk, r.ct⟩⟩
def pRet (Tc : TCp) : TSp := fun P ρ => Tc ρ P.rt
theorem pps_ret (he : PPC X e te Tc) : PPS X (.Return (some e) pos) (tRet te) (pRet Tc) := ⟨ps_ret he.pe, fun G F H σ ρ P D S h r =>
  he.snd G F H σ ρ _ _ S h fun v c F' H' ρ' u S' q => r.rt F' H' σ ρ' v c u S' q⟩
def pIfS (C : TTp) (T U : TSp) : TSp := fun P ρ => C ρ fun b ρ1 => if b = true then T P ρ1 else U P ρ1
theorem pps_if {c : Expr} {a b : List Stmt} {tc : TT} {C : TTp} (hc : PPT X c tc C) (ha : PPSs X a t T) (hb : PPSs X b u U) : PPS X (.If c a b pos) (tIfS tc t u) (pIfS C T U) := ⟨ps_if hc.pt ha.ps hb.ps, fun G F H σ ρ P D S h r =>
  hc.snd G F H σ ρ _ _ S h fun b F' H' ρ' u S' q => by
    cases b with
    | true => exact ite_ti (ha.snd G F' H' σ ρ' P D S' (ite_t q) (r.mono u))
    | false => exact ite_fi (hb.snd G F' H' σ ρ' P D S' (ite_f q) (r.mono u))⟩
abbrev TGp := D → Ro → (Ro → Prop) → Prop
abbrev TGsp := List D → Ro → (Ro → Prop) → Prop
def SndG (K : PySem.W.Frag) (g : TG) (Gp : TGp) (is : List Nat) : Prop := ∀ (G F H : Hp) (σ : L2.St) (ρ : Ro) (Q : Ro → Prop) (R : L2.St → Hp → Prop) (v : V) (d : D), Sim K G F H σ ρ → Rep K F v d → Gp d ρ Q →
  (∀ F' H' σ' ρ', Up G F F' → Sim K G F' H' σ' ρ' → (∀ j, j ∉ is → σ'[j]? = σ[j]?) → σ'.length = σ.length → Q ρ' → R σ' H') → g v σ H R
def SndGs (K : PySem.W.Frag) (g : TGs) (Gp : TGsp) (is : List Nat) : Prop := ∀ (G F H : Hp) (σ : L2.St) (ρ : Ro) (Q : Ro → Prop) (R : L2.St → Hp → Prop) (vs : List V) (ds : List D), Sim K G F H σ ρ → Reps K F vs ds → Gp ds ρ Q →
  (∀ F' H' σ' ρ', Up G F F' → Sim K G F' H' σ' ρ' → (∀ j, j ∉ is → σ'[j]? = σ[j]?) → σ'.length = σ.length → Q ρ' → R σ' H') → g vs σ H R
structure PTg (X : Cx) (tg : Expr) (g : TG) (Gp : TGp) (is : List Nat) : Prop where
  pg : PG X tg g
  snd : SndG X.K g Gp is
structure PTgs (X : Cx) (tgs : List Expr) (g : TGs) (Gp : TGsp) (is : List Nat) : Prop where
  pg : PGs X tgs g
  snd : SndGs X.K g Gp is
def hName (i : Nat) : TGp := fun d ρ Q => Q (ρ.set i (some (.val d)))
theorem ptg_name {i : Nat} {x : Str} (hN : X.N.Nodup) (hi : X.N[i]? = some x := by rfl) (hx : Loc X.env.scope x := by first | exact Or.inl rfl | exact Or.inr rfl) (hf : X.fn x = true ∨ X.env.scope.names.lookup x = some .local := by first | exact .inl rfl | exact .inr rfl | assumption) : PTg X (.Name x pos) (gName i) (hName i) [i] :=
  ⟨pg_name hN hi hx hf, fun G F H σ ρ Q R v d S r h k => k F H _ _ (.refl _ _) (S.setVal i r) (fun j hj => List.getElem?_set_ne (fun z => hj (by simp [z]))) (by simp) h⟩
def hNil : TGsp := fun ds ρ Q => ds = [] ∧ Q ρ
def hCons (g : TGp) (gs : TGsp) : TGsp := fun ds ρ Q => match ds with | d :: r => g d ρ fun ρ' => gs r ρ' Q | [] => False
theorem ptgs_nil : PTgs X [] gNil hNil [] := ⟨pgs_nil, fun G F H σ ρ Q R vs ds S r h k => by
  obtain ⟨rfl, h⟩ := h
  cases r
  exact ⟨rfl, k F H σ ρ (.refl _ _) S (fun _ _ => rfl) rfl h⟩⟩
theorem ptgs_cons {e : Expr} {es : List Expr} {g : TG} {gs : TGs} {Gp : TGp} {Gs : TGsp} {is js : List Nat} (h1 : PTg X e g Gp is) (h2 : PTgs X es gs Gs js)
    (hs : (assignEach (e :: es) X.env).map (·.2) = assign e X.env :: (assignEach es X.env).map (·.2) := by rfl) : PTgs X (e :: es) (gCons g gs) (hCons Gp Gs) (is ++ js) := ⟨pgs_cons h1.pg h2.pg hs, fun G F H σ ρ Q R vs ds S r h k => by
  cases r with
  | nil => exact h.elim
  | cons r1 r2 => exact ⟨_, _, rfl, h1.snd G F H σ ρ _ _ _ _ S r1 h fun F1 H1 σ1 ρ1 u1 S1 o1 l1 q1 => h2.snd G F1 H1 σ1 ρ1 _ _ _ _ S1 (r2.mono u1.ex) q1 fun F2 H2 σ2 ρ2 u2 S2 o2 l2 q2 =>
      k F2 H2 σ2 ρ2 (u1.trans u2) S2 (fun j hj => (o2 j fun z => hj (List.mem_append_right _ z)).trans (o1 j fun z => hj (List.mem_append_left _ z))) (l2.trans l1) q2⟩⟩
def gAny (K : PySem.W.Frag) (n : Nat) (t : TGs) : TG := fun v σ H Q => gTup K n t v σ H Q ∨ gUnl K n t v σ H Q
def hTup (n : Nat) (g : TGsp) : TGp := fun d ρ Q => match d with
  | .tup ds => ds.length = n ∧ g ds ρ Q
  | .lst ds => ds.length = n ∧ g ds ρ Q
  | _ => False
theorem ptg_tup {es : List Expr} {k : Nat} {t : TGs} {Gp : TGsp} {n : Nat} {is : List Nat} (hc : X.calm = true) (h : PTgs X es t Gp is)
    (hn : (assignEach es X.env).length = n := by rfl) (hst : (assignEach es X.env).findIdx? (·.1) = none := by rfl) : PTg X (.Tuple es k pos) (gAny X.K n t) (hTup n Gp) is :=
  ⟨⟨fun pins s σ H v u Q I r hw => hw.elim (fun hw => (pg_tup hc h.pg hn hst).run pins s σ H v u Q I r hw) fun hw => (pg_unl hc h.pg hn hst).run pins s σ H v u Q I r hw⟩, fun G F H σ ρ Q R v d S r hh k => by
    cases r with
    | tup e r => exact .inl ⟨_, _, rfl, SqT.of (S.hF _ _ e), by rw [r.length]; exact hh.1, h.snd G F H σ ρ Q R _ _ S r hh.2 k⟩
    | lst e r => exact .inr ⟨_, _, rfl, SqL.of (S.hF _ _ e), by rw [r.length]; exact hh.1, h.snd G F H σ ρ Q R _ _ S r hh.2 k⟩
    | _ => exact hh.elim⟩
def pSet (i : Nat) (Tc : TCp) : TSp := fun P ρ => Tc ρ fun c ρ1 => P.nx (ρ1.set i (some c))
theorem snd_set {K : PySem.W.Frag} {i : Nat} {te : TE} {Tc : TCp} (h : SndC K te Tc) : SndS K (tAsg te (gName i)) (pSet i Tc) := fun G F H σ ρ P D S hT r =>
  h G F H σ ρ _ _ S hT fun v c F' H' ρ' u S' q => r.nx F' H' _ _ u (S'.store i) q
theorem pps_set {i : Nat} {x : Str} {pos' : Pos} (hN : X.N.Nodup) (he : PPC X e te Tc) (hi : X.N[i]? = some x := by rfl) (hx : Loc X.env.scope x := by first | exact Or.inl rfl | exact Or.inr rfl) (hs : swapsWith e (some (.Name x pos')) pos.line X.env = pure false := by rfl) (hf : X.fn x = true ∨ X.env.scope.names.lookup x = some .local := by first | exact .inl rfl | exact .inr rfl | assumption) :
    PPS X (.Assign [.Name x pos'] e pos) (tAsg te (gName i)) (pSet i Tc) := ⟨ps_set hN hi hx he.pe hs hf, snd_set he.snd⟩
def pAsg (Te : TEp) (g : TGp) : TSp := fun P ρ => Te ρ fun d ρ1 => g d ρ1 P.nx
theorem pps_asg {tg : Expr} {g : TG} {Gp : TGp} {is : List Nat} (he : PPE X e te Te) (hg : PTg X tg g Gp is) (hs : swapsWithSole [tg] e pos.line X.env = pure false := by rfl) (hw : swappedStores [tg] e X.env = pure none := by rfl)
    (h1 : (assignEach [tg] X.env).map (·.2) = [assign tg X.env] := by rfl) : PPS X (.Assign [tg] e pos) (tAsg te g) (pAsg Te Gp) := ⟨ps_asg he.pe hg.pg hs hw h1, fun G F H σ ρ P D S hT r =>
  he.snd G F H σ ρ _ _ S hT fun v d F' H' ρ' u S' rv q => hg.snd G F' H' σ ρ' _ _ v d S' rv q fun F2 H2 σ2 ρ2 u2 S2 _ _ q2 => r.nx F2 H2 σ2 ρ2 (u.trans u2) S2 q2⟩
def pPar (i j : Nat) (T : TAp) : TSp := fun P ρ => T ρ fun ds ρ1 => match ds with | [x, y] => P.nx ((ρ1.set i (some (.val x))).set j (some (.val y))) | _ => False
theorem pps_par {i j : Nat} {x y : Str} {a b : Expr} {ta : TA} {TA' : TAp} {px py pt : Pos} {kt k2 pt2} (hc : X.calm = true) (hN : X.N.Nodup) (ha : PPA X [a, b] ta TA') (hi : X.N[i]? = some x := by rfl) (hj : X.N[j]? = some y := by rfl) (hij : i ≠ j := by decide)
    (hx : X.env.scope.names.lookup x = some .local := by rfl) (hy : X.env.scope.names.lookup y = some .local := by rfl)
    (hw : swappedStores [.Tuple [.Name x px, .Name y py] kt pt] (.Tuple [a, b] k2 pt2) X.env = pure (some [x, y]) := by rfl)
    (hs : swapsWithSole [.Tuple [.Name x px, .Name y py] kt pt] (.Tuple [a, b] k2 pt2) pos.line X.env = pure false := by rfl) :
    PPS X (.Assign [.Tuple [.Name x px, .Name y py] kt pt] (.Tuple [a, b] k2 pt2) pos) (tPar i j ta) (pPar i j TA') := ⟨ps_par hc hN hi hj hij hx hy ha.pa hw hs, fun G F H σ ρ P D S hT r =>
  ha.snd G F H σ ρ _ _ S hT fun vs ds F' H' ρ' u S' rv q => by
    match rv, q with
    | .cons (d := d1) r1 (.cons (d := d2) r2 .nil), q => exact ⟨_, _, rfl, r.nx F' H' _ _ u ((S'.setVal i r1).setVal j r2) q⟩
    | .nil, q => exact q.elim
    | .cons _ .nil, q => exact q.elim
    | .cons _ (.cons _ (.cons _ _)), q => exact q.elim⟩
end
def ItRep (K : PySem.W.Frag) (J : It) (F : Hp) (ds : List D) : Prop := ∀ F' H, Same F F' → Same F' H →
  (∀ (i : Nat) (d : D), ds[i]? = some d → J.go i H ∧ ∀ x H', J.yld i H x H' → ∃ F'', Res K F' H x d F'' H') ∧ J.stop ds.length H
theorem ItRep.mono {K : PySem.W.Frag} {J : It} {F F1 : Hp} {ds : List D} (h : ItRep K J F ds) (e : Same F F1) : ItRep K J F1 ds := fun F' H e1 e2 => h F' H (e.trans e1) e2
def SndI (K : PySem.W.Frag) (wi : TI) (T : TAp) : Prop := ∀ (G F H : Hp) (σ : L2.St) (ρ : Ro) (Q : List D → Ro → Prop) (R : It → Hp → Prop), Sim K G F H σ ρ → T ρ Q →
  (∀ J ds F' H' ρ', Up G F F' → Sim K G F' H' σ ρ' → ItRep K J F' ds → Q ds ρ' → R J H') → wi σ H R
structure PPI (X : Cx) (tg iter : Expr) (wi : TI) (T : TAp) : Prop where
  pi : PI X tg iter wi
  snd : SndI X.K wi T
theorem itrep_list {K : PySem.W.Frag} {F : Hp} {a : Addr} {vs : List V} {ds : List D} (h : F a = some (.lst vs)) (r : Reps K F vs ds) : ItRep K (Itl K a) F ds := fun F' H e1 e2 => by
  have hH : H a = some (.lst vs) := e2 _ _ (e1 _ _ h)
  refine ⟨fun i d hd => ?_, ⟨vs, SqL.of hH, by rw [r.length]; exact Nat.le_refl _⟩⟩
  obtain ⟨v, hv, rv⟩ := r.get hd
  refine ⟨⟨vs, v, SqL.of hH, hv⟩, fun x H' y => ?_⟩
  obtain ⟨rfl, y⟩ := y
  have e : x = v := Option.some.inj ((y vs (SqL.of hH)).symm.trans hv)
  subst e
  exact ⟨F', .old (rv.mono e1)⟩
theorem itrep_tup {K : PySem.W.Frag} {F : Hp} {a : Addr} {vs : List V} {ds : List D} (h : F a = some (.tup vs)) (r : Reps K F vs ds) : ItRep K (Itt K a) F ds := fun F' H e1 e2 => by
  have hH : H a = some (.tup vs) := e2 _ _ (e1 _ _ h)
  refine ⟨fun i d hd => ?_, ⟨vs, SqT.of hH, by rw [r.length]; exact Nat.le_refl _⟩⟩
  obtain ⟨v, hv, rv⟩ := r.get hd
  refine ⟨⟨vs, v, SqT.of hH, hv⟩, fun x H' y => ?_⟩
  obtain ⟨rfl, y⟩ := y
  have e : x = v := Option.some.inj ((y vs (SqT.of hH)).symm.trans hv)
  subst e
  exact ⟨F', .old (rv.mono e1)⟩
def asSeq (d : D) (k : List D → Prop) : Prop := match d with
  | .lst xs => k xs
  | .tup xs => k xs
  | _ => False
theorem Rep.seq {K : PySem.W.Frag} {F : Hp} {v : V} {d : D} {k : List D → Prop} (r : Rep K F v d) (h : asSeq d k) : ∃ (a : Addr) (q : Bool) (vs : List V) (ds : List D), v = .ref a ∧ F a = some (if q = true then .lst vs else .tup vs) ∧ Reps K F vs ds ∧ k ds := by
  cases r with
  | lst e r => exact ⟨_, true, _, _, rfl, e, r, h⟩
  | tup e r => exact ⟨_, false, _, _, rfl, e, r, h⟩
  | _ => exact h.elim
theorem sqk_of {K : PySem.W.Frag} {H : Hp} {a : Addr} {q : Bool} {vs : List V} (h : H a = some (if q = true then HO.lst vs else .tup vs)) : SqK K q H a vs := by
  cases q with
  | true => exact SqL.of h
  | false => exact SqT.of h
section
variable {X : Cx} {tg : Expr} {l : Expr} {tl : TE} {Tl : TEp} {pos : Pos}
def iAny (K : PySem.W.Frag) (tl : TE) : TI := fun σ H R => tl σ H fun x H1 => ∃ a, x = .ref a ∧ (((∃ xs, SqL K H1 a xs) ∧ R (Itl K a) H1) ∨ ((∃ xs, SqT K H1 a xs) ∧ R (Itt K a) H1))
theorem pi_any (hl : PE X l tl) : PI X tg l (iAny X.K tl) := by
  refine ⟨fun pins s σ H R I h => ?_⟩
  refine thn (hl.run pins s σ H _ I h) fun v s1 ⟨x, H1, I1, r1, q1⟩ => ?_
  obtain ⟨a, e, q1⟩ := q1
  subst e
  cases r1
  rcases q1 with ⟨⟨xs, hq⟩, q⟩ | ⟨⟨xs, hq⟩, q⟩
  · obtain ⟨its, rv, p, hz⟩ := I1.list hq
    refine wpAny_pyIter_list p.isList ?_
    refine ⟨s1.heap.objs.size, [s1.heap.objs.size], _, _, H1, rfl, I1.kept (t' := s1.toks) fun b o e => Heap.get?_push_of_some _ e, turn_list a _, ⟨_, Heap.get?_push_size _ rfl, rfl, rfl⟩, fun b hb => ?_, q⟩
    have e : b = s1.heap.objs.size := by simpa using hb
    subst e
    exact I1.fpOk (Nat.le_refl _) (I1.hok.fresh (Nat.le_refl _))
  · obtain ⟨its, rv, p, hz⟩ := I1.tuple hq
    refine wpAny_pyIter_tuple (show s1.heap.IsTuple a its.toArray from p) ?_
    refine ⟨s1.heap.objs.size, [s1.heap.objs.size], _, _, H1, rfl, I1.kept (t' := s1.toks) fun b o e => Heap.get?_push_of_some _ e, turn_tuple a _, ⟨_, Heap.get?_push_size _ rfl, rfl, rfl⟩, fun b hb => ?_, q⟩
    have e : b = s1.heap.objs.size := by simpa using hb
    subst e
    exact I1.fpOk (Nat.le_refl _) (I1.hok.fresh (Nat.le_refl _))
def jSeq (Tl : TEp) : TAp := fun ρ Q => Tl ρ fun x ρ1 => asSeq x fun xs => Q xs ρ1
theorem ppi_seq (hl : PPE X l tl Tl) : PPI X tg l (iAny X.K tl) (jSeq Tl) := ⟨pi_any hl.pe, fun G F H σ ρ Q R S h k =>
  hl.snd G F H σ ρ _ _ S h fun v d F' H' ρ' u S' rv q => by
    cases rv with
    | lst e r => exact ⟨_, rfl, .inl ⟨⟨_, SqL.of (S'.hF _ _ e)⟩, k _ _ F' H' ρ' u S' (itrep_list e r) q⟩⟩
    | tup e r => exact ⟨_, rfl, .inr ⟨⟨_, SqT.of (S'.hF _ _ e)⟩, k _ _ F' H' ρ' u S' (itrep_tup e r) q⟩⟩
    | _ => exact q.elim⟩
def rangeD (lo : Int) (n : Nat) : List D := (List.range n).map fun (i : Nat) => .int (lo + (i : Int))
theorem itrep_range {K : PySem.W.Frag} {F : Hp} (lo : Int) (n : Nat) : ItRep K (Itr lo n) F (rangeD lo n) := fun F' H e1 e2 => by
  refine ⟨fun i d hd => ?_, ?_⟩
  · have hi : i < n := by have := lt_of_get hd; simpa [rangeD] using this
    refine ⟨hi, fun x H' y => ?_⟩
    obtain ⟨rfl, rfl⟩ := y
    have e : d = .int (lo + i) := by
      unfold rangeD at hd
      rw [List.getElem?_map, List.getElem?_range hi] at hd
      exact (Option.some.inj hd).symm
    subst e
    exact ⟨F', .old (.int _)⟩
  · show n ≤ (rangeD lo n).length
    simp [rangeD]
def jRng1 (T : TAp) : TAp := fun ρ Q => T ρ fun ds ρ1 => match ds with | [.int j] => -(2 ^ 62) ≤ j ∧ j < 2 ^ 62 ∧ Q (rangeD 0 j.toNat) ρ1 | _ => False
theorem Reps.int1 {K : PySem.W.Frag} {F : Hp} {vs : List V} {j : Int} (r : Reps K F vs [.int j]) : vs = [.int j] := by
  cases r with
  | cons h t => cases h; cases t; rfl
theorem Reps.int2 {K : PySem.W.Frag} {F : Hp} {vs : List V} {i j : Int} (r : Reps K F vs [.int i, .int j]) : vs = [.int i, .int j] := by
  cases r with
  | cons h t => cases h; rw [t.int1]
theorem ppi_range1 {a : Expr} {ta : TA} {TA' : TAp} {p : Pos} (hg : Gl X "range") (hm : X.mg "range" = none) (ha : PPA X [a] ta TA') (hs : starEach [a] X.env = [(false, eval a X.env)] := by rfl) : PPI X tg (.Call (.Name "range" p) [a] [] pos) (iRng1 ta) (jRng1 TA') := ⟨pi_range1 hg hm ha.pa hs, fun G F H σ ρ Q R S h k =>
  ha.snd G F H σ ρ _ _ S h fun vs ds F' H' ρ' u S' rv q => by
    match ds, rv, q with
    | [.int j], rv, q => exact ⟨j, rv.int1, q.1, q.2.1, k _ _ F' H' ρ' u S' (itrep_range 0 _) q.2.2⟩⟩
def jRng2 (T : TAp) : TAp := fun ρ Q => T ρ fun ds ρ1 => match ds with | [.int i, .int j] => (-(2 ^ 62) ≤ i ∧ i < 2 ^ 62 ∧ -(2 ^ 62) ≤ j ∧ j < 2 ^ 62) ∧ Q (rangeD i (j - i).toNat) ρ1 | _ => False
theorem ppi_range2 {a b : Expr} {ta : TA} {TA' : TAp} {p : Pos} (hg : Gl X "range") (hm : X.mg "range" = none) (ha : PPA X [a, b] ta TA') (hs : starEach [a, b] X.env = [(false, eval a X.env), (false, eval b X.env)] := by rfl) (hs2 : starEach [b] X.env = [(false, eval b X.env)] := by rfl) : PPI X tg (.Call (.Name "range" p) [a, b] [] pos) (iRng2 ta) (jRng2 TA') := ⟨pi_range2 hg hm ha.pa hs hs2, fun G F H σ ρ Q R S h k =>
  ha.snd G F H σ ρ _ _ S h fun vs ds F' H' ρ' u S' rv q => by
    match ds, rv, q with
    | [.int i, .int j], rv, q => exact ⟨i, j, rv.int2, q.1, k _ _ F' H' ρ' u S' (itrep_range i _) q.2⟩⟩
theorem get_zipWith {α β γ : Type} {f : α → β → γ} {xs : List α} {ys : List β} {i : Nat} {z : γ} (h : (List.zipWith f xs ys)[i]? = some z) : ∃ x y, xs[i]? = some x ∧ ys[i]? = some y ∧ z = f x y := by
  rw [List.getElem?_zipWith] at h
  cases e1 : xs[i]? with
  | none => rw [e1] at h; simp at h
  | some x =>
    cases e2 : ys[i]? with
    | none => rw [e1, e2] at h; simp at h
    | some y => rw [e1, e2] at h; exact ⟨x, y, rfl, rfl, by simpa using h.symm⟩
def zipD (xs ys : List D) : List D := List.zipWith (fun x y => .tup [x, y]) xs ys
theorem itrep_z2 {K : PySem.W.Frag} {F : Hp} {k1 k2 : Bool} {a b : Addr} {vs ws : List V} {xs ys : List D} (h1 : F a = some (if k1 = true then .lst vs else .tup vs)) (h2 : F b = some (if k2 = true then .lst ws else .tup ws)) (r1 : Reps K F vs xs) (r2 : Reps K F ws ys) : ItRep K (ItZ2 K k1 a k2 b) F (zipD xs ys) := fun F' H e1 e2 => by
  have s1 : SqK K k1 H a vs := sqk_of (e2 _ _ (e1 _ _ h1))
  have s2 : SqK K k2 H b ws := sqk_of (e2 _ _ (e1 _ _ h2))
  refine ⟨fun i d hd => ?_, ⟨vs, ws, s1, s2, by simp [zipD, r1.length, r2.length]⟩⟩
  obtain ⟨x, y, hx, hy, rfl⟩ := get_zipWith hd
  obtain ⟨v, hv, rv⟩ := r1.get hx
  obtain ⟨w, hw, rw'⟩ := r2.get hy
  refine ⟨⟨vs, ws, v, w, s1, s2, hv, hw⟩, fun z H' q => ?_⟩
  obtain ⟨T, v', w', rfl, hT, rfl, f1, f2⟩ := q
  have ev : v' = v := Option.some.inj ((f1 _ s1).symm.trans hv)
  have ew : w' = w := Option.some.inj ((f2 _ s2).symm.trans hw)
  subst ev ew
  have hn : F' T = none := e2.free hT
  exact ⟨_, .new hT (.tup upd_same (.cons ((rv.mono e1).mono (same_new hn)) (.cons ((rw'.mono e1).mono (same_new hn)) .nil)))⟩
def jZ2 (T : TAp) : TAp := fun ρ Q => T ρ fun ds ρ1 => match ds with | [x, y] => asSeq x fun xs => asSeq y fun ys => Q (zipD xs ys) ρ1 | _ => False
theorem ppi_z2 {e e2 : Expr} {ta : TA} {TA' : TAp} {p tpos : Pos} {elts : List Expr} {kk : Nat} (hg : Gl X "zip") (hm : X.mg "zip" = none) (ha : PPA X [e, e2] ta TA')
    (hs : starEach [e, e2] X.env = (false, eval e X.env) :: starEach [e2] X.env := by rfl) (hpl : (backTo pos (starEach [e2] X.env)).any (·.1) = false := by rfl) :
    PPI X (.Tuple elts kk tpos) (.Call (.Name "zip" p) [e, e2] [] pos) (iZ2 X.K ta) (jZ2 TA') := ⟨pi_z2 hg hm ha.pa hs hpl, fun G F H σ ρ Q R S h k =>
  ha.snd G F H σ ρ _ _ S h fun vs ds F' H' ρ' u S' rv q => by
    match ds, rv, q with
    | [x, y], .cons rx (.cons ry .nil), q =>
      obtain ⟨a, k1, ws, xs, rfl, h1, r1, q⟩ := rx.seq q
      obtain ⟨b, k2, zs, ys, rfl, h2, r2, q⟩ := ry.seq q
      exact ⟨k1, k2, a, b, ws, zs, rfl, sqk_of (S'.hF _ _ h1), sqk_of (S'.hF _ _ h2), k _ _ F' H' ρ' u S' (itrep_z2 h1 h2 r1 r2) q⟩⟩
def enumD (n : Nat) : List D → List D
  | [] => []
  | x :: xs => .tup [.int n, x] :: enumD (n + 1) xs
theorem enumD_get : ∀ {xs : List D} {n i : Nat} {d : D}, (enumD n xs)[i]? = some d → ∃ x, xs[i]? = some x ∧ d = .tup [.int (n + i : Nat), x]
  | x :: xs, n, 0, d, h => ⟨x, rfl, (Option.some.inj h).symm⟩
  | x :: xs, n, i + 1, d, h => by
    obtain ⟨a, h1, h2⟩ := enumD_get (xs := xs) (n := n + 1) (i := i) (d := d) h
    exact ⟨a, h1, by rw [h2, show n + 1 + i = n + (i + 1) by omega]⟩
  | [], _, _, _, h => by simp [enumD] at h
theorem enumD_len : ∀ (xs : List D) (n : Nat), (enumD n xs).length = xs.length
  | [], _ => rfl
  | x :: xs, n => by simp [enumD, enumD_len xs (n + 1)]
end
def forW (g : TGp) (tb : TSp) (P : PEnds) : List D → Ro → Prop
  | [], ρ => P.nx ρ
  | d :: ds, ρ => g d ρ fun ρ1 => tb { P with nx := forW g tb P ds, ct := forW g tb P ds, bk := P.nx } ρ1
def pFor (Ti : TAp) (g : TGp) (tb : TSp) : TSp := fun P ρ => Ti ρ fun ds ρ1 => forW g tb P ds ρ1
theorem snd_for {K : PySem.W.Frag} {wi : TI} {Ti : TAp} {g : TG} {Gp : TGp} {is : List Nat} {tb : TS} {Tb : TSp} (hi : SndI K wi Ti) (hg : SndG K g Gp is) (hb : SndS K tb Tb) : SndS K (tFor wi g tb) (pFor Ti Gp Tb) := fun G F H σ ρ P D S h r =>
  hi G F H σ ρ _ _ S h fun J ds F1 H1 ρ1 u1 S1 J1 w1 => by
    refine ⟨fun i m σ' H' => m + i = ds.length ∧ ∃ F' ρ', Up G F1 F' ∧ Sim K G F' H' σ' ρ' ∧ forW Gp Tb P (ds.drop i) ρ', ⟨ds.length, by omega, F1, ρ1, .refl _ _, S1, w1⟩, fun i m σ' H' hW => ?_⟩
    obtain ⟨hm, F', ρ', u', S', w'⟩ := hW
    have J' := J1 F' H' u'.ex S'.hF
    by_cases hlt : i < ds.length
    · refine .inr ⟨(J'.1 i ds[i] (List.getElem?_eq_getElem hlt)).1, fun σ'' H'' => ∃ F'' ρ'', Up G F1 F'' ∧ Sim K G F'' H'' σ'' ρ'' ∧ forW Gp Tb P (ds.drop (i + 1)) ρ'', fun σ'' H'' q => ⟨m - 1, by omega, by omega, q⟩, fun x H'' hy => ?_⟩
      obtain ⟨F2, res⟩ := (J'.1 i ds[i] (List.getElem?_eq_getElem hlt)).2 x H'' hy
      obtain ⟨u2, S2, r2⟩ := S'.res res
      rw [List.drop_eq_getElem_cons hlt] at w'
      refine hg G F2 H'' σ' ρ' _ _ x _ S2 r2 w' fun F3 H3 σ3 ρ3 u3 S3 _ _ q3 => hb G F3 H3 σ3 ρ3 _ _ S3 q3 ?_
      have up := (u'.trans u2).trans u3
      exact ⟨fun F4 H4 σ4 ρ4 u4 S4 q4 => ⟨F4, ρ4, up.trans u4, S4, q4⟩, fun F4 H4 σ4 ρ4 v c u4 S4 q4 => r.rt F4 H4 σ4 ρ4 v c (u1.trans (up.trans u4)) S4 q4,
        fun F4 H4 σ4 ρ4 u4 S4 q4 => r.nx F4 H4 σ4 ρ4 (u1.trans (up.trans u4)) S4 q4, fun F4 H4 σ4 ρ4 u4 S4 q4 => ⟨F4, ρ4, up.trans u4, S4, q4⟩⟩
    · have e : i = ds.length := by omega
      subst e
      rw [List.drop_length] at w'
      exact .inl ⟨J'.2, r.nx F' H' σ' ρ' (u1.trans u') S' w'⟩
theorem pps_for {X : Cx} {tg iter : Expr} {body : List Stmt} {wi : TI} {Ti : TAp} {g : TG} {Gp : TGp} {is : List Nat} {tb : TS} {Tb : TSp} {pos : Pos} (hp : PassesOwn (model X.prog X.w) X.A X.env X.xe) (hc : X.calm = true) (hi : PPI X tg iter wi Ti) (hg : PTg X tg g Gp is) (hb : PPSs X body tb Tb)
    (hs : ∀ x, foldedSetIterable iter X.env x = pure x := by intro _; rfl) : PPS X (.For tg iter body [] pos) (tFor wi g tb) (pFor Ti Gp Tb) := ⟨ps_for hp hc hi.pi hg.pg hb.ps hs, snd_for hi.snd hg.snd hb.snd⟩
end Pl
namespace Pl
open PySem PySem.Spec PyProof.Rows L2
variable [TJ]
def valOnly : Option (Option Cell) → Option Cell
  | some (some (.val d)) => some (.val d)
  | _ => none
def wipeP (ρ : Ro) : List Nat → Ro
  | [] => ρ
  | v :: vs => (wipeP ρ vs).set v none
def restore (ρ0 ρ : Ro) : List Nat → Ro
  | [] => ρ
  | v :: vs => (restore ρ0 ρ vs).set v (valOnly ρ0[v]?)
theorem wipe_get {σ : L2.St} : ∀ {vs : List Nat} {j : Nat}, (wipe σ vs)[j]? = if j ∈ vs ∧ j < σ.length then some none else σ[j]?
  | [], j => by simp [wipe]
  | v :: vs, j => by
    show ((wipe σ vs).set v none)[j]? = _
    by_cases h : v = j
    · subst h
      by_cases hl : v < σ.length
      · rw [List.getElem?_set_self (by rw [wipe_length]; exact hl), if_pos ⟨by simp, hl⟩]
      · rw [List.getElem?_eq_none (by simp [wipe_length]; omega), if_neg (fun q => hl q.2), List.getElem?_eq_none (by omega)]
    · rw [List.getElem?_set_ne h, wipe_get]
      have e : (j ∈ v :: vs) ↔ j ∈ vs := by
        constructor
        · intro q
          rcases List.mem_cons.mp q with q | q
          · exact absurd q.symm h
          · exact q
        · exact List.mem_cons_of_mem _
      simp only [e]
theorem wipe_eq {σ σ2 : L2.St} {vs : List Nat} (hl : σ2.length = σ.length) (h : ∀ j, j ∉ vs → σ2[j]? = (wipe σ vs)[j]?) : wipe σ2 vs = wipe σ vs := by
  apply List.ext_getElem?
  intro j
  rw [wipe_get, wipe_get]
  by_cases hj : j ∈ vs
  · by_cases hlt : j < σ.length
    · rw [if_pos ⟨hj, by omega⟩, if_pos ⟨hj, hlt⟩]
    · rw [if_neg (fun q => hlt (by omega)), if_neg (fun q => hlt q.2), List.getElem?_eq_none (by omega), List.getElem?_eq_none (by omega)]
  · have e := h j hj
    rw [wipe_get, if_neg (fun q => hj q.1)] at e
    rw [if_neg (fun q => hj q.1), if_neg (fun q => hj q.1)]
    exact e
section
variable {K : PySem.W.Frag} {G F H : Hp} {σ : L2.St} {ρ : Ro}
theorem Sim.wipe (S : Sim K G F H σ ρ) : ∀ vs : List Nat, Sim K G F H (L2.wipe σ vs) (wipeP ρ vs)
  | [] => S
  | v :: vs => (Sim.wipe S vs).forget v none
theorem Sim.updFree (S : Sim K G F H σ ρ) {p : Addr} {vs ws : List V} (hH : H p = some (.lst vs)) (hF : F p = none) (hG : G p = none) (hn : NotOwn ρ p) : Sim K G F (upd H p (.lst ws)) σ ρ where
  hF := fun a x e => by rw [upd_ne (ne_of_none e hF)]; exact S.hF a x e
  hG := S.hG.mut hG hH
  len := S.len
  val := S.val
  own := fun i a xs e => by
    obtain ⟨h1, h2, h3, vs, h4, h5⟩ := S.own i a xs e
    have q : a ≠ p := fun z => by subst z; exact hn.1 i xs e
    exact ⟨h1, h2, h3, vs, by rw [upd_ne q]; exact h4, h5⟩
  ne := S.ne
  bx := S.bx.upd' hn.2
theorem Sim.guard (S : Sim K G F H σ ρ) {p : Addr} {vs : List V} (hH : H p = some (.lst vs)) (hn : NotOwn ρ p) : Sim K (upd G p (.lst vs)) F H σ ρ where
  hF := S.hF
  hG := S.hG.guard hH
  len := S.len
  val := S.val
  own := fun i a xs e => by
    obtain ⟨h1, h2, h3, h4⟩ := S.own i a xs e
    have q : a ≠ p := fun z => by subst z; exact hn.1 i xs e
    exact ⟨h1, h2, by rw [upd_ne q]; exact h3, h4⟩
  ne := S.ne
  bx := S.bx.guard hn.2
theorem Sim.unguard {G' : Hp} (S : Sim K G' F H σ ρ) (h : Same G G') : Sim K G F H σ ρ where
  hF := S.hF
  hG := S.hG.less h
  len := S.len
  val := S.val
  own := fun i a xs e => by
    obtain ⟨h1, h2, h3, h4⟩ := S.own i a xs e
    exact ⟨h1, h2, h.free h3, h4⟩
  ne := S.ne
  bx := S.bx.unguard h
theorem restore_len (ρ0 ρ : Ro) : ∀ vs : List Nat, (restore ρ0 ρ vs).length = ρ.length
  | [] => rfl
  | v :: vs => by simp [restore, restore_len ρ0 ρ vs]
theorem restore_get {ρ0 ρ : Ro} {c : Cell} : ∀ {vs : List Nat} {j : Nat}, (restore ρ0 ρ vs)[j]? = some (some c) → (j ∈ vs ∧ ∃ d, c = .val d ∧ ρ0[j]? = some (some (.val d))) ∨ (j ∉ vs ∧ ρ[j]? = some (some c))
  | [], j, h => .inr ⟨by simp, h⟩
  | v :: vs, j, h => by
    by_cases hv : v = j
    · subst hv
      refine .inl ⟨by simp, ?_⟩
      have hl : v < (restore ρ0 ρ vs).length := by
        have := lt_of_get h
        simpa [restore] using this
      have h' : ((restore ρ0 ρ vs).set v (valOnly ρ0[v]?))[v]? = some (some c) := h
      rw [List.getElem?_set_self hl] at h'
      have h'' : valOnly ρ0[v]? = some c := Option.some.inj h'
      cases e : ρ0[v]? with
      | none => rw [e] at h''; cases h''
      | some x =>
        rw [e] at h''
        cases x with
        | none => cases h''
        | some y =>
          cases y with
          | val d => cases h''; exact ⟨d, rfl, rfl⟩
          | own a xs => cases h''
          | box t => cases h''
    · have h' : ((restore ρ0 ρ vs).set v (valOnly ρ0[v]?))[j]? = some (some c) := h
      rw [List.getElem?_set_ne hv] at h'
      rcases restore_get h' with ⟨q, r⟩ | ⟨q, r⟩
      · exact .inl ⟨List.mem_cons_of_mem _ q, r⟩
      · refine .inr ⟨fun z => ?_, r⟩
        rcases List.mem_cons.mp z with z | z
        · exact hv z.symm
        · exact q z
theorem Sim.restore {G' F1 H1 : Hp} {σ2 : L2.St} {ρ2 : Ro} {vs : List Nat} (S : Sim K G F H σ ρ) (S2 : Sim K G' F1 H1 σ2 ρ2) (hG : Same G G') (hF : Same F F1) (hl : σ2.length = σ.length) (hj : ∀ j, j ∉ vs → σ2[j]? = σ[j]?) : Sim K G F1 H1 σ (restore ρ ρ2 vs) where
  hF := S2.hF
  hG := S2.hG.less hG
  len := by rw [restore_len, ← S2.len, hl]
  val := fun i d e => by
    rcases restore_get e with ⟨q, d', e', r⟩ | ⟨q, r⟩
    · cases e'
      obtain ⟨v, h1, h2⟩ := S.val i d r
      exact ⟨v, h1, h2.mono hF⟩
    · obtain ⟨v, h1, h2⟩ := S2.val i d r
      exact ⟨v, (hj i q).symm.trans h1, h2⟩
  own := fun i a xs e => by
    rcases restore_get e with ⟨q, d', e', r⟩ | ⟨q, r⟩
    · cases e'
    · obtain ⟨h1, h2, h3, h4⟩ := S2.own i a xs r
      exact ⟨(hj i q).symm.trans h1, h2, hG.free h3, h4⟩
  ne := fun i j a xs ys e1 e2 => by
    rcases restore_get e1 with ⟨_, _, e', _⟩ | ⟨_, r1⟩
    · cases e'
    · rcases restore_get e2 with ⟨_, _, e', _⟩ | ⟨_, r2⟩
      · cases e'
      · exact S2.ne i j a xs ys r1 r2
  bx := S2.bx.to (.refl _) (fun p m => ⟨(S2.bx.free m).1, hG.free (S2.bx.free m).2.1, rfl⟩) (fun i s e => by
    rcases restore_get e with ⟨_, _, e', _⟩ | ⟨q, r⟩
    · cases e'
    · exact ⟨r, (hj i q).symm⟩) fun i a xs e => by
    rcases restore_get e with ⟨_, _, e', _⟩ | ⟨q, r⟩
    · cases e'
    · exact .inl ⟨i, xs, r⟩
theorem restore_box {ρ0 ρ : Ro} {vs : List Nat} {p : Addr} : InBox (restore ρ0 ρ vs) p → InBox ρ p := fun ⟨i, s, e, m⟩ => by
  rcases restore_get e with ⟨_, _, e', _⟩ | ⟨q, r⟩
  · cases e'
  · exact ⟨i, s, r, m⟩
end
def lcW (vs : List Nat) (g : TGp) (tt : TTp) (te : TEp) (Q : List D → Ro → Prop) : List D → List D → Ro → Prop
  | [], acc, ρ => Q acc ρ
  | d :: ds, acc, ρ => g d (wipeP ρ vs) fun ρ2 => tt ρ2 fun b ρ3 => if b = true then te ρ3 fun y ρ4 => acc.length < sizeLine ∧ lcW vs g tt te Q ds (acc ++ [y]) (restore ρ ρ4 vs) else lcW vs g tt te Q ds acc (restore ρ ρ3 vs)
def pLcO (Ti : TAp) (g : TGp) (tt : TTp) (te : TEp) (vs : List Nat) : TCp := fun ρ Q => Ti ρ fun ds ρ1 => lcW vs g tt te (fun acc ρ2 => ∀ a, Q (.own a acc) ρ2) ds [] ρ1
def pLc (Ti : TAp) (g : TGp) (tt : TTp) (te : TEp) (vs : List Nat) : TEp := fun ρ Q => Ti ρ fun ds ρ1 => lcW vs g tt te (fun acc ρ2 => Q (.lst acc) ρ2) ds [] ρ1
theorem snd_lc {K : PySem.W.Frag} {wi : TI} {Ti : TAp} {g : TG} {Gp : TGp} {is : List Nat} {tt : TT} {Tt : TTp} {te : TE} {Te : TEp} {vs : List Nat} (hi : SndI K wi Ti) (hg : SndG K g Gp is) (ht : SndT K tt Tt) (he : SndE K te Te) (hsub : ∀ i ∈ is, i ∈ vs) : SndC K (tLc wi g tt te vs) (pLcO Ti Gp Tt Te vs) := fun G F H σ ρ Q R S h k =>
  hi G F H σ ρ _ _ S h fun J ds F1 H1 ρ1 u1 S1 J1 w1 => fun D hD => by
    refine ⟨fun i m H' => m + i = ds.length ∧ ∃ F' ρ' acc, Up G F1 F' ∧ Sim K G F' H' (σ ++ [some (.ref D)]) (ρ' ++ [some (.own D acc)]) ∧ lcW vs Gp Tt Te (fun acc ρ2 => ∀ a, Q (.own a acc) ρ2) (ds.drop i) acc ρ', ⟨ds.length, by omega, F1, ρ1, [], .refl _ _, S1.newOwn hD .nil, w1⟩, fun i m H' hW => ?_⟩
    obtain ⟨hm, F', ρ', acc, u', S0, w'⟩ := hW
    have S' := S0.drop
    obtain ⟨_, hFD, hGD, hnD, av, hHD, rD⟩ := S0.lastOwn
    have J' := J1 F' H' u'.ex S'.hF
    by_cases hlt : i < ds.length
    · refine .inr ⟨(J'.1 i ds[i] (List.getElem?_eq_getElem hlt)).1, fun H'' => ∃ F'' ρ'' acc, Up G F1 F'' ∧ Sim K G F'' H'' (σ ++ [some (.ref D)]) (ρ'' ++ [some (.own D acc)]) ∧ lcW vs Gp Tt Te (fun acc ρ2 => ∀ a, Q (.own a acc) ρ2) (ds.drop (i + 1)) acc ρ'', fun H'' q => ⟨m - 1, by omega, by omega, q⟩, fun x H'' hy => ?_⟩
      obtain ⟨F2, res⟩ := (J'.1 i ds[i] (List.getElem?_eq_getElem hlt)).2 x H'' hy
      have Sg : Sim K (upd G D (.lst av)) F' H' σ ρ' := S'.guard hHD hnD
      obtain ⟨u2, S2, r2⟩ := Sg.res res
      have hGG : Same G (upd G D (.lst av)) := same_new hGD
      rw [List.drop_eq_getElem_cons hlt] at w'
      refine hg (upd G D (.lst av)) F2 H'' (wipe σ vs) (wipeP ρ' vs) _ _ x _ (S2.wipe vs) r2 w' fun F3 H3 σ3 ρ3 u3 S3 o3 l3 q3 => ?_
      have hl3 : σ3.length = σ.length := by rw [l3, wipe_length]
      have ho3 : ∀ j, j ∉ vs → σ3[j]? = (wipe σ vs)[j]? := fun j hj => o3 j fun z => hj (hsub j z)
      have hoσ : ∀ j, j ∉ vs → σ3[j]? = σ[j]? := fun j hj => by rw [ho3 j hj, wipe_get, if_neg (fun q => hj q.1)]
      refine ⟨wipe_eq hl3 ho3, ht (upd G D (.lst av)) F3 H3 σ3 ρ3 _ _ S3 q3 fun b F4 H4 ρ4 u4 S4 q4 => ?_⟩
      cases b with
      | true =>
        refine ite_ti (he (upd G D (.lst av)) F4 H4 σ3 ρ4 _ _ S4 (ite_t q4) fun y dy F5 H5 ρ5 u5 S5 r5 q5 => ?_)
        have up := ((u2.trans u3).trans u4).trans u5
        have hH5 : H5 D = some (.lst av) := S5.hG D _ upd_same
        have hF5 : F5 D = none := up.isNone hFD upd_same
        have S6 : Sim K G F5 H5 σ (Pl.restore ρ' ρ5 vs) := S'.restore S5 hGG up.ex hl3 hoσ
        have hn6 : NotOwn (Pl.restore ρ' ρ5 vs) D := ⟨fun j xs e => (by
          rcases restore_get e with ⟨_, _, e', _⟩ | ⟨_, r⟩
          · cases e'
          · have := (S5.own j D xs r).2.2.1
            rw [upd_same] at this; cases this), fun m => S5.bx.notG upd_same (restore_box m)⟩
        have r6 : Reps K F5 (av ++ [y]) (acc ++ [dy]) := (rD.mono up.ex).append (.one r5)
        refine ⟨av, hH5, by rw [rD.length]; exact q5.1, F5, _, acc ++ [dy], u'.trans (up.less hGG), ?_, q5.2⟩
        exact (S6.updFree hH5 hF5 hGD hn6).pushOwn upd_same hF5 hGD hn6 r6
      | false =>
        refine ite_fi ⟨F4, _, acc, u'.trans (((u2.trans u3).trans u4).less hGG), ?_, ite_f q4⟩
        have up := (u2.trans u3).trans u4
        have hH4 : H4 D = some (.lst av) := S4.hG D _ upd_same
        have hF4 : F4 D = none := up.isNone hFD upd_same
        have S6 : Sim K G F4 H4 σ (Pl.restore ρ' ρ4 vs) := S'.restore S4 hGG up.ex hl3 hoσ
        have hn6 : NotOwn (Pl.restore ρ' ρ4 vs) D := ⟨fun j xs e => (by
          rcases restore_get e with ⟨_, _, e', _⟩ | ⟨_, r⟩
          · cases e'
          · have := (S4.own j D xs r).2.2.1
            rw [upd_same] at this; cases this), fun m => S4.bx.notG upd_same (restore_box m)⟩
        exact S6.pushOwn hH4 hF4 hGD hn6 (rD.mono up.ex)
    · have e : i = ds.length := by omega
      subst e
      rw [List.drop_length] at w'
      exact .inl ⟨J'.2, k _ _ F' H' ρ' (u1.trans u') S0 (w' D)⟩
structure PPTs (X : Cx) (ifs : List Expr) (t : TT) (T : TTp) : Prop where
  pt : PTs X ifs t
  snd : SndT X.K t T
def pYes : TTp := fun ρ Q => Q true ρ
theorem ppts_nil {X : Cx} : PPTs X [] tYes pYes := ⟨pts_nil, fun G F H σ ρ Q R S h k => k true F H ρ (.refl _ _) S h⟩
theorem ppts_one {X : Cx} {c : Expr} {t : TT} {T : TTp} (h : PPT X c t T) : PPTs X [c] t T := ⟨pts_one h.pt, h.snd⟩
section
variable {X : Cx} {elt tg iter : Expr} {ifs : List Expr} {scope : Scope} {own : List (Str × Nat)} {pos : Pos} {wi : TI} {Ti : TAp} {g : TG} {Gp : TGp} {is : List Nat} {tt : TT} {Tt : TTp} {te : TE} {Te : TEp} {vs : List Nat}
theorem ppc_lc (hc : X.calm = true) (hN : X.N.Nodup) (hi : PPI X tg iter wi Ti) (ok : BlkOk X.N X.env.scope scope own)
    (hg : ∀ (s : Shared) (H : Hp) (C : Addr) (cl : List (Str × Addr)) (fp : List Addr), PTg (X.blk s H scope (compEnvC scope cl C X.env) fp) tg g Gp is) (ht : ∀ (s : Shared) (H : Hp) (C : Addr) (cl : List (Str × Addr)) (fp : List Addr), PPTs (X.blk s H scope (compEnvC scope cl C X.env) fp) ifs tt Tt)
    (he : ∀ (s : Shared) (H : Hp) (C : Addr) (cl : List (Str × Addr)) (fp : List Addr), PPE (X.blk s H scope (compEnvC scope cl C X.env) fp) elt te Te) (hs : ∀ x, foldedSetIterable iter X.env x = pure x := by intro _; rfl) (hsub : ∀ i ∈ is, i ∈ own.map (·.2) := by decide) :
    PPC X (.ListComp elt [⟨tg, iter, ifs, 0⟩] scope pos) (tLc wi g tt te (own.map (·.2))) (pLcO Ti Gp Tt Te (own.map (·.2))) := by
  refine ⟨pe_lc hc hN hi.pi ok (fun s H C cl fp => (hg s H C cl fp).pg) (fun s H C cl fp => (ht s H C cl fp).pt) (fun s H C cl fp => (he s H C cl fp).pe) hs, ?_⟩
  exact snd_lc hi.snd (hg X.s_0 (fun _ => none) 0 [] []).snd (ht X.s_0 (fun _ => none) 0 [] []).snd (he X.s_0 (fun _ => none) 0 [] []).snd hsub
theorem snd_lcV {K : PySem.W.Frag} {t : TE} (h : SndC K t (pLcO Ti Gp Tt Te vs)) : SndE K t (pLc Ti Gp Tt Te vs) := fun G F H σ ρ Q R S hT k => h G F H σ ρ (fun c ρ' => Q c.froz ρ') R S (by
    unfold pLcO
    unfold pLc at hT
    have e : (fun (acc : List D) (ρ2 : Ro) => ∀ a : Addr, Q (Cell.froz (.own a acc)) ρ2) = fun acc ρ2 => Q (.lst acc) ρ2 := by
      funext acc ρ2
      exact propext ⟨fun q => q 0, fun q _ => q⟩
    show Ti ρ fun ds ρ1 => lcW vs Gp Tt Te (fun acc ρ2 => ∀ a : Addr, Q (Cell.froz (.own a acc)) ρ2) ds [] ρ1
    rw [e]
    exact hT) fun v c F' H' ρ' u S' q => by
  obtain ⟨F2, u2, S2, r2⟩ := S'.froz
  exact k v _ F2 H' ρ' (u.trans u2) S2 r2 q
theorem ppe_lc (hc : X.calm = true) (hN : X.N.Nodup) (hi : PPI X tg iter wi Ti) (ok : BlkOk X.N X.env.scope scope own)
    (hg : ∀ (s : Shared) (H : Hp) (C : Addr) (cl : List (Str × Addr)) (fp : List Addr), PTg (X.blk s H scope (compEnvC scope cl C X.env) fp) tg g Gp is) (ht : ∀ (s : Shared) (H : Hp) (C : Addr) (cl : List (Str × Addr)) (fp : List Addr), PPTs (X.blk s H scope (compEnvC scope cl C X.env) fp) ifs tt Tt)
    (he : ∀ (s : Shared) (H : Hp) (C : Addr) (cl : List (Str × Addr)) (fp : List Addr), PPE (X.blk s H scope (compEnvC scope cl C X.env) fp) elt te Te) (hs : ∀ x, foldedSetIterable iter X.env x = pure x := by intro _; rfl) (hsub : ∀ i ∈ is, i ∈ own.map (·.2) := by decide) :
    PPE X (.ListComp elt [⟨tg, iter, ifs, 0⟩] scope pos) (tLc wi g tt te (own.map (·.2))) (pLc Ti Gp Tt Te (own.map (·.2))) := by
  have h := ppc_lc (pos := pos) hc hN hi ok hg ht he hs hsub
  exact ⟨h.pe, snd_lcV h.snd⟩
theorem pps_setLc {i : Nat} {y : Str} {py spos : Pos} (hc : X.calm = true) (hN : X.N.Nodup) (hi : PPI X tg iter wi Ti) (ok : BlkOk X.N X.env.scope scope own)
    (hg : ∀ (s : Shared) (H : Hp) (C : Addr) (cl : List (Str × Addr)) (fp : List Addr), PTg (X.blk s H scope (compEnvC scope cl C X.env) fp) tg g Gp is) (ht : ∀ (s : Shared) (H : Hp) (C : Addr) (cl : List (Str × Addr)) (fp : List Addr), PPTs (X.blk s H scope (compEnvC scope cl C X.env) fp) ifs tt Tt)
    (he : ∀ (s : Shared) (H : Hp) (C : Addr) (cl : List (Str × Addr)) (fp : List Addr), PPE (X.blk s H scope (compEnvC scope cl C X.env) fp) elt te Te)
    (hy : X.N[i]? = some y := by rfl) (hyl : X.env.scope.names.lookup y = some .local := by rfl)
    (hsw : swapsWith (.ListComp elt [⟨tg, iter, ifs, 0⟩] scope pos) (some (.Name y py)) spos.line X.env = pure true := by exact sw_true rfl rfl rfl (by decide +kernel)) (hs : ∀ x, foldedSetIterable iter X.env x = pure x := by intro _; rfl) (hsub : ∀ i ∈ is, i ∈ own.map (·.2) := by decide) :
    PPS X (.Assign [.Name y py] (.ListComp elt [⟨tg, iter, ifs, 0⟩] scope pos) spos) (tAsg (tLc wi g tt te (own.map (·.2))) (gName i)) (pSet i (pLcO Ti Gp Tt Te (own.map (·.2)))) := by
  have h := ppc_lc (pos := pos) hc hN hi ok hg ht he hs hsub
  exact ⟨ps_setLc hc hN hy hyl hsw hi.pi ok (fun s H C cl fp => (hg s H C cl fp).pg) (fun s H C cl fp => (ht s H C cl fp).pt) (fun s H C cl fp => (he s H C cl fp).pe) hs, snd_set h.snd⟩
end
end Pl
namespace Pl
open PySem PySem.Spec PyProof.Rows L2
variable [TJ]
section
variable {X : Cx} {a b : Expr} {ta tb : TE} {Ta Tb : TEp} {pos : Pos}
theorem Reps.atI {K : PySem.W.Frag} {F : Hp} {vs : List V} {ds : List D} {i : Int} {d : D} (r : Reps K F vs ds) (h : atI ds i = some d) : ∃ v, L2.atI vs i = some v ∧ Rep K F v d := by
  unfold L2.atI at h ⊢
  rw [r.length]
  cases e : ixN ds.length i with
  | none => rw [e] at h; cases h
  | some j => rw [e] at h; exact r.get h
theorem atI_ints {ns : List Int} {i n : Int} (h : L2.atI ns i = some n) : L2.atI (ns.map V.int) i = some (V.int n) := by
  unfold L2.atI at h ⊢
  rw [List.length_map]
  cases e : ixN ns.length i with
  | none => rw [e] at h; cases h
  | some j =>
    rw [e] at h
    show (ns.map V.int)[j]? = some (V.int n)
    have h' : ns[j]? = some n := h
    rw [List.getElem?_map, h']; rfl
def rIxA (K : PySem.W.Frag) : R2 := fun x y H Q => rIxL K x y H Q ∨ (rIxT K x y H Q ∨ rIxS x y H Q)
theorem ix_any : IxR X (rIxA X.K) := IxR.or ix_list (IxR.or ix_tup ix_str)
def fIx : F2 := fun x y Q => match x, y with
  | .lst xs, .int i => ∃ v, atI xs i = some v ∧ Q v
  | .tup xs, .int i => ∃ v, atI xs i = some v ∧ Q v
  | .scr ns, .int i => ∃ n, atI ns i = some n ∧ Q (.int n)
  | .str z, .int i => z.length ≤ sizeLine ∧ ∃ c, atI z.cps.toList i = some c ∧ Q (.str ⟨#[c]⟩)
  | _, _ => False
theorem opp_ix {K : PySem.W.Frag} : OpP K (rIxA K) fIx := fun F H x y dx dy Q R hs rx ry hf k => by
  cases rx with
  | lst h1 r1 =>
    cases ry with
    | int i =>
      obtain ⟨d, e, q⟩ := hf
      obtain ⟨v, e', r⟩ := r1.atI e
      exact .inl ⟨_, _, i, v, rfl, rfl, SqL.of (hs _ _ h1), e', k _ _ _ _ (.old r) q⟩
    | _ => exact hf.elim
  | tup h1 r1 =>
    cases ry with
    | int i =>
      obtain ⟨d, e, q⟩ := hf
      obtain ⟨v, e', r⟩ := r1.atI e
      exact .inr (.inl ⟨_, _, i, v, rfl, rfl, SqT.of (hs _ _ h1), e', k _ _ _ _ (.old r) q⟩)
    | _ => exact hf.elim
  | scr h1 =>
    cases ry with
    | int i =>
      obtain ⟨n, e, q⟩ := hf
      exact .inl ⟨_, _, i, _, rfl, rfl, hs.seq h1, atI_ints e, k _ _ _ _ (.old (.int _)) q⟩
    | _ => exact hf.elim
  | str z =>
    cases ry with
    | int i =>
      obtain ⟨hz, c, e, q⟩ := hf
      exact .inr (.inr ⟨z, i, c, rfl, rfl, hz, e, k _ _ _ _ (.old (.str _)) q⟩)
    | _ => exact hf.elim
  | _ => exact hf.elim
theorem ppe_ix (ha : PPE X a ta Ta) (hb : PPE X b tb Tb) (hs : PlainIx b := by exact fun _ _ => rfl) : PPE X (.Subscript a b pos) (tOp (rIxA X.K) ta tb) (pOp fIx Ta Tb) := ⟨pe_ix ix_any ha.pe hb.pe hs, snd_op opp_ix ha.snd hb.snd⟩
def pIxO (i : Nat) (Tb : TEp) : TEp := fun ρ Q => match ρ[i]? with
  | some (some (.own a _)) => Tb ρ fun y ρ1 => ∃ xs1 k v, ρ1[i]? = some (some (.own a xs1)) ∧ y = .int k ∧ atI xs1 k = some v ∧ Q v ρ1
  | some (some (.val d)) => Tb ρ fun y ρ1 => fIx d y fun z => Q z ρ1
  | _ => False
theorem ppe_ixO (i : Nat) {x : Str} {p : Pos} (hb : PPE X b tb Tb) (hs : PlainIx b := by exact fun _ _ => rfl) (hN : X.N[i]? = some x := by rfl) (hv : Vis X.env.scope x := by first | exact Or.inl rfl | exact Or.inr (Or.inl rfl) | exact Or.inr (Or.inr rfl)) (hd : (x == ("__debug__" : Str)) = false := by decide)
    (hcd : (x == ("__classdict__" : Str)) = false := by decide) : PPE X (.Subscript (.Name x p) b pos) (tOp (rIxA X.K) (tVar i) tb) (pIxO i Tb) := ⟨pe_ix ix_any (pe_var hN hv hd hcd) hb.pe hs, fun G F H σ ρ Q R S hT k => by
  unfold pIxO at hT
  split at hT
  · rename_i a xs e
    refine ⟨.ref a, (S.own i a xs e).1, hb.snd G F H σ ρ _ _ S hT fun y dy F1 H1 ρ1 u1 S1 r1 q1 => ?_⟩
    obtain ⟨xs1, kk, v, e1, rfl, e2, q⟩ := q1
    obtain ⟨h1, h2, h3, vs, h4, h5⟩ := S1.own i a xs1 e1
    obtain ⟨w, ew, rw'⟩ := h5.atI e2
    cases r1
    exact .inl ⟨a, vs, kk, w, rfl, rfl, SqL.of h4, ew, k _ _ F1 H1 ρ1 u1 S1 rw' q⟩
  · rename_i d e
    obtain ⟨v, h1, h2⟩ := S.val i d e
    refine ⟨v, h1, hb.snd G F H σ ρ _ _ S hT fun y dy F1 H1 ρ1 u1 S1 r1 q1 => ?_⟩
    refine opp_ix F1 H1 v y d dy _ _ S1.hF (h2.mono u1.ex) r1 q1 fun w dw F2 H2 res q => ?_
    obtain ⟨u2, S2, r2⟩ := S1.res res
    exact k w dw F2 H2 ρ1 (u1.trans u2) S2 r2 q
  · exact hT.elim⟩
theorem Reps.cut {K : PySem.W.Frag} {F : Hp} {vs : List V} {ds : List D} (r : Reps K F vs ds) (lo hi : Option Int) : Reps K F (cutV vs lo hi) ((ds.drop (HT.sIx ds.length 0 lo)).take (HT.sIx ds.length ds.length hi - HT.sIx ds.length 0 lo)) := by
  unfold cutV
  rw [r.length]
  exact (r.drop _).take _
abbrev TOp := Ro → (Option Int → Ro → Prop) → Prop
def pNoPart : TOp := fun ρ Q => Q none ρ
def pPart (T : TEp) : TOp := fun ρ Q => T ρ fun x ρ1 => match x with | .int i => Q (some i) ρ1 | _ => False
def SndO (K : PySem.W.Frag) (t : TO) (T : TOp) : Prop := ∀ (G F H : Hp) (σ : L2.St) (ρ : Ro) (Q : Option Int → Ro → Prop) (R : Option Int → Hp → Prop), Sim K G F H σ ρ → T ρ Q →
  (∀ o F' H' ρ', Up G F F' → Sim K G F' H' σ ρ' → Q o ρ' → R o H') → t σ H R
structure PPO (X : Cx) (e : Option Expr) (t : TO) (T : TOp) : Prop where
  po : PO X e t
  snd : SndO X.K t T
theorem ppo_none : PPO X none tNoPart pNoPart := ⟨po_none, fun G F H σ ρ Q R S h k => k none F H ρ (.refl _ _) S h⟩
theorem ppo_some (h : PPE X a ta Ta) : PPO X (some a) (tPart ta) (pPart Ta) := ⟨po_some h.pe, fun G F H σ ρ Q R S hT k => h.snd G F H σ ρ _ _ S hT fun v d F' H' ρ' u S' r q => by
  cases r with
  | int i => exact ⟨i, rfl, k _ F' H' ρ' u S' q⟩
  | _ => exact q.elim⟩
abbrev FC := List D → (D → Prop) → Prop
theorem Reps.inv1 {K : PySem.W.Frag} {F : Hp} {vs : List V} {d : D} (r : Reps K F vs [d]) : ∃ v, vs = [v] ∧ Rep K F v d := by
  cases r with | cons h t => cases t; exact ⟨_, rfl, h⟩
theorem Rep.lstInv {K : PySem.W.Frag} {F : Hp} {v : V} {xs : List D} (r : Rep K F v (.lst xs)) : ∃ a vs, v = .ref a ∧ F a = some (.lst vs) ∧ Reps K F vs xs := by
  cases r with | lst e r => exact ⟨_, _, rfl, e, r⟩
theorem Rep.tupInv {K : PySem.W.Frag} {F : Hp} {v : V} {xs : List D} (r : Rep K F v (.tup xs)) : ∃ a vs, v = .ref a ∧ F a = some (.tup vs) ∧ Reps K F vs xs := by
  cases r with | tup e r => exact ⟨_, _, rfl, e, r⟩
theorem Rep.intInv {K : PySem.W.Frag} {F : Hp} {v : V} {i : Int} (r : Rep K F v (.int i)) : v = .int i := by cases r; rfl
theorem Rep.blInv {K : PySem.W.Frag} {F : Hp} {v : V} {i : Bool} (r : Rep K F v (.bl i)) : v = .bl i := by cases r; rfl
theorem Rep.strInv {K : PySem.W.Frag} {F : Hp} {v : V} {i : Str} (r : Rep K F v (.str i)) : v = .str i := by cases r; rfl
theorem Rep.scrInv {K : PySem.W.Frag} {F : Hp} {v : V} {ns : List Int} (r : Rep K F v (.scr ns)) : ∃ a, v = .ref a ∧ SqL K F a (ns.map V.int) := by cases r with | scr h => exact ⟨_, rfl, h⟩
def fLen : FC := fun ds Q => match ds with
  | [.lst xs] => Q (.int xs.length)
  | [.tup xs] => Q (.int xs.length)
  | [.scr ns] => Q (.int ns.length)
  | [.str z] => z.length ≤ sizeLine ∧ Q (.int z.length)
  | _ => False
def rLenA (K : PySem.W.Frag) : List V → Hp → VK → Prop := fun xs H Q => (∃ p ys, xs = [.ref p] ∧ (SqL K H p ys ∨ SqT K H p ys) ∧ Q (.int ys.length) H) ∨ (∃ z, xs = [.str z] ∧ z.length ≤ sizeLine ∧ Q (.int z.length) H)
theorem cr_lenA : CallR X (.builtin "len") (rLenA X.K) := CallR.or call_len_seq call_len_str
theorem cp_len {K : PySem.W.Frag} : CallP K (rLenA K) fLen := fun F H xs ds Q R hs r hf k => by
  unfold fLen at hf
  split at hf
  · obtain ⟨v, rfl, q1⟩ := r.inv1
    obtain ⟨a, vs, rfl, e, q2⟩ := q1.lstInv
    exact .inl ⟨a, vs, rfl, .inl (SqL.of (hs _ _ e)), by rw [q2.length]; exact k _ _ _ _ (.old (.int _)) hf⟩
  · obtain ⟨v, rfl, q1⟩ := r.inv1
    obtain ⟨a, vs, rfl, e, q2⟩ := q1.tupInv
    exact .inl ⟨a, vs, rfl, .inr (SqT.of (hs _ _ e)), by rw [q2.length]; exact k _ _ _ _ (.old (.int _)) hf⟩
  · obtain ⟨v, rfl, q1⟩ := r.inv1
    obtain ⟨a, rfl, e⟩ := q1.scrInv
    exact .inl ⟨a, _, rfl, .inl (hs.seq e), by rw [List.length_map]; exact k _ _ _ _ (.old (.int _)) hf⟩
  · obtain ⟨v, rfl, q1⟩ := r.inv1
    have := q1.strInv
    subst this
    exact .inr ⟨_, rfl, hf.1, k _ _ _ _ (.old (.int _)) hf.2⟩
  · exact hf.elim
def pLenO (i : Nat) : TEp := fun ρ Q => match ρ[i]? with
  | some (some (.own _ xs)) => Q (.int xs.length) ρ
  | some (some (.val d)) => fLen [d] fun z => Q z ρ
  | _ => False
theorem ppe_lenO (i : Nat) {x : Str} {p q : Pos} (hg : Gl X "len") (hm : X.mg "len" = none) (hN : X.N[i]? = some x := by rfl) (hv : Vis X.env.scope x := by first | exact Or.inl rfl | exact Or.inr (Or.inl rfl) | exact Or.inr (Or.inr rfl)) (hd : (x == ("__debug__" : Str)) = false := by decide)
    (hcd : (x == ("__classdict__" : Str)) = false := by decide) (he : starEach [.Name x q] X.env = [(false, eval (.Name x q) X.env)] := by rfl) : PPE X (.Call (.Name "len" p) [.Name x q] [] pos) (tCB (rLenA X.K) (tCons (tVar i) tNil)) (pLenO i) := ⟨pe_callB cr_lenA hg hm PySem.boot_len (pa_cons (pe_var hN hv hd hcd) pa_nil (by rw [he]; rfl)) (by decide) (by decide) (by rw [he]; rfl) rfl, fun G F H σ ρ Q R S hT k => by
  unfold pLenO at hT
  split at hT
  · rename_i a xs e
    obtain ⟨h1, h2, h3, vs, h4, h5⟩ := S.own i a xs e
    exact ⟨.ref a, h1, .inl ⟨a, vs, rfl, .inl (SqL.of h4), by rw [h5.length]; exact k _ _ F H ρ (.refl _ _) S (.int _) hT⟩⟩
  · rename_i d e
    obtain ⟨v, h1, h2⟩ := S.val i d e
    refine ⟨v, h1, ?_⟩
    refine cp_len F H [v] [d] _ _ S.hF (.cons h2 .nil) hT fun w dw F2 H2 res q => ?_
    obtain ⟨u2, S2, r2⟩ := S.res res
    exact k w dw F2 H2 ρ u2 S2 r2 q
  · exact hT.elim⟩
def iabs (i : Int) : Int := if i < 0 then -i else i
def fAbs : FC := fun ds Q => match ds with | [.int i] => Q (.int (iabs i)) | _ => False
theorem cp_abs {K : PySem.W.Frag} : CallP K (fun xs H Q => ∃ i, xs = [.int i] ∧ Q (.int (if i < 0 then -i else i)) H) fAbs := fun F H xs ds Q R hs r hf k => by
  unfold fAbs at hf
  split at hf
  · rw [r.int1]
    exact ⟨_, rfl, k _ _ _ _ (.old (.int _)) hf⟩
  · exact hf.elim
def fMin2 : FC := fun ds Q => match ds with | [.int i, .int j] => Q (.int (min i j)) | _ => False
theorem cp_min2 {K : PySem.W.Frag} : CallP K (fun xs H Q => ∃ i j, xs = [.int i, .int j] ∧ Q (.int (if j < i then j else i)) H) fMin2 := fun F H xs ds Q R hs r hf k => by
  unfold fMin2 at hf
  split at hf
  · rename_i i j
    rw [r.int2]
    refine ⟨i, j, rfl, ?_⟩
    rw [show (if j < i then j else i) = min i j by split <;> omega]
    exact k _ _ _ _ (.old (.int _)) hf
  · exact hf.elim
def fInt1 : FC := fun ds Q => match ds with
  | [.int i] => Q (.int i)
  | [.bl b] => Q (.int (if b = true then 1 else 0))
  | _ => False
theorem cp_int1 {K : PySem.W.Frag} : CallP K (fun xs H Q => (∃ i, xs = [.int i] ∧ Q (.int i) H) ∨ ∃ k, xs = [.bl k] ∧ Q (.int (if k then 1 else 0)) H) fInt1 := fun F H xs ds Q R hs r hf k => by
  unfold fInt1 at hf
  split at hf
  · rw [r.int1]; exact .inl ⟨_, rfl, k _ _ _ _ (.old (.int _)) hf⟩
  · obtain ⟨v, rfl, q1⟩ := r.inv1
    have := q1.blInv
    subst this
    exact .inr ⟨_, rfl, k _ _ _ _ (.old (.int _)) hf⟩
  · exact hf.elim
def fAll : FC := fun ds Q => match ds with | [.lst xs] => ∃ bs : List Bool, xs = bs.map D.bl ∧ Q (.bl (bs.all id)) | _ => False
theorem cp_all {K : PySem.W.Frag} : CallP K (rAll K) fAll := fun F H xs ds Q R hs r hf k => by
  unfold fAll at hf
  split at hf
  · obtain ⟨v, rfl, q1⟩ := r.inv1
    obtain ⟨a, vs, rfl, e, q2⟩ := q1.lstInv
    obtain ⟨bs, rfl, q⟩ := hf
    have := q2.bls
    subst this
    exact ⟨a, bs, rfl, SqL.of (hs _ _ e), k _ _ _ _ (.old (.bl _)) q⟩
  · exact hf.elim
end
section
variable {X : Cx} {e : Expr} {te : TE} {Te : TEp} {pos : Pos}
def pAppend (i : Nat) (Te : TEp) : TSp := fun P ρ => match ρ[i]? with
  | some (some (.own a _)) => Te ρ fun y ρ1 => ∃ xs1, ρ1[i]? = some (some (.own a xs1)) ∧ xs1.length < sizeLine ∧ P.nx (ρ1.set i (some (.own a (xs1 ++ [y]))))
  | _ => False
theorem pps_append (i : Nat) {x : Str} {p ap cp : Pos} (he : PPE X e te Te) (hN : X.N[i]? = some x := by rfl) (hv : Vis X.env.scope x := by first | exact Or.inl rfl | exact Or.inr (Or.inl rfl) | exact Or.inr (Or.inr rfl)) (hd : (x == ("__debug__" : Str)) = false := by decide)
    (hcd : (x == ("__classdict__" : Str)) = false := by decide)
    (hbase : attributeBase (.Name x p) "append" X.env (eval (.Name x p) X.env) = eval (.Name x p) X.env := by rfl)
    (hfew : ((backTo cp (starEach [e] X.env)).all (fun x => !x.1) && (backToKw cp (keywordEach [] X.env)).all (fun x => x.1.isSome)
      && decide ([e].length + ([] : List Keyword).length + (if ([] : List Keyword).isEmpty then 0 else 1) < 30)) = true := by rfl)
    (hline : (ap.endLine == cp.line) = true := by rfl) (hs : starEach [e] X.env = (false, eval e X.env) :: starEach [] X.env := by rfl)
    (hsw : swapsWith (.Call (.Attribute (.Name x p) "append" ap) [e] [] cp) none pos.line X.env = pure false := by rfl) :
    PPS X (.Expr (.Call (.Attribute (.Name x p) "append" ap) [e] [] cp) pos) (tDrop (tBM X.K "list" rAppend (tVar i) (tCons te tNil))) (pAppend i Te) := ⟨ps_expr (pe_bm PySem.F.plainAttrs_list PySem.F.slot_list_append PySem.F.type_list_append mt_append (pe_var hN hv hd hcd) (pa_cons he.pe pa_nil hs) hbase hfew hline hs rfl) hsw, fun G F H σ ρ P D S hT r => by
  unfold pAppend at hT
  split at hT
  · rename_i a xs e0
    obtain ⟨h1, h2, h3, vs, h4, h5⟩ := S.own i a xs e0
    refine ⟨.ref a, h1, .inl ⟨rfl, _, SqL.of h4⟩, he.snd G F H σ ρ _ _ S hT fun y dy F1 H1 ρ1 u1 S1 r1 q1 => ?_⟩
    obtain ⟨xs1, e1, hz, q⟩ := q1
    obtain ⟨g1, g2, g3, ws, g4, g5⟩ := S1.own i a xs1 e1
    exact ⟨a, ws, y, rfl, rfl, g4, by rw [g5.length]; exact hz, r.nx F1 _ _ _ u1 (S1.mut e1 (g5.append (.one r1))) q⟩
  · exact hT.elim⟩
def pStore (i : Nat) (Ti Te : TEp) : TSp := fun P ρ => Te ρ fun y ρ1 => match ρ1[i]? with
  | some (some (.own a _)) => Ti ρ1 fun k ρ2 => ∃ xs1 n j, ρ2[i]? = some (some (.own a xs1)) ∧ k = .int n ∧ ixN xs1.length n = some j ∧ P.nx (ρ2.set i (some (.own a (xs1.set j y))))
  | _ => False
theorem pps_store (i : Nat) {x : Str} {p sp : Pos} {ix : Expr} {ti : TE} {Ti : TEp} (hi : PPE X ix ti Ti) (he : PPE X e te Te) (hN : X.N[i]? = some x := by rfl) (hv : Vis X.env.scope x := by first | exact Or.inl rfl | exact Or.inr (Or.inl rfl) | exact Or.inr (Or.inr rfl)) (hd : (x == ("__debug__" : Str)) = false := by decide)
    (hcd : (x == ("__classdict__" : Str)) = false := by decide)
    (ha : ∀ v, assign (.Subscript (.Name x p) ix sp) X.env v = (do
      let ov ← holding [v] (eval (.Name x p) X.env)
      let iv ← holding [v, ov] (eval ix X.env)
      standAt sp
      holding [v, ov, iv] (setItem ov iv v)
      release [v, ov, iv] []) := by intro _; rfl)
    (hs : swapsWithSole [.Subscript (.Name x p) ix sp] e pos.line X.env = pure false := by rfl) (hw : swappedStores [.Subscript (.Name x p) ix sp] e X.env = pure none := by rfl)
    (h1 : (assignEach [.Subscript (.Name x p) ix sp] X.env).map (·.2) = [assign (.Subscript (.Name x p) ix sp) X.env] := by rfl) :
    PPS X (.Assign [.Subscript (.Name x p) ix sp] e pos) (tAsg te (gSub (tVar i) ti rSetL)) (pStore i Ti Te) := ⟨ps_asg he.pe (pg_sub (pe_var hN hv hd hcd) hi.pe set_list ha) hs hw h1, fun G F H σ ρ P D S hT r =>
  he.snd G F H σ ρ _ _ S hT fun y dy F1 H1 ρ1 u1 S1 r1 q1 => by
    have q1' : (match ρ1[i]? with
      | some (some (.own a _)) => Ti ρ1 fun k ρ2 => ∃ xs1 n j, ρ2[i]? = some (some (.own a xs1)) ∧ k = .int n ∧ ixN xs1.length n = some j ∧ P.nx (ρ2.set i (some (.own a (xs1.set j dy))))
      | _ => False) := q1
    split at q1'
    · rename_i a xs e0
      obtain ⟨h1, h2, h3, vs, h4, h5⟩ := S1.own i a xs e0
      refine ⟨.ref a, h1, hi.snd G F1 H1 σ ρ1 _ _ S1 q1' fun w dw F2 H2 ρ2 u2 S2 r2 q2 => ?_⟩
      obtain ⟨xs1, n, j, e1, rfl, ej, q⟩ := q2
      obtain ⟨g1, g2, g3, ws, g4, g5⟩ := S2.own i a xs1 e1
      have := r2.intInv
      subst this
      exact ⟨a, ws, n, j, rfl, rfl, g4, by rw [g5.length]; exact ej, r.nx F2 _ _ _ (u1.trans u2) (S2.mut e1 (g5.set (r1.mono u2.ex) j)) q⟩
    · exact q1'.elim⟩
end
end Pl
namespace Pl
open PySem PySem.Spec PyProof.Rows L2
abbrev FA := List D → (Cell → Prop) → Prop
abbrev FB := List D → List D → (Cell → List D → Prop) → Prop
def hide (H : Hp) (a : Addr) : Hp := fun b => if b = a then none else H b
theorem hide_same (H : Hp) (a : Addr) : Same (hide H a) H := fun b o e => by
  unfold hide at e
  by_cases h : b = a
  · rw [if_pos h] at e; cases e
  · rw [if_neg h] at e; exact e
theorem hide_ne {H : Hp} {a b : Addr} (h : b ≠ a) : hide H a b = H b := by unfold hide; rw [if_neg h]
theorem hide_at {H : Hp} {a : Addr} : hide H a a = none := by unfold hide; rw [if_pos rfl]
def spA (K : PySem.W.Frag) (n : Nat) (f : FA) : Sp := fun vs H Q _ => ∃ (F : Hp) (ds : List D) (C : Cell → Prop), vs.length = n ∧ Same F H ∧ Reps K F vs ds ∧ f ds C ∧
  ∀ v c F' H', Up H F F' → SimR K H F' H' [some v] [some c] → C c → Q v H'
def spB (K : PySem.W.Frag) (n : Nat) (f : FB) : Sp := fun vs H Q _ => ∃ (F : Hp) (a : Addr) (us : List V) (xs : List D) (ws : List V) (ds : List D) (C : Cell → List D → Prop), vs = .ref a :: ws ∧ vs.length = n ∧ Same F H ∧ F a = none ∧ H a = some (.lst us) ∧ Reps K F us xs ∧ Reps K F ws ds ∧ f xs ds C ∧
  ∀ v c xs' F' H', Up (hide H a) F F' → SimR K (hide H a) F' H' [some (.ref a), some v] [some (.own a xs'), some c] → C c xs' → Q v H'
theorem get_one {α : Type} {x y : α} {i : Nat} (h : [x][i]? = some y) : i = 0 ∧ x = y := by
  cases i with
  | zero => exact ⟨rfl, Option.some.inj h⟩
  | succ i => simp at h
section
variable [TJ]
theorem Sim.only {K : PySem.W.Frag} {G F H : Hp} {σ : L2.St} {ρ : Ro} {v : V} {c : Cell} (S : Sim K G F H (σ ++ [some v]) (ρ ++ [some c])) : SimR K G F H [some v] [some c] := by
  refine ⟨S.hF, S.hG.same, rfl, fun i d h => ?_, fun i a xs h => ?_, fun i j a xs ys h1 h2 => ?_, fun i s h => ?_, fun i j s t p h1 h2 _ _ => (get_one h1).1.trans (get_one h2).1.symm, fun j a xs h ⟨i, s, e, _⟩ => ?_⟩
  · obtain ⟨rfl, e⟩ := get_one h
    cases e
    exact ⟨v, rfl, S.lastVal⟩
  · obtain ⟨rfl, e⟩ := get_one h
    cases e
    obtain ⟨rfl, h2, h3, h4, h5⟩ := S.lastOwn
    exact ⟨rfl, h2, h3, h5⟩
  · rw [(get_one h1).1, (get_one h2).1]
  · obtain ⟨rfl, e⟩ := get_one h
    cases e
    obtain ⟨rfl, h2, h3, h4⟩ := S.lastBox
    exact ⟨rfl, h2, h3⟩
  · have h1 := (get_one h).2
    have h2 := (get_one e).2
    rw [h1] at h2
    cases h2
theorem Sim.only2 {K : PySem.W.Frag} {G F H : Hp} {σ : L2.St} {ρ : Ro} {v : V} {c : Cell} {a : Addr} {xs : List D} {i : Nat} (S : Sim K G F H (σ ++ [some v]) (ρ ++ [some c])) (e : ρ[i]? = some (some (.own a xs))) : SimR K G F H [some (.ref a), some v] [some (.own a xs), some c] := by
  obtain ⟨h1, h2, h3, vs, h4, h5⟩ := S.drop.own i a xs e
  have hn : ∀ (b : Addr) (ys : List D), c = .own b ys → b ≠ a := fun b ys z w => by
    subst z w
    exact S.lastOwn.2.2.2.1.1 i xs e
  refine ⟨S.hF, S.hG.same, rfl, fun i d h => ?_, fun i b ys h => ?_, fun i j b ys zs q1 q2 => ?_, fun i s h => ?_, fun i j s t p q1 q2 _ _ => ?_, fun j b ys q ⟨k, s, e2, m⟩ => ?_⟩
  · match i, h with
    | 1, h => have e' : c = .val d := Option.some.inj (Option.some.inj h); subst e'; exact ⟨v, rfl, S.lastVal⟩
  · match i, h with
    | 0, h => cases h; exact ⟨rfl, h2, h3, vs, h4, h5⟩
    | 1, h =>
      have e' : c = .own b ys := Option.some.inj (Option.some.inj h)
      subst e'
      obtain ⟨rfl, g2, g3, g4, g5⟩ := S.lastOwn
      exact ⟨rfl, g2, g3, g5⟩
  · match i, j, q1, q2 with
    | 0, 0, _, _ => rfl
    | 1, 1, _, _ => rfl
    | 0, 1, q1, q2 => cases q1; exact absurd rfl (hn _ zs (Option.some.inj (Option.some.inj q2)))
    | 1, 0, q1, q2 => cases q2; exact absurd rfl (hn _ ys (Option.some.inj (Option.some.inj q1)))
  · match i, h with
    | 1, h =>
      have e' : c = .box s := Option.some.inj (Option.some.inj h)
      subst e'
      obtain ⟨rfl, g2, g3, g4⟩ := S.lastBox
      exact ⟨rfl, g2, g3⟩
  · match i, j, q1, q2 with
    | 1, 1, _, _ => rfl
  · match k, e2 with
    | 1, e2 =>
      have e' : c = .box s := Option.some.inj (Option.some.inj e2)
      subst e'
      obtain ⟨rfl, g2, g3, g4⟩ := S.lastBox
      match j, q with
      | 0, q => cases q; exact (g4 a m).1 _ xs e
      | 1, q => cases q
theorem Sim.afterA {K : PySem.W.Frag} {G F H F' H' : Hp} {σ : L2.St} {ρ : Ro} {v : V} {c : Cell} (S : Sim K G F H σ ρ) (u : Up H F F') (S' : SimR K H F' H' [some v] [some c]) : Sim K G F' H' (σ ++ [some v]) (ρ ++ [some c]) := by
  have base : Sim K G F' H' σ ρ := by
    refine ⟨S'.hF, S.hG.up S'.hG u.out, S.len, fun i d h => ?_, fun i a xs h => ?_, S.ne, S.bx.heap u.ex fun p m => let ⟨f, g, o, e⟩ := S.bx.free m; ⟨u.isNone f e, g, (S'.hG _ _ e).trans e.symm⟩⟩
    · obtain ⟨w, h1, h2⟩ := S.val i d h
      exact ⟨w, h1, h2.mono u.ex⟩
    · obtain ⟨h1, h2, h3, vs, h4, h5⟩ := S.own i a xs h
      exact ⟨h1, u.isNone h2 h4, h3, vs, S'.hG _ _ h4, h5.mono u.ex⟩
  cases c with
  | val d =>
    obtain ⟨w, h1, h2⟩ := S'.val 0 d rfl
    cases h1
    exact base.pushVal h2
  | own a xs =>
    obtain ⟨h1, h2, h3, vs, h4, h5⟩ := S'.own 0 a xs rfl
    cases h1
    exact base.pushOwn h4 h2 (S.hG.free h3) (S.notOwn h3) h5
  | box s =>
    obtain ⟨h1, h2, h3⟩ := S'.bx.box 0 s rfl
    cases h1
    exact base.pushBox (fun p m => ⟨(h2 p m).1, S.hG.free (h2 p m).2⟩) h3 fun p m => S.notOwn (h2 p m).2
theorem Sim.afterB {K : PySem.W.Frag} {G F H F' H' : Hp} {σ : L2.St} {ρ : Ro} {v : V} {c : Cell} {i : Nat} {a : Addr} {xs xs' : List D} (S : Sim K G F H σ ρ) (e : ρ[i]? = some (some (.own a xs))) (u : Up (hide H a) F F') (S' : SimR K (hide H a) F' H' [some (.ref a), some v] [some (.own a xs'), some c]) : Sim K G F' H' (σ ++ [some v]) (ρ.set i (some (.own a xs')) ++ [some c]) := by
  obtain ⟨h1, h2, h3, vs, h4, h5⟩ := S.own i a xs e
  have hi := lt_of_get e
  obtain ⟨_, g2, g3, ws, g4, g5⟩ := S'.own 0 a xs' rfl
  have other : ∀ (j : Nat) (b : Addr) (ys : List D), ρ[j]? = some (some (.own b ys)) → j ≠ i → b ≠ a := fun j b ys q hj z => by
    subst z; exact hj (S.ne _ _ _ _ _ q e)
  have far : ∀ (j : Nat) (x : Cell), (ρ.set i (some (.own a xs')))[j]? = some (some x) → (j = i ∧ x = .own a xs') ∨ (j ≠ i ∧ ρ[j]? = some (some x)) := fun j x q => by
    by_cases hj : i = j
    · subst hj; rw [List.getElem?_set_self hi] at q; cases q; exact .inl ⟨rfl, rfl⟩
    · rw [List.getElem?_set_ne hj] at q; exact .inr ⟨fun z => hj z.symm, q⟩
  have base : Sim K G F' H' σ (ρ.set i (some (.own a xs'))) := by
    refine ⟨S'.hF, ⟨fun b o q => ?_, TJ.step S.hG.tj (fun b o q ne => ?_) fun b o q => ?_⟩, by simpa using S.len, fun j d h => ?_, fun j b ys h => ?_, fun j k b ys zs q1 q2 => ?_, S.bx.to u.ex (fun p m => ?_) (fun j s q => ⟨(set_box (by simp) q).1, rfl⟩) fun j b ys q => (set_own q).elim (fun z => by cases z; exact .inl ⟨i, xs, e⟩) fun q => .inl ⟨j, ys, q⟩⟩
    · have n : b ≠ a := fun z => by subst z; rw [h3] at q; cases q
      exact S'.hG b o (by rw [hide_ne n]; exact S.hG b o q)
    · have n : b ≠ a := fun z => by subst z; rw [h4] at q; exact ne ((Option.some.inj q) ▸ trivial)
      exact S'.hG b o (by rw [hide_ne n]; exact q)
    · rcases u.out b o q with z | z
      · exact .inl z
      · by_cases n : b = a
        · subst n; exact .inr (.inr ⟨_, h4, trivial⟩)
        · rw [hide_ne n] at z; exact .inr (.inl z)
    · rcases far j _ h with ⟨_, z⟩ | ⟨_, h⟩
      · cases z
      · obtain ⟨w, k1, k2⟩ := S.val j d h
        exact ⟨w, k1, k2.mono u.ex⟩
    · rcases far j _ h with ⟨rfl, z⟩ | ⟨hj, h⟩
      · cases z; exact ⟨h1, g2, h3, ws, g4, g5⟩
      · obtain ⟨k1, k2, k3, us, k4, k5⟩ := S.own j b ys h
        have n := other j b ys h hj
        have k4' : hide H a b = some (.lst us) := by rw [hide_ne n]; exact k4
        exact ⟨k1, u.isNone k2 k4', k3, us, S'.hG _ _ k4', k5.mono u.ex⟩
    · rcases far j _ q1 with ⟨f1, z1⟩ | ⟨hj, p1⟩
      · rcases far k _ q2 with ⟨f2, _⟩ | ⟨hk, p2⟩
        · rw [f1, f2]
        · cases z1; exact absurd rfl (other k _ zs p2 hk)
      · rcases far k _ q2 with ⟨f2, z2⟩ | ⟨hk, p2⟩
        · cases z2; exact absurd rfl (other j _ ys p1 hj)
        · exact S.ne _ _ _ _ _ p1 p2
    · obtain ⟨f, g, o, e'⟩ := S.bx.free m
      have e2 : hide H a p = some o := by rw [hide_ne (S.bx.apart m e)]; exact e'
      exact ⟨u.isNone f e2, g, (S'.hG _ _ e2).trans e'.symm⟩
  cases c with
  | val d =>
    obtain ⟨w, k1, k2⟩ := S'.val 1 d rfl
    cases k1
    exact base.pushVal k2
  | own b ys =>
    obtain ⟨k1, k2, k3, us, k4, k5⟩ := S'.own 1 b ys rfl
    cases k1
    have n : b ≠ a := fun z => by subst z; exact absurd (S'.ne 0 1 b xs' ys rfl rfl) (by decide)
    have hb : H b = none := (hide_ne (H := H) n).symm.trans k3
    refine base.pushOwn k4 k2 (S.hG.free hb) ⟨fun j zs q => ?_, fun m => (S.notOwn hb).2 (set_inbox (by simp) m)⟩ k5
    rcases far j _ q with ⟨_, z⟩ | ⟨_, q⟩
    · cases z; exact n rfl
    · obtain ⟨_, _, _, vs', h4', _⟩ := S.own j b zs q
      rw [hb] at h4'; cases h4'
  | box s =>
    obtain ⟨k1, k2, k3⟩ := S'.bx.box 1 s rfl
    cases k1
    have hb : ∀ p ∈ s.foot, H p = none := fun p m => by
      have n : p ≠ a := fun z => by subst z; exact S'.bx.bo 0 p xs' rfl ⟨1, s, rfl, m⟩
      exact (hide_ne (H := H) n).symm.trans (k2 p m).2
    refine base.pushBox (fun p m => ⟨(k2 p m).1, S.hG.free (hb p m)⟩) k3 fun p m => ⟨fun j zs q => ?_, fun z => (S.notOwn (hb p m)).2 (set_inbox (by simp) z)⟩
    rcases far j _ q with ⟨_, z⟩ | ⟨_, q⟩
    · cases z; rw [hb _ m] at h4; cases h4
    · exact (S.notOwn (hb p m)).1 j zs q
end
section
variable [TJ] {X : Cx} {k : Nat} {f : Addr} {fd : FuncData} {ps : List Str} {x : Str} {p pos : Pos} {e : Expr} {es : List Expr} {t : TA} {T : TAp} {n : Nat}
def pCallA (n : Nat) (g : FA) (T : TAp) : TCp := fun ρ Q => T ρ fun ds ρ1 => ds.length = n ∧ g ds fun c => Q c ρ1
theorem ppc_callA {g : FA} (Fn : FnOk X.prog X.w X.K X.mg X.base CX0 k f fd ps (spA X.K n g)) (hr : Room k X.A) (hg : Gl X x) (hm : X.mg x = some (.ref f)) (hk : PySem.W.keepIn X.K (.ref f) = true) (hb : Binds X.K fd ps []) (ha : PPA X (e :: es) t T)
    (hdb : (x == ("__debug__" : Str)) = false := by decide) (he : starEach (e :: es) X.env = (false, eval e X.env) :: starEach es X.env := by rfl) (hpl : (backTo pos (starEach es X.env)).any (·.1) = false := by rfl) :
    PPC X (.Call (.Name x p) (e :: es) [] pos) (tCall (spA X.K n g) [] (fun _ _ _ => False) t) (pCallA n g T) := ⟨pe_call Fn hr hg hm hk hb .nil pass0 ha.pa hdb he hpl, fun G F H σ ρ Q R S hT k =>
  ha.snd G F H σ ρ _ _ S hT fun vs ds F1 H1 ρ1 u1 S1 r1 h1 => by
    show spA X.K n g (vs ++ []) H1 R _
    rw [List.append_nil]
    exact ⟨F1, ds, _, by rw [r1.length]; exact h1.1, S1.hF, r1, h1.2, fun v c F' H' u S' q => k v c F' H' ρ1 (u1.trans (u.less S1.hG)) (S1.afterA u S') q⟩⟩
def pCallB (i n : Nat) (g : FB) (T : TAp) : TCp := fun ρ Q => match ρ[i]? with
  | some (some (.own a _)) => T ρ fun ds ρ1 => ∃ xs1, ρ1[i]? = some (some (.own a xs1)) ∧ ds.length + 1 = n ∧ g xs1 ds fun c xs2 => Q c (ρ1.set i (some (.own a xs2)))
  | _ => False
theorem ppc_callB (i : Nat) {y : Str} {py : Pos} {g : FB} (Fn : FnOk X.prog X.w X.K X.mg X.base CX0 k f fd ps (spB X.K n g)) (hr : Room k X.A) (hg : Gl X x) (hm : X.mg x = some (.ref f)) (hk : PySem.W.keepIn X.K (.ref f) = true) (hb : Binds X.K fd ps []) (ha : PPA X es t T)
    (hN : X.N[i]? = some y := by rfl) (hv : Vis X.env.scope y := by first | exact Or.inl rfl | exact Or.inr (Or.inl rfl) | exact Or.inr (Or.inr rfl)) (hd : (y == ("__debug__" : Str)) = false := by decide) (hcd : (y == ("__classdict__" : Str)) = false := by decide)
    (hdb : (x == ("__debug__" : Str)) = false := by decide) (he : starEach (.Name y py :: es) X.env = (false, eval (.Name y py) X.env) :: starEach es X.env := by rfl) (hpl : (backTo pos (starEach es X.env)).any (·.1) = false := by rfl) :
    PPC X (.Call (.Name x p) (.Name y py :: es) [] pos) (tCall (spB X.K n g) [] (fun _ _ _ => False) (tCons (tVar i) t)) (pCallB i n g T) := ⟨pe_call Fn hr hg hm hk hb .nil pass0 (pa_cons (pe_var hN hv hd hcd) ha.pa he) hdb he hpl, fun G F H σ ρ Q R S hT k => by
  unfold pCallB at hT
  split at hT
  · rename_i a xs e0
    refine ⟨.ref a, (S.own i a xs e0).1, ha.snd G F H σ ρ _ _ S hT fun vs ds F1 H1 ρ1 u1 S1 r1 h1 => ?_⟩
    obtain ⟨xs1, e1, hn, q1⟩ := h1
    obtain ⟨h1, h2, h3, us, h4, h5⟩ := S1.own i a xs1 e1
    show spB X.K n g ((.ref a :: vs) ++ []) H1 R _
    rw [List.append_nil]
    refine ⟨F1, a, us, xs1, vs, ds, _, rfl, by rw [List.length_cons, r1.length]; exact hn, S1.hF, h2, h4, h5, r1, q1, fun v c xs' F' H' u S' q => ?_⟩
    have hGh : Same G (hide H1 a) := fun b o qq => by
      have nb : b ≠ a := fun z => by rw [z, h3] at qq; cases qq
      rw [hide_ne nb]; exact S1.hG b o qq
    exact k v c F' H' _ (u1.trans (u.less hGh)) (S1.afterB e1 u S') q
  · exact hT.elim⟩
end
section
variable {P : Program} {w : World} {K : PySem.W.Frag} {mg : Str → Option Value} {base : Heap} {x qual : Str} {st : Stmt} {f : Addr} {fd : FuncData} {N ps : List Str} {k : Nat}
def startA (N : List Str) (ds : List D) : Ro := ds.map (fun d => some (.val d)) ++ List.replicate (N.length - ds.length) none
def startB (N : List Str) (a : Addr) (xs : List D) (ds : List D) : Ro := some (.own a xs) :: (ds.map (fun d => some (.val d)) ++ List.replicate (N.length - (ds.length + 1)) none)
theorem sim_vals [TJ] {K : PySem.W.Frag} {G F H : Hp} (hF : Same F H) (hG : SameJ G F H) {vs : List V} {ds : List D} (r : Reps K F vs ds) (m : Nat) : Sim K G F H (vs.map some ++ List.replicate m none) (ds.map (fun d => some (.val d)) ++ List.replicate m none) := by
  have key : ∀ (i : Nat) (c : Cell), (ds.map (fun d => some (Cell.val d)) ++ List.replicate m none)[i]? = some (some c) → ∃ d, c = .val d ∧ ds[i]? = some d := fun i c h => by
    rcases Nat.lt_or_ge i ds.length with q | q
    · rw [List.getElem?_append_left (by simpa using q), List.getElem?_map, List.getElem?_eq_getElem q] at h
      exact ⟨ds[i], (Option.some.inj (Option.some.inj h)).symm, List.getElem?_eq_getElem q⟩
    · rw [List.getElem?_append_right (by simpa using q), List.getElem?_replicate] at h
      split at h <;> cases h
  refine ⟨hF, hG, by simp [r.length], fun i d h => ?_, fun i a xs h => ?_, fun i j a xs ys h1 h2 => ?_, .nil fun i s h => by obtain ⟨d, e, _⟩ := key i _ h; cases e⟩
  · obtain ⟨d', e, hd⟩ := key i _ h
    cases e
    obtain ⟨v, hv, rv⟩ := r.get hd
    refine ⟨v, ?_, rv⟩
    have q : i < vs.length := lt_of_get hv
    rw [List.getElem?_append_left (by simpa using q), List.getElem?_map, hv]
    rfl
  · obtain ⟨d', e, _⟩ := key i _ h
    cases e
  · obtain ⟨d', e, _⟩ := key i _ h1
    cases e
theorem Sim.cons_own [TJ] {K : PySem.W.Frag} {G F H : Hp} {σ : L2.St} {ρ : Ro} (S : Sim K G F H σ ρ) {a : Addr} {vs : List V} {xs : List D} (hH : H a = some (.lst vs)) (hF : F a = none) (hG : G a = none) (hn : NotOwn ρ a) (r : Reps K F vs xs) :
    Sim K G F H (some (.ref a) :: σ) (some (.own a xs) :: ρ) := by
  refine ⟨S.hF, S.hG, by simp [S.len], fun i d h => ?_, fun i b ys h => ?_, fun i j b ys zs h1 h2 => ?_, fun i s h => ?_, fun i j s t p h1 h2 m1 m2 => ?_, fun j b ys h ⟨k, s, e, m⟩ => ?_⟩
  · cases i with
    | zero => cases h
    | succ i => exact S.val i d h
  · cases i with
    | zero => cases h; exact ⟨rfl, hF, hG, vs, hH, r⟩
    | succ i => exact S.own i b ys h
  · cases i with
    | zero =>
      cases j with
      | zero => rfl
      | succ j => cases h1; exact absurd h2 (hn.1 j zs)
    | succ i =>
      cases j with
      | zero => cases h2; exact absurd h1 (hn.1 i ys)
      | succ j => rw [S.ne i j b ys zs h1 h2]
  · cases i with
    | zero => cases h
    | succ i => exact S.bx.box i s h
  · cases i with
    | zero => cases h1
    | succ i =>
      cases j with
      | zero => cases h2
      | succ j => rw [S.bx.bb i j s t p h1 h2 m1 m2]
  · cases k with
    | zero => cases e
    | succ k =>
      cases j with
      | zero => cases h; exact hn.2 ⟨k, s, e, m⟩
      | succ j => exact S.bx.bo j b ys h ⟨k, s, e, m⟩
theorem vals_box {ds : List D} {m i : Nat} {s : Sh} : (ds.map (fun d => some (Cell.val d)) ++ List.replicate m none)[i]? ≠ some (some (.box s)) := fun h => by
  rcases Nat.lt_or_ge i ds.length with q | q
  · rw [List.getElem?_append_left (by simpa using q), List.getElem?_map, List.getElem?_eq_getElem q] at h
    cases h
  · rw [List.getElem?_append_right (by simpa using q), List.getElem?_replicate] at h
    split at h <;> cases h
theorem notOwn_vals {ds : List D} {m : Nat} {a : Addr} : NotOwn (ds.map (fun d => some (Cell.val d)) ++ List.replicate m none) a := ⟨fun i xs h => (by
  rcases Nat.lt_or_ge i ds.length with q | q
  · rw [List.getElem?_append_left (by simpa using q), List.getElem?_map, List.getElem?_eq_getElem q] at h
    cases h
  · rw [List.getElem?_append_right (by simpa using q), List.getElem?_replicate] at h
    split at h <;> cases h), fun ⟨i, s, e, _⟩ => vals_box e⟩
theorem okA {g : FA} {T : TSp} (Fn : Fun K x qual st f fd) (S : FnScope N ps (defScope st))
    (hb : ∀ (cdv : Value) (A : Around) (outer : List Env) (s : Shared) (H : Hp) (E : XK), Room k (A.deeper (envOfC qual (defScope st) s.heap.objs.size f cdv)) → ∃ t, PPSs (cxOf CX0 P w K mg base N qual (defScope st) f cdv A outer s H E).nox (defBody st) t T)
    (hT : ∀ ds C, ds.length = ps.length → g ds C → T { nx := fun _ => C (.val .non), rt := fun c _ => C c } (startA N ds)) : FnOk P w K mg base CX0 (k + 1) f fd ps (spA K ps.length g) := by
  refine Fn.ok S (fun vs H Q E h => ?_) (fun cdv A outer s H vs Q E hr h => ?_)
  · obtain ⟨F, ds, C, hl, _⟩ := h
    exact hl
  · obtain ⟨F, ds, C, hl, hF, r, hg, hQ⟩ := h
    obtain ⟨t, ht⟩ := hb cdv A outer s H E hr
    refine ⟨t, ht.ps, ?_⟩
    have S0 : Sim K H F H (L2.start N vs) (startA N ds) := by
      unfold L2.start startA
      rw [r.length]
      exact sim_vals hF (.rfl' F H) r _
    refine ht.snd H F H _ _ _ _ S0 (hT ds C (by rw [← r.length]; exact hl) hg) ⟨fun F' H' σ' ρ' u S' q => ?_, fun F' H' σ' ρ' v c u S' q => hQ v c F' H' u S'.only q, fun _ _ _ _ _ _ q => q, fun _ _ _ _ _ _ q => q⟩
    exact hQ .non (.val .non) F' H' u ((S'.pushVal .non).only) q
theorem okB {g : FB} {T : TSp} (Fn : Fun K x qual st f fd) (S : FnScope N ps (defScope st))
    (hb : ∀ (cdv : Value) (A : Around) (outer : List Env) (s : Shared) (H : Hp) (E : XK), Room k (A.deeper (envOfC qual (defScope st) s.heap.objs.size f cdv)) → ∃ t, PPSs (cxOf CX0 P w K mg base N qual (defScope st) f cdv A outer s H E).nox (defBody st) t T)
    (hT : ∀ a xs ds C, ds.length + 1 = ps.length → g xs ds C → T { nx := fun ρ => ∃ ys, ρ[0]? = some (some (.own a ys)) ∧ C (.val .non) ys, rt := fun c ρ => ∃ ys, ρ[0]? = some (some (.own a ys)) ∧ C c ys } (startB N a xs ds)) : FnOk P w K mg base CX0 (k + 1) f fd ps (spB K ps.length g) := by
  refine Fn.ok S (fun vs H Q E h => ?_) (fun cdv A outer s H vs Q E hr h => ?_)
  · obtain ⟨F, a, us, xs, ws, ds, C, _, hl, _⟩ := h
    exact hl
  · obtain ⟨F, a, us, xs, ws, ds, C, rfl, hl, hF, hFa, hHa, r1, r2, hg, hQ⟩ := h
    obtain ⟨t, ht⟩ := hb cdv A outer s H E hr
    refine ⟨t, ht.ps, ?_⟩
    have S0 : Sim K (hide H a) F H (L2.start N (.ref a :: ws)) (startB N a xs ds) := by
      unfold L2.start startB
      rw [List.length_cons, r2.length]
      exact (sim_vals hF (.of (hide_same H a)) r2 _).cons_own hHa hFa hide_at notOwn_vals r1
    refine ht.snd (hide H a) F H _ _ _ _ S0 (hT a xs ds C (by rw [← r2.length]; exact hl) hg) ⟨fun F' H' σ' ρ' u S' q => ?_, fun F' H' σ' ρ' v c u S' q => ?_, fun _ _ _ _ _ _ q => q, fun _ _ _ _ _ _ q => q⟩
    · obtain ⟨ys, e, q⟩ := q
      exact hQ .non (.val .non) ys F' H' u ((S'.pushVal .non).only2 e) q
    · obtain ⟨ys, e, q⟩ := q
      exact hQ v c ys F' H' u (S'.only2 e) q
end
end Pl
namespace Pl
open PySem PySem.Spec PyProof.Rows L2
variable [TJ]
def liftE (K : PySem.W.Frag) (T : TEp) : TE := fun σ H R => ∃ (G F : Hp) (ρ : Ro) (Q : D → Ro → Prop), Sim K G F H σ ρ ∧ T ρ Q ∧ ∀ v d F' H' ρ', Up G F F' → Sim K G F' H' σ ρ' → Rep K F' v d → Q d ρ' → R v H'
def liftT (K : PySem.W.Frag) (T : TTp) : TT := fun σ H R => ∃ (G F : Hp) (ρ : Ro) (Q : Bool → Ro → Prop), Sim K G F H σ ρ ∧ T ρ Q ∧ ∀ b F' H' ρ', Up G F F' → Sim K G F' H' σ ρ' → Q b ρ' → R b H'
def liftG (K : PySem.W.Frag) (T : TGp) (is : List Nat) : TG := fun v σ H R => ∃ (G F : Hp) (ρ : Ro) (Q : Ro → Prop) (d : D), Sim K G F H σ ρ ∧ Rep K F v d ∧ T d ρ Q ∧ ∀ F' H' σ' ρ', Up G F F' → Sim K G F' H' σ' ρ' → (∀ j, j ∉ is → σ'[j]? = σ[j]?) → σ'.length = σ.length → Q ρ' → R σ' H'
section
variable {X : Cx}
theorem PPE.lift {e : Expr} {t : TE} {T : TEp} (h : PPE X e t T) : PPE X e (liftE X.K T) T :=
  ⟨⟨fun pins s σ H Q I ⟨G, F, ρ, Q', S, hT, k⟩ => h.pe.run pins s σ H Q I (h.snd G F H σ ρ Q' Q S hT k)⟩, fun G F H σ ρ Q R S hT k => ⟨G, F, ρ, Q, S, hT, k⟩⟩
theorem PPTs.lift {es : List Expr} {t : TT} {T : TTp} (h : PPTs X es t T) : PPTs X es (liftT X.K T) T :=
  ⟨⟨fun pins s σ H Q I ⟨G, F, ρ, Q', S, hT, k⟩ => h.pt.run pins s σ H Q I (h.snd G F H σ ρ Q' Q S hT k)⟩, fun G F H σ ρ Q R S hT k => ⟨G, F, ρ, Q, S, hT, k⟩⟩
theorem PTg.lift {tg : Expr} {g : TG} {T : TGp} {is : List Nat} (h : PTg X tg g T is) : PTg X tg (liftG X.K T is) T is :=
  ⟨⟨fun pins s σ H v u Q I r ⟨G, F, ρ, Q', d, S, rd, hT, k⟩ => h.pg.run pins s σ H v u Q I r (h.snd G F H σ ρ Q' Q v d S rd hT k)⟩, fun G F H σ ρ Q R v d S r hT k => ⟨G, F, ρ, Q, d, S, r, hT, k⟩⟩
end
section
variable {X : Cx} {elt tg iter : Expr} {ifs : List Expr} {scope : Scope} {own : List (Str × Nat)} {pos : Pos} {wi : TI} {Ti : TAp} {Gp : TGp} {is : List Nat} {Tt : TTp} {Te : TEp} {vs : List Nat}
theorem ppc_lcL (hc : X.calm = true) (hN : X.N.Nodup) (hi : PPI X tg iter wi Ti) (ok : BlkOk X.N X.env.scope scope own)
    (hg : ∀ (s : Shared) (H : Hp) (C : Addr) (cl : List (Str × Addr)) (fp : List Addr), PTg (X.blk s H scope (compEnvC scope cl C X.env) fp) tg (liftG X.K Gp is) Gp is) (ht : ∀ (s : Shared) (H : Hp) (C : Addr) (cl : List (Str × Addr)) (fp : List Addr), PPTs (X.blk s H scope (compEnvC scope cl C X.env) fp) ifs (liftT X.K Tt) Tt)
    (he : ∀ (s : Shared) (H : Hp) (C : Addr) (cl : List (Str × Addr)) (fp : List Addr), PPE (X.blk s H scope (compEnvC scope cl C X.env) fp) elt (liftE X.K Te) Te) (hs : ∀ x, foldedSetIterable iter X.env x = pure x := by intro _; rfl) (hsub : ∀ i ∈ is, i ∈ own.map (·.2) := by decide) :
    PPC X (.ListComp elt [⟨tg, iter, ifs, 0⟩] scope pos) (tLc wi (liftG X.K Gp is) (liftT X.K Tt) (liftE X.K Te) (own.map (·.2))) (pLcO Ti Gp Tt Te (own.map (·.2))) := ppc_lc hc hN hi ok hg ht he hs hsub
theorem ppe_lcL (hc : X.calm = true) (hN : X.N.Nodup) (hi : PPI X tg iter wi Ti) (ok : BlkOk X.N X.env.scope scope own)
    (hg : ∀ (s : Shared) (H : Hp) (C : Addr) (cl : List (Str × Addr)) (fp : List Addr), PTg (X.blk s H scope (compEnvC scope cl C X.env) fp) tg (liftG X.K Gp is) Gp is) (ht : ∀ (s : Shared) (H : Hp) (C : Addr) (cl : List (Str × Addr)) (fp : List Addr), PPTs (X.blk s H scope (compEnvC scope cl C X.env) fp) ifs (liftT X.K Tt) Tt)
    (he : ∀ (s : Shared) (H : Hp) (C : Addr) (cl : List (Str × Addr)) (fp : List Addr), PPE (X.blk s H scope (compEnvC scope cl C X.env) fp) elt (liftE X.K Te) Te) (hs : ∀ x, foldedSetIterable iter X.env x = pure x := by intro _; rfl) (hsub : ∀ i ∈ is, i ∈ own.map (·.2) := by decide) :
    PPE X (.ListComp elt [⟨tg, iter, ifs, 0⟩] scope pos) (tLc wi (liftG X.K Gp is) (liftT X.K Tt) (liftE X.K Te) (own.map (·.2))) (pLc Ti Gp Tt Te (own.map (·.2))) := ppe_lc hc hN hi ok hg ht he hs hsub
theorem pps_setLcL {i : Nat} {y : Str} {py spos : Pos} (hc : X.calm = true) (hN : X.N.Nodup) (hi : PPI X tg iter wi Ti) (ok : BlkOk X.N X.env.scope scope own)
    (hg : ∀ (s : Shared) (H : Hp) (C : Addr) (cl : List (Str × Addr)) (fp : List Addr), PTg (X.blk s H scope (compEnvC scope cl C X.env) fp) tg (liftG X.K Gp is) Gp is) (ht : ∀ (s : Shared) (H : Hp) (C : Addr) (cl : List (Str × Addr)) (fp : List Addr), PPTs (X.blk s H scope (compEnvC scope cl C X.env) fp) ifs (liftT X.K Tt) Tt)
    (he : ∀ (s : Shared) (H : Hp) (C : Addr) (cl : List (Str × Addr)) (fp : List Addr), PPE (X.blk s H scope (compEnvC scope cl C X.env) fp) elt (liftE X.K Te) Te)
    (hy : X.N[i]? = some y := by rfl) (hyl : X.env.scope.names.lookup y = some .local := by rfl)
    (hsw : swapsWith (.ListComp elt [⟨tg, iter, ifs, 0⟩] scope pos) (some (.Name y py)) spos.line X.env = pure true := by exact sw_true rfl rfl rfl (by decide +kernel)) (hs : ∀ x, foldedSetIterable iter X.env x = pure x := by intro _; rfl) (hsub : ∀ i ∈ is, i ∈ own.map (·.2) := by decide) :
    PPS X (.Assign [.Name y py] (.ListComp elt [⟨tg, iter, ifs, 0⟩] scope pos) spos) (tAsg (tLc wi (liftG X.K Gp is) (liftT X.K Tt) (liftE X.K Te) (own.map (·.2))) (gName i)) (pSet i (pLcO Ti Gp Tt Te (own.map (·.2)))) := pps_setLc hc hN hi ok hg ht he hy hyl hsw hs hsub
end
theorem hu64 {k : Nat} {A : Around} (hr : Room k A) : A.units + 64 < cLine := by have := hr.un; omega
end Pl
namespace Pl
open PySem PySem.Spec PyProof.Rows L2
theorem ifB {b : Bool} {A B : Prop} (h1 : b = true → A) (h2 : b = false → B) : if b = true then A else B := by
  cases b with
  | true => exact ite_ti (h1 rfl)
  | false => exact ite_fi (h2 rfl)
theorem ifT {b : Bool} {A B : Prop} (h : b = true) (h1 : A) : if b = true then A else B := by subst h; exact ite_ti h1
theorem ifF {b : Bool} {A B : Prop} (h : b = false) (h1 : B) : if b = true then A else B := by subst h; exact ite_fi h1
theorem dT {p : Prop} [Decidable p] (h : decide p = true) : p := of_decide_eq_true h
theorem sl1000 {n : Nat} (h : n ≤ 1000) : n ≤ sizeLine := Nat.le_of_lt (small1000 h)
theorem for_inv {g : TGp} {tb : TSp} {P : PEnds} (I : List D → Ro → Prop) (hs : ∀ (d : D) (r : List D) (ρ : Ro) (K : Ro → Prop), (∀ ρ', I r ρ' → K ρ') → I (d :: r) ρ → g d ρ fun ρ1 => tb { P with nx := K, ct := K, bk := P.nx } ρ1)
    (he : ∀ ρ, I [] ρ → P.nx ρ) : ∀ (ds : List D) (ρ : Ro), I ds ρ → forW g tb P ds ρ
  | [], ρ, h => he ρ h
  | d :: ds, ρ, h => hs d ds ρ _ (fun ρ' h' => for_inv I hs he ds ρ' h') h
theorem lcW_inv {vs : List Nat} {g : TGp} {tt : TTp} {te : TEp} {Q : List D → Ro → Prop} (I : List D → List D → Ro → Prop)
    (hs : ∀ (d : D) (r acc : List D) (ρ : Ro) (K : List D → Ro → Prop), (∀ acc' ρ', I r acc' ρ' → K acc' ρ') → I (d :: r) acc ρ → g d (wipeP ρ vs) fun ρ2 => tt ρ2 fun b ρ3 => if b = true then te ρ3 fun y ρ4 => acc.length < sizeLine ∧ K (acc ++ [y]) (restore ρ ρ4 vs) else K acc (restore ρ ρ3 vs))
    (he : ∀ acc ρ, I [] acc ρ → Q acc ρ) : ∀ (ds acc : List D) (ρ : Ro), I ds acc ρ → lcW vs g tt te Q ds acc ρ
  | [], acc, ρ, h => he acc ρ h
  | d :: ds, acc, ρ, h => hs d ds acc ρ (fun acc' ρ' => lcW vs g tt te Q ds acc' ρ') (fun acc' ρ' h' => lcW_inv I hs he ds acc' ρ' h') h
def ElemOk (vs : List Nat) (g : TGp) (te : TEp) (ρ : Ro) (d y : D) : Prop := ∀ K : D → Ro → Prop, (∀ ρ4, restore ρ ρ4 vs = ρ → K y ρ4) → g d (wipeP ρ vs) fun ρ2 => te ρ2 K
theorem lcW_map {vs : List Nat} {g : TGp} {te : TEp} {Q : List D → Ro → Prop} {f : D → D} {ρ : Ro} : ∀ (ds acc : List D), (∀ d ∈ ds, ElemOk vs g te ρ d (f d)) → acc.length + ds.length ≤ 1000 → Q (acc ++ ds.map f) ρ → lcW vs g pYes te Q ds acc ρ
  | [], acc, _, _, hQ => by
    have hQ : Q (acc ++ []) ρ := hQ
    rw [List.append_nil] at hQ
    exact hQ
  | d :: ds, acc, h, hl, hQ => by
    have hl' : acc.length + (ds.length + 1) ≤ 1000 := hl
    refine h d (by simp) _ fun ρ4 e => ⟨small1000 (by omega), ?_⟩
    rw [e]
    refine lcW_map ds _ (fun x hx => h x (by simp [hx])) (by rw [List.length_append]; show acc.length + 1 + ds.length ≤ 1000; omega) ?_
    rw [List.append_assoc]
    exact hQ
end Pl
namespace Pl
open PySem PySem.Spec PyProof.Rows L2
theorem fnNoneB {P : Program} {w : World} {K : PySem.W.Frag} {mg : Str → Option Value} {base : Heap} {k n : Nat} {x qual : Str} {st : Stmt} {f : Addr} {fd : FuncData} {ps : List Str} (_ : Fun K x qual st f fd) : FnOk P w K mg base CX0 k f fd ps (spB K n fun _ _ _ => False) :=
  ⟨fun _ _ _ _ ⟨_, _, _, _, _, _, _, _, _, _, _, _, _, _, h, _⟩ => h.elim, fun _ _ _ _ _ _ _ _ _ _ _ _ _ ⟨_, _, _, _, _, _, _, _, _, _, _, _, _, _, h, _⟩ => h.elim⟩
theorem fnNoneA {P : Program} {w : World} {K : PySem.W.Frag} {mg : Str → Option Value} {base : Heap} {k n : Nat} {x qual : Str} {st : Stmt} {f : Addr} {fd : FuncData} {ps : List Str} (_ : Fun K x qual st f fd) : FnOk P w K mg base CX0 k f fd ps (spA K n fun _ _ => False) :=
  ⟨fun _ _ _ _ ⟨_, _, _, _, _, _, h, _⟩ => h.elim, fun _ _ _ _ _ _ _ _ _ _ _ _ _ ⟨_, _, _, _, _, _, h, _⟩ => h.elim⟩
end Pl
namespace Pl
open PySem PySem.Spec PyProof.Rows L2
variable [TJ]
def tyN : D → String
  | .non => "NoneType"
  | .bl _ => "bool"
  | .int _ => "int"
  | .str _ => "str"
  | .lst _ => "list"
  | .tup _ => "tuple"
  | .scr _ => "list"
  | .adr _ => "list"
  | .exc _ _ => "object"
def D.isInt : D → Bool
  | .int _ => true
  | .bl _ => true
  | _ => false
def D.isBl : D → Bool
  | .bl _ => true
  | _ => false
def D.isStr : D → Bool
  | .str _ => true
  | _ => false
def D.isLst : D → Bool
  | .lst _ => true
  | .scr _ => true
  | .adr _ => true
  | _ => false
def D.isTup : D → Bool
  | .tup _ => true
  | _ => false
structure IsT (n : String) (p : D → Bool) : Prop where
  kit : ∀ d, kitB (tyN d) n = some (p d)
  boot : bootBuiltins (Str.ofString n) = some (.type n)
theorem isT_int : IsT "int" D.isInt := ⟨fun d => by cases d <;> with_unfolding_all rfl, by decide +kernel⟩
theorem isT_bool : IsT "bool" D.isBl := ⟨fun d => by cases d <;> with_unfolding_all rfl, by decide +kernel⟩
theorem isT_str : IsT "str" D.isStr := ⟨fun d => by cases d <;> with_unfolding_all rfl, by decide +kernel⟩
theorem isT_list : IsT "list" D.isLst := ⟨fun d => by cases d <;> with_unfolding_all rfl, by decide +kernel⟩
theorem isT_tuple : IsT "tuple" D.isTup := ⟨fun d => by cases d <;> with_unfolding_all rfl, by decide +kernel⟩
theorem Rep.ty {K : PySem.W.Frag} {F H : Hp} (e : Same F H) {v : V} {d : D} (r : Rep K F v d) (hn : (∀ ns, d ≠ .scr ns) ∧ (∀ a, d ≠ .adr a) ∧ ∀ c y, d ≠ .exc c y) : TyX K H v (.type (tyN d)) := by
  cases r with
  | non => exact .base .non
  | bl b => exact .base (.bl b)
  | int i => exact .base (.int i)
  | str z => exact .base (.str z)
  | lst h _ => exact .base (.lst (e _ _ h))
  | tup h _ => exact .base (.tup (e _ _ h))
  | scr _ => exact absurd rfl (hn.1 _)
  | adr _ => exact absurd rfl (hn.2.1 _)
  | exc _ _ _ _ => exact absurd rfl (hn.2.2 _ _)
def notScr (d : D) (A : Prop) : Prop := match d with
  | .scr _ => False
  | .adr _ => False
  | .exc _ _ => False
  | _ => A
theorem notScr_of {d : D} {A : Prop} (h : notScr d A) : ((∀ ns, d ≠ .scr ns) ∧ (∀ a, d ≠ .adr a) ∧ ∀ c y, d ≠ .exc c y) ∧ A := by
  cases d with
  | scr ns => exact h.elim
  | adr a => exact h.elim
  | exc _ _ => exact h.elim
  | _ => exact ⟨⟨fun _ z => (by cases z), fun _ z => (by cases z), fun _ _ z => (by cases z)⟩, h⟩
section
variable {X : Cx} {e : Expr} {te : TE} {Te : TEp} {pos : Pos}
def pIsi (p : D → Bool) (Te : TEp) : TEp := fun ρ Q => Te ρ fun d ρ1 => notScr d (Q (.bl (p d)) ρ1)
theorem ppe_isi {n : String} {p : D → Bool} {fp np : Pos} (ht : IsT n p) (hg : Gl X "isinstance") (hm : X.mg "isinstance" = none) (hgn : Gl X (Str.ofString n)) (hmn : X.mg (Str.ofString n) = none) (he : PPE X e te Te) (hnn : Str.ofString n ≠ "__name__" := by decide) (hnd : (Str.ofString n == ("__debug__" : Str)) = false := by decide)
    (hs : starEach [e, .Name (Str.ofString n) np] X.env = (false, eval e X.env) :: starEach [.Name (Str.ofString n) np] X.env := by rfl) (hs2 : starEach [.Name (Str.ofString n) np] X.env = (false, eval (.Name (Str.ofString n) np) X.env) :: starEach [] X.env := by rfl) (hpl : (backTo pos (starEach [.Name (Str.ofString n) np] X.env)).any (·.1) = false := by rfl) :
    PPE X (.Call (.Name "isinstance" fp) [e, .Name (Str.ofString n) np] [] pos) (tCB (rIsi X.K) (tCons te (tCons (tC (.ty n)) tNil))) (pIsi p Te) :=
  ⟨pe_callB call_isi hg hm (by decide +kernel) (pa_cons he.pe (pa_cons (pe_bltn hgn hmn ht.boot rfl hnn hnd) pa_nil hs2) hs) (by decide) (by decide) hs hpl, fun G F H σ ρ Q R S hT k =>
    he.snd G F H σ ρ _ _ S hT fun v d F1 H1 ρ1 u1 S1 r1 q1 => by
      obtain ⟨hn, q⟩ := notScr_of q1
      exact ⟨v, .ty n, _, _, p d, rfl, .ty n, r1.ty S1.hF hn, ht.kit d, k _ _ F1 H1 ρ1 u1 S1 (.bl _) q⟩⟩
def pIsi2 (p q : D → Bool) (Te : TEp) : TEp := fun ρ Q => Te ρ fun d ρ1 => notScr d (Q (.bl (p d || q d)) ρ1)
theorem ppe_isi2 {n m : String} {p q : D → Bool} {fp np mp tp : Pos} {kk : Nat} (ht : IsT n p) (ht2 : IsT m q) (hg : Gl X "isinstance") (hm : X.mg "isinstance" = none) (hgn : Gl X (Str.ofString n)) (hmn : X.mg (Str.ofString n) = none) (hgm : Gl X (Str.ofString m)) (hmm : X.mg (Str.ofString m) = none) (he : PPE X e te Te)
    (hnn : Str.ofString n ≠ "__name__" := by decide) (hnd : (Str.ofString n == ("__debug__" : Str)) = false := by decide) (hmn' : Str.ofString m ≠ "__name__" := by decide) (hmd : (Str.ofString m == ("__debug__" : Str)) = false := by decide)
    (hs : starEach [e, .Tuple [.Name (Str.ofString n) np, .Name (Str.ofString m) mp] kk tp] X.env = (false, eval e X.env) :: starEach [.Tuple [.Name (Str.ofString n) np, .Name (Str.ofString m) mp] kk tp] X.env := by rfl)
    (hs2 : starEach [.Tuple [.Name (Str.ofString n) np, .Name (Str.ofString m) mp] kk tp] X.env = (false, eval (.Tuple [.Name (Str.ofString n) np, .Name (Str.ofString m) mp] kk tp) X.env) :: starEach [] X.env := by rfl)
    (hs3 : starEach [.Name (Str.ofString n) np, .Name (Str.ofString m) mp] X.env = (false, eval (.Name (Str.ofString n) np) X.env) :: starEach [.Name (Str.ofString m) mp] X.env := by rfl)
    (hs4 : starEach [.Name (Str.ofString m) mp] X.env = (false, eval (.Name (Str.ofString m) mp) X.env) :: starEach [] X.env := by rfl)
    (hpl : (backTo pos (starEach [.Tuple [.Name (Str.ofString n) np, .Name (Str.ofString m) mp] kk tp] X.env)).any (·.1) = false := by rfl) :
    PPE X (.Call (.Name "isinstance" fp) [e, .Tuple [.Name (Str.ofString n) np, .Name (Str.ofString m) mp] kk tp] [] pos) (tCB (rIsiT X.K) (tCons te (tCons (tTup (tCons (tC (.ty n)) (tCons (tC (.ty m)) tNil))) tNil))) (pIsi2 p q Te) :=
  ⟨pe_callB call_isiT hg hm (by decide +kernel) (pa_cons he.pe (pa_cons (pe_tup (pa_cons (pe_bltn hgn hmn ht.boot rfl hnn hnd) (pa_cons (pe_bltn hgm hmm ht2.boot rfl hmn' hmd) pa_nil hs4) hs3)) pa_nil hs2) hs) (by decide) (by decide) hs hpl, fun G F H σ ρ Q R S hT k =>
    he.snd G F H σ ρ _ _ S hT fun v d F1 H1 ρ1 u1 S1 r1 q1 => by
      obtain ⟨hn, q'⟩ := notScr_of q1
      refine ⟨by show (2 : Nat) ≤ sizeLine; decide, fun a ha => ?_⟩
      refine ⟨v, a, [.ty n, .ty m], _, [.type n, .type m], p d || q d, rfl, upd_same, .cons (.ty n) (.cons (.ty m) .nil), r1.ty (S1.hF.trans (same_new ha)) hn, ?_, k _ _ F1 _ ρ1 u1 (S1.more ha) (.bl _) q'⟩
      refine kitAny_cons (b := p d) (ht.kit d) (fun h => kitAny_cons (b := q d) (ht2.kit d) (fun h2 => by rw [h, h2]; rfl) (fun h2 => by rw [h2]; simp)) (fun h => by rw [h]; rfl)⟩
end
def okN : Nat → D → Prop
  | _, .non => True
  | _, .bl _ => True
  | _, .int _ => True
  | _, .str z => (D.str z).sh
  | n + 1, .lst xs => xs.length ≤ 1000 ∧ ∀ x ∈ xs, okN n x
  | n + 1, .tup xs => xs.length ≤ 1000 ∧ ∀ x ∈ xs, okN n x
  | _, _ => False
def gS : Nat → FA
  | 0 => fun _ _ => False
  | n + 1 => fun ds C => ∃ d, ds = [d, d] ∧ okN n d ∧ C (.val (.bl true))
end Pl
namespace Pl
def UpL (s : Int) : List Int → Prop
  | x :: y :: r => y ≤ x + s ∧ UpL s (y :: r)
  | _ => True
def UpR (s : Int) : List Int → Prop
  | x :: y :: r => x ≤ y + s ∧ UpR s (y :: r)
  | _ => True
def Gentle (s : Int) (l : List Int) : Prop := UpL s l ∧ UpR s l
def Lq : List Int → List Int → Prop
  | x :: xs, y :: ys => x ≤ y ∧ Lq xs ys
  | [], [] => True
  | _, _ => False
theorem Lq.refl : ∀ l : List Int, Lq l l
  | [] => trivial
  | x :: l => ⟨Int.le_refl x, Lq.refl l⟩
theorem Lq.trans : ∀ {a b c : List Int}, Lq a b → Lq b c → Lq a c
  | [], [], [], _, _ => trivial
  | x :: a, y :: b, z :: c, h, g => ⟨Int.le_trans h.1 g.1, Lq.trans h.2 g.2⟩
  | [], [], _ :: _, _, g => g.elim
  | [], _ :: _, _, h, _ => h.elim
  | _ :: _, [], _, h, _ => h.elim
  | _ :: _, _ :: _, [], _, g => g.elim
theorem Lq.length : ∀ {a b : List Int}, Lq a b → a.length = b.length
  | [], [], _ => rfl
  | _ :: a, _ :: b, h => by simp [Lq.length h.2]
  | [], _ :: _, h => h.elim
  | _ :: _, [], h => h.elim
end Pl
namespace Pl
def aI (i : Int) : Int := if i < 0 then -i else i
def reach (s : Int) (l : List Int) (i : Int) : List Int := (List.range l.length).map fun (j : Nat) => l.getD j 0 + s * aI (i - (j : Int))
def reachF (s : Int) (l : List Int) (i : Int) : List Int := (List.range l.length).map fun (j : Nat) => l.getD j 0 - s * aI (i - (j : Int))
end Pl
namespace Pl
theorem UpL.mono {s t : Int} (h : s ≤ t) : ∀ {l : List Int}, UpL s l → UpL t l
  | [], _ => trivial
  | [_], _ => trivial
  | x :: y :: r, g => ⟨by have := g.1; omega, UpL.mono h g.2⟩
theorem UpR.mono {s t : Int} (h : s ≤ t) : ∀ {l : List Int}, UpR s l → UpR t l
  | [], _ => trivial
  | [_], _ => trivial
  | x :: y :: r, g => ⟨by have := g.1; omega, UpR.mono h g.2⟩
theorem Gentle.mono {s t : Int} (h : s ≤ t) {l : List Int} (g : Gentle s l) : Gentle t l := ⟨g.1.mono h, g.2.mono h⟩
theorem upL_append {s x y : Int} : ∀ {a b : List Int}, UpL s (a ++ [x]) → UpL s (y :: b) → y ≤ x + s → UpL s (a ++ x :: y :: b)
  | [], _, _, h2, h => ⟨h, h2⟩
  | [a], _, h1, h2, h => ⟨h1.1, h, h2⟩
  | a :: c :: l, _, h1, h2, h => ⟨h1.1, upL_append (a := c :: l) h1.2 h2 h⟩
theorem upR_append {s x y : Int} : ∀ {a b : List Int}, UpR s (a ++ [x]) → UpR s (y :: b) → x ≤ y + s → UpR s (a ++ x :: y :: b)
  | [], _, _, h2, h => ⟨h, h2⟩
  | [a], _, h1, h2, h => ⟨h1.1, h, h2⟩
  | a :: c :: l, _, h1, h2, h => ⟨h1.1, upR_append (a := c :: l) h1.2 h2 h⟩
theorem upL_reverse {s : Int} : ∀ {l : List Int}, UpL s l → UpR s l.reverse
  | [], _ => trivial
  | [_], _ => trivial
  | x :: y :: r, h => by
    have ih := upL_reverse (l := y :: r) h.2
    rw [List.reverse_cons] at ih ⊢
    rw [List.reverse_cons, List.append_assoc]
    exact upR_append ih trivial h.1
theorem upR_reverse {s : Int} : ∀ {l : List Int}, UpR s l → UpL s l.reverse
  | [], _ => trivial
  | [_], _ => trivial
  | x :: y :: r, h => by
    have ih := upR_reverse (l := y :: r) h.2
    rw [List.reverse_cons] at ih ⊢
    rw [List.reverse_cons, List.append_assoc]
    exact upL_append ih trivial h.1
theorem Gentle.reverse {s : Int} {l : List Int} (h : Gentle s l) : Gentle s l.reverse := ⟨upR_reverse h.2, upL_reverse h.1⟩
end Pl
namespace Pl
open PySem PySem.Spec PyProof.Rows L2
abbrev N__law_cell_at : List Str := [("_law_script" : Str), ("_law_k" : Str)]
def T__law_cell_at : TSp :=
  (pSeq (pIfS (pTest (pOp fLt (pVar 1) (pLenO 0)))
    (pRet (pVal (pIxO 0 (pVar 1))))
    pNext)
    (pRet (pVal (pC (.int 0)))))
abbrev N__law_box : List Str := [("_law_script" : Str), ("_law_k" : Str), ("_law_cell" : Str)]
def T__law_box (g__law_cell_at : FA) : TSp :=
  (pSeq (pSet 2 (pCallA 2 g__law_cell_at (pCons (pVar 0) (pCons (pVar 1) pNil))))
    (pRet (pLstO (pCons (pOp fMulI (pCB fAbs (pCons (pVar 2) pNil)) (pCB fInt1 (pCons (pOp fGe (pCB fAbs (pCons (pVar 2) pNil)) (pC (.int 1000000000000000000))) pNil))) (pCons (pOp fAdd (pOp fAdd (pOp fMod (pVar 2) (pC (.int 2305843009213693951))) (pOp fMulI (pC (.int 39373)) (pVar 1))) (pC (.int 17))) (pCons (pC (.int 0)) pNil))))))
abbrev N__law_take : List Str := [("_law_box_here" : Str), ("_law_size" : Str), ("_law_told" : Str), ("_law_once" : Str), ("_law_twice" : Str)]
def T__law_take (g__law_take : FB) : TSp :=
  (pSeq (pIfS (pTest (pOp fGt (pIxO 0 (pC (.int 0))) (pC (.int 0))))
    (pSeq (pSet 2 (pVal (pOp fMod (pIxO 0 (pC (.int 0))) (pVar 1))))
    (pSeq (pStore 0 (pC (.int 0)) (pOp fDiv (pIxO 0 (pC (.int 0))) (pVar 1)))
    (pRet (pMove 2))))
    pNext)
    (pSeq (pIfS (pTest (pOp fGt (pVar 1) (pC (.int 10000000))))
    (pRet (pVal (pOp fMod (pOp fAdd (pFrz (pCallB 0 2 g__law_take (pCons (pC (.int 10000000)) pNil))) (pOp fMulI (pC (.int 10000000)) (pFrz (pCallB 0 2 g__law_take (pCons (pOp fAdd (pOp fDiv (pOp fSub (pVar 1) (pC (.int 1))) (pC (.int 10000000))) (pC (.int 1))) pNil))))) (pVar 1))))
    pNext)
    (pSeq (pStore 0 (pC (.int 2)) (pOp fAdd (pIxO 0 (pC (.int 2))) (pC (.int 1))))
    (pSeq (pSet 3 (pVal (pOp fMod (pOp fMulI (pOp fAdd (pIxO 0 (pC (.int 1))) (pOp fMulI (pC (.int 48271)) (pIxO 0 (pC (.int 2))))) (pOp fAdd (pC (.int 39373)) (pIxO 0 (pC (.int 2))))) (pC (.int 2147483647)))))
    (pSeq (pSet 4 (pVal (pOp fMod (pOp fMulI (pOp fAdd (pOp fAdd (pVar 3) (pIxO 0 (pC (.int 2)))) (pOp fDiv (pIxO 0 (pC (.int 1))) (pC (.int 1000003)))) (pOp fAdd (pOp fMod (pVar 3) (pC (.int 40009))) (pC (.int 7)))) (pC (.int 2147483629)))))
    (pRet (pVal (pOp fMod (pOp fDiv (pOp fMod (pOp fAdd (pOp fMulI (pVar 4) (pC (.int 48271))) (pVar 3)) (pC (.int 2147483587))) (pC (.int 64))) (pVar 1)))))))))
abbrev N__law_same : List Str := [("_law_told" : Str), ("_law_due" : Str), ("_law_here" : Str), ("_law_two" : Str)]
def T__law_same (g__law_same : FA) : TSp :=
  (pSeq (pIfS (pTest (pIsi2 D.isLst D.isTup (pVar 1)))
    (pSeq (pIfS (pOr (pTest (pOp fNe (pIsi D.isLst (pVar 0)) (pIsi D.isLst (pVar 1)))) (pTest (pOp fNe (pIsi D.isTup (pVar 0)) (pIsi D.isTup (pVar 1)))))
    (pRet (pVal (pC (.bl false))))
    pNext)
    (pRet (pVal (pAndV (pOp fEq (pLenO 0) (pLenO 1)) (pCB fAll (pCons (pLc (jZ2 (pCons (pVar 0) (pCons (pVar 1) pNil))) (hTup 2 (hCons (hName 2) (hCons (hName 3) hNil))) pYes (pFrz (pCallA 2 g__law_same (pCons (pVar 2) (pCons (pVar 3) pNil)))) [2, 3]) pNil))))))
    pNext)
    (pSeq (pIfS (pOr (pTest (pOp fIsN (pVar 1) (pC .non))) (pTest (pIsi2 D.isBl D.isStr (pVar 1))))
    (pRet (pVal (pAndV (pOp fEq (pVar 0) (pVar 1)) (pAndV (pOp fEq (pIsi D.isBl (pVar 0)) (pIsi D.isBl (pVar 1))) (pOp fEq (pOp fIsN (pVar 0) (pC .non)) (pOp fIsN (pVar 1) (pC .non)))))))
    pNext)
    (pRet (pVal (pAndV (pIsi D.isInt (pVar 0)) (pAndV (pNotV (pIsi D.isBl (pVar 0))) (pOp fEq (pVar 0) (pVar 1))))))))
end Pl
namespace Pl
open PySem PySem.Spec PyProof.Rows L2
def wordS : Bool → Str
  | true => "cut"
  | false => "fill"
def windD (cut : Bool) (s : Int) : D := .tup [.str (wordS cut), .int s]
theorem sh_cut : (D.str "cut").sh := by unfold D.sh; decide +kernel
theorem sh_fill : (D.str "fill").sh := by unfold D.sh; decide +kernel
theorem sh_int (i : Int) : (D.int i).sh := by unfold D.sh toPy; rfl
theorem sh_bl (i : Bool) : (D.bl i).sh := by unfold D.sh toPy; rfl
theorem eqv_bl (a b : Bool) : (D.bl a).eqv (.bl b) = (a == b) := rfl
theorem eqv_int (a b : Int) : (D.int a).eqv (.int b) = (a == b) := rfl
def g__law_cell_at : FA := fun ds C => ∃ ns k, ds = [.scr ns, .int k] ∧ 0 ≤ k ∧ ∀ n, C (.val (.int n))
theorem rd__law_cell_at : ∀ ds C, ds.length = 2 → g__law_cell_at ds C → T__law_cell_at { nx := fun _ => C (.val .non), rt := fun c _ => C c } (startA N__law_cell_at ds) := by
  rintro ds C - ⟨ns, k, rfl, hk, hC⟩
  refine ifB (fun h => ?_) (fun h => ?_)
  · have h := dT h
    obtain ⟨j, rfl⟩ := Int.eq_ofNat_of_zero_le hk
    have hj : j < ns.length := by simpa using h
    exact ⟨ns[j], atI_nat (List.getElem?_eq_getElem hj), hC _⟩
  · exact hC _
def Bx (n : Nat) (xs : List D) : Prop := ∃ a b c : Int, xs = [.int a, .int b, .int c] ∧ 0 ≤ a ∧ 0 ≤ b ∧ b ≤ 2 ^ 62 ∧ 0 ≤ c ∧ c ≤ n
theorem Bx.mono {n m : Nat} {xs : List D} (h : Bx n xs) (hm : n ≤ m) : Bx m xs := by
  obtain ⟨a, b, c, h1, h2, h3, h4, h5, h6⟩ := h
  exact ⟨a, b, c, h1, h2, h3, h4, h5, by omega⟩
def g__law_box : FA := fun ds C => ∃ ns k, ds = [.scr ns, .int k] ∧ 0 ≤ k ∧ k ≤ 1000000 ∧ ∀ a xs, Bx 0 xs → C (.own a xs)
theorem iabs_nonneg (i : Int) : 0 ≤ iabs i := by unfold iabs; split <;> omega
theorem rd__law_box : ∀ ds C, ds.length = 2 → g__law_box ds C → T__law_box g__law_cell_at { nx := fun _ => C (.val .non), rt := fun c _ => C c } (startA N__law_box ds) := by
  rintro ds C - ⟨ns, k, rfl, hk, hk2, hC⟩
  refine ⟨rfl, ns, k, rfl, hk, fun n => ?_⟩
  refine ⟨.inr ?_, (by show (0 : Int) < 2305843009213693951; decide), .inl (by constructor <;> decide), by show (3 : Nat) ≤ sizeLine; decide, fun a => hC a _ ⟨_, _, _, rfl, ?_, ?_, ?_, Int.le_refl _, Int.le_refl _⟩⟩
  · constructor <;> split <;> decide
  · refine Int.mul_nonneg (iabs_nonneg n) ?_
    split <;> decide
  · have := Int.emod_nonneg n (b := 2305843009213693951) (by decide)
    omega
  · have := Int.emod_lt_of_pos n (b := 2305843009213693951) (by decide)
    omega
def g_take (top : Int) : FB := fun xs ds C => ∃ n size, n ≤ 1000000000000 ∧ Bx n xs ∧ ds = [.int size] ∧ 0 < size ∧ size ≤ top ∧ ∀ r ys, 0 ≤ r → r < size → Bx (n + 2) ys → C (.val (.int r)) ys
def g_none : FB := fun _ _ _ => False
def g_take0 : FB := fun xs ds C => ∃ n size, n ≤ 1000000000001 ∧ Bx n xs ∧ ds = [.int size] ∧ 0 < size ∧ size ≤ 10000000 ∧ ∀ r ys, 0 ≤ r → r < size → Bx (n + 1) ys → C (.val (.int r)) ys
theorem rd_take0g (gg : FB) : ∀ a xs ds C, ds.length + 1 = 2 → g_take0 xs ds C → T__law_take gg { nx := fun ρ => ∃ ys, ρ[0]? = some (some (.own a ys)) ∧ C (.val .non) ys, rt := fun c ρ => ∃ ys, ρ[0]? = some (some (.own a ys)) ∧ C c ys } (startB N__law_take a xs ds) := by
  rintro a xs ds C - ⟨n, size, hn, ⟨b0, b1, b2, rfl, h0, h1, h1', h2, h2'⟩, rfl, hs0, hs, hC⟩
  refine ⟨_, _, _, rfl, rfl, rfl, ifB (fun h => ?_) (fun h => ?_)⟩
  · have h := dT h
    refine ⟨_, _, _, rfl, rfl, rfl, hs0, _, _, _, rfl, rfl, rfl, ⟨hs0, by omega⟩, _, _, _, rfl, rfl, rfl, _, rfl, hC _ _ (Int.emod_nonneg _ (by omega)) (Int.emod_lt_of_pos _ hs0) ⟨_, _, _, rfl, Int.ediv_nonneg h0 (by omega), h1, h1', h2, by omega⟩⟩
  · refine ifF (decide_eq_false (by omega)) ?_
    refine ⟨_, _, _, rfl, rfl, rfl, _, _, _, rfl, rfl, rfl, ?_⟩
    refine ⟨_, _, _, rfl, rfl, rfl, _, _, _, rfl, rfl, rfl, .inl ⟨by decide, by decide⟩, _, _, _, rfl, rfl, rfl, .inr ⟨?_, ?_⟩, (by show (0 : Int) < 2147483647; decide), ?_⟩
    · show (-(2 ^ 64) : Int) < 39373 + (b2 + 1); omega
    · show (39373 + (b2 + 1) : Int) < 2 ^ 64; omega
    refine ⟨_, _, _, rfl, rfl, rfl, _, _, _, rfl, rfl, rfl, ⟨by decide, by decide⟩, (by show (0 : Int) < 40009; decide), .inr ⟨?_, ?_⟩, (by show (0 : Int) < 2147483629; decide), ?_⟩
    · have := Int.emod_nonneg ((b1 + 48271 * (b2 + 1)) * (39373 + (b2 + 1)) % 2147483647) (b := 40009) (by decide)
      show (-(2 ^ 64) : Int) < (b1 + 48271 * (b2 + 1)) * (39373 + (b2 + 1)) % 2147483647 % 40009 + 7
      omega
    · have := Int.emod_lt_of_pos ((b1 + 48271 * (b2 + 1)) * (39373 + (b2 + 1)) % 2147483647) (b := 40009) (by decide)
      show (b1 + 48271 * (b2 + 1)) * (39373 + (b2 + 1)) % 2147483647 % 40009 + 7 < (2 ^ 64 : Int)
      omega
    refine ⟨.inr ⟨by decide, by decide⟩, (by show (0 : Int) < 2147483587; decide), ⟨by decide, by decide⟩, hs0, _, rfl, hC _ _ (Int.emod_nonneg _ (by omega)) (Int.emod_lt_of_pos _ hs0) ⟨_, _, _, rfl, h0, h1, h1', by omega, ?_⟩⟩
    show b2 + 1 ≤ ((n + 1 : Nat) : Int)
    omega
theorem rd_take0 : ∀ a xs ds C, ds.length + 1 = 2 → g_take0 xs ds C → T__law_take g_none { nx := fun ρ => ∃ ys, ρ[0]? = some (some (.own a ys)) ∧ C (.val .non) ys, rt := fun c ρ => ∃ ys, ρ[0]? = some (some (.own a ys)) ∧ C c ys } (startB N__law_take a xs ds) := rd_take0g g_none
theorem rd_take : ∀ a xs ds C, ds.length + 1 = 2 → g_take 100000000000000 xs ds C → T__law_take g_take0 { nx := fun ρ => ∃ ys, ρ[0]? = some (some (.own a ys)) ∧ C (.val .non) ys, rt := fun c ρ => ∃ ys, ρ[0]? = some (some (.own a ys)) ∧ C c ys } (startB N__law_take a xs ds) := by
  rintro a xs ds C - ⟨n, size, hn, hB, rfl, hs0, hs, hC⟩
  have hB' := hB
  obtain ⟨b0, b1, b2, rfl, h0, h1, h1', h2, h2'⟩ := hB
  by_cases hbig : size ≤ 10000000
  · exact rd_take0g g_take0 a _ _ C rfl ⟨n, size, by omega, hB', rfl, hs0, hbig, fun r ys q1 q2 q3 => hC r ys q1 q2 (q3.mono (by omega))⟩
  · refine ⟨_, _, _, rfl, rfl, rfl, ifB (fun h => ?_) (fun h => ?_)⟩
    · have h := dT h
      refine ⟨_, _, _, rfl, rfl, rfl, hs0, _, _, _, rfl, rfl, rfl, ⟨hs0, by omega⟩, _, _, _, rfl, rfl, rfl, _, rfl, hC _ _ (Int.emod_nonneg _ (by omega)) (Int.emod_lt_of_pos _ hs0) ⟨_, _, _, rfl, Int.ediv_nonneg h0 (by omega), h1, h1', h2, by omega⟩⟩
    · refine ifT (decide_eq_true (by omega)) ?_
      refine ⟨_, rfl, rfl, n, 10000000, by omega, hB', rfl, by decide, by decide, fun r1 ys1 q1 q2 q3 => ?_⟩
      have e1 : 0 ≤ (size - 1) / 10000000 := Int.ediv_nonneg (by omega) (by decide)
      have e2 : (size - 1) / 10000000 < 10000000 := Int.ediv_lt_of_lt_mul (by decide) (by omega)
      refine ⟨⟨by decide, by decide⟩, _, rfl, rfl, n + 1, (size - 1) / 10000000 + 1, by omega, q3, rfl, by omega, by omega, fun r2 ys2 p1 p2 p3 => ?_⟩
      refine ⟨.inl ⟨by decide, by decide⟩, hs0, _, rfl, hC _ _ (Int.emod_nonneg _ (by omega)) (Int.emod_lt_of_pos _ hs0) p3⟩
end Pl
namespace Pl
open PySem PySem.Spec PyProof.Rows L2
def g_law : FA := fun ds C => ∃ ns, ds = [.scr ns] ∧ ns.length ≤ 63 ∧ C (.val (.bl true))
end Pl
namespace Pl
open PySem PySem.Spec PyProof.Rows L2
theorem eqv_str (z : Str) : (D.str z).eqv (.str z) = true := by
  show (z == z) = true
  simp
theorem zip_same {α : Type} {f : α → α → D} : ∀ (xs : List α), List.zipWith f xs xs = xs.map fun x => f x x
  | [] => rfl
  | x :: xs => by simp [zip_same xs]
theorem zipD_same (xs : List D) : zipD xs xs = xs.map fun x => .tup [x, x] := zip_same xs
theorem lcW_same {vs : List Nat} {g : TGp} {te : TEp} {Q : List D → Ro → Prop} {ρ : Ro} {xs : List D} (hs : ∀ x ∈ xs, ElemOk vs g te ρ (.tup [x, x]) (.bl true)) (hl : xs.length ≤ 1000) (hQ : Q (xs.map fun _ => .bl true) ρ) : lcW vs g pYes te Q (zipD xs xs) [] ρ := by
  rw [zipD_same]
  refine lcW_map (f := fun _ => .bl true) _ [] (fun d hd => ?_) (by simpa using hl) ?_
  · obtain ⟨x, hx, rfl⟩ := List.mem_map.mp hd
    exact hs x hx
  · rw [List.nil_append, List.map_map]
    exact hQ
theorem all_true {α : Type} (xs : List α) : ((xs.map fun _ => true).all id) = true := by
  induction xs with
  | nil => rfl
  | cons x xs ih => rw [List.map_cons, List.all_cons, ih]; rfl
theorem map_true {α : Type} (xs : List α) : (xs.map fun _ => D.bl true) = (xs.map fun _ => true).map D.bl := by rw [List.map_map]; rfl
theorem rd_same (n : Nat) : ∀ ds C, ds.length = 2 → gS (n + 1) ds C → T__law_same (gS n) { nx := fun _ => C (.val .non), rt := fun c _ => C c } (startA N__law_same ds) := by
  rintro ds C - ⟨d, rfl, ok, hC⟩
  cases d with
  | non =>
    have h : D.non.sh := by unfold D.sh toPy; rfl
    exact ⟨h, h, sh_bl _, sh_bl _, sh_bl _, sh_bl _, hC⟩
  | bl b =>
    refine ⟨sh_bl _, sh_bl _, ?_⟩
    exact ifT (by rw [eqv_bl]; simp) ⟨sh_bl _, sh_bl _, sh_bl _, sh_bl _, hC⟩
  | int i =>
    refine ⟨sh_int _, sh_int _, ?_⟩
    show C (.val (.bl ((D.int i).eqv (.int i))))
    rw [show (D.int i).eqv (.int i) = true by rw [eqv_int]; simp]
    exact hC
  | str z =>
    have hz : (D.str z).sh := by cases n <;> exact ok
    refine ⟨hz, hz, ?_⟩
    exact ifT (eqv_str z) ⟨sh_bl _, sh_bl _, sh_bl _, sh_bl _, hC⟩
  | scr ns => cases n <;> exact ok.elim
  | adr a => cases n <;> exact ok.elim
  | exc _ _ => cases n <;> exact ok.elim
  | lst xs =>
    cases n with
    | zero => exact ok.elim
    | succ n =>
      obtain ⟨hl, hx⟩ := ok
      refine ⟨sh_bl _, sh_bl _, sh_bl _, sh_bl _, sh_int _, sh_int _, ifT (by rw [eqv_int]; simp) ?_⟩
      refine lcW_same (fun x hx' K hK => ⟨rfl, rfl, rfl, x, rfl, hx x hx', hK _ rfl⟩) hl ⟨_, map_true xs, ?_⟩
      rw [all_true]; exact hC
  | tup xs =>
    cases n with
    | zero => exact ok.elim
    | succ n =>
      obtain ⟨hl, hx⟩ := ok
      refine ⟨sh_bl _, sh_bl _, sh_bl _, sh_bl _, sh_int _, sh_int _, ifT (by rw [eqv_int]; simp) ?_⟩
      refine lcW_same (fun x hx' K hK => ⟨rfl, rfl, rfl, x, rfl, hx x hx', hK _ rfl⟩) hl ⟨_, map_true xs, ?_⟩
      rw [all_true]; exact hC
end Pl
namespace Pl
open PySem PySem.Spec PyProof.Rows L2
abbrev Wd := Bool × Int
def windsD (ws : List Wd) : List D := ws.map fun w => windD w.1 w.2
def Am (d : D) (ws : List Wd) : Prop := d = .lst (windsD ws) ∨ d = .tup (windsD ws)
end Pl
namespace Pl
open PySem PySem.Spec PyProof.Rows L2
abbrev vI (i : Int) : Option Cell := some (.val (.int i))
theorem okN_two {m : Nat} {d e : D} (h1 : okN m d) (h2 : okN m e) : okN (m + 1) (.lst [d, e]) := ⟨by show (2 : Nat) ≤ 1000; decide, fun x hx => by
  rcases List.mem_cons.mp hx with q | q
  · rw [q]; exact h1
  · rw [List.mem_singleton.mp q]; exact h2⟩
end Pl
namespace Pl
def cT : List Bool → Nat
  | [] => 0
  | true :: o => cT o + 1
  | false :: o => cT o
def cF : List Bool → Nat
  | [] => 0
  | true :: o => cF o
  | false :: o => cF o + 1
theorem cT_append : ∀ (a b : List Bool), cT (a ++ b) = cT a + cT b
  | [], b => by simp [cT]
  | true :: a, b => by show cT (a ++ b) + 1 = cT a + 1 + cT b; rw [cT_append a b]; omega
  | false :: a, b => cT_append a b
theorem cF_append : ∀ (a b : List Bool), cF (a ++ b) = cF a + cF b
  | [], b => by simp [cF]
  | false :: a, b => by show cF (a ++ b) + 1 = cF a + 1 + cF b; rw [cF_append a b]; omega
  | true :: a, b => cF_append a b
theorem cT_cF : ∀ o : List Bool, cT o + cF o = o.length
  | [] => rfl
  | true :: o => by have := cT_cF o; show cT o + 1 + cF o = o.length + 1; omega
  | false :: o => by have := cT_cF o; show cT o + (cF o + 1) = o.length + 1; omega
def aheadL (k : Nat) : List Bool → List Nat
  | [] => []
  | true :: o => aheadL (k + 1) o
  | false :: o => k :: aheadL k o
theorem aheadL_len : ∀ (o : List Bool) (k : Nat), (aheadL k o).length = cF o
  | [], _ => rfl
  | true :: o, k => aheadL_len o (k + 1)
  | false :: o, k => by show (aheadL k o).length + 1 = cF o + 1; rw [aheadL_len o k]
theorem aheadL_le : ∀ (o : List Bool) (k : Nat), ∀ x ∈ aheadL k o, k ≤ x ∧ x ≤ k + cT o
  | [], _, x, h => by simp [aheadL] at h
  | true :: o, k, x, h => by
    have := aheadL_le o (k + 1) x h
    show k ≤ x ∧ x ≤ k + (cT o + 1); omega
  | false :: o, k, x, h => by
    rcases List.mem_cons.mp h with e | h
    · subst e; show x ≤ x ∧ x ≤ x + cT o; omega
    · exact aheadL_le o k x h
end Pl
namespace Pl
theorem cT_rep : ∀ n : Nat, cT (List.replicate n true) = n
  | 0 => rfl
  | n + 1 => by show cT (List.replicate n true) + 1 = n + 1; rw [cT_rep n]
theorem cF_rep : ∀ n : Nat, cF (List.replicate n true) = 0
  | 0 => rfl
  | n + 1 => cF_rep n
abbrev Wo := Bool × Nat × Nat
def hasW (as : List Nat) (w : Wo) : Bool := w.1 == decide (w.2.1 < as.getD w.2.2 0)
end Pl
namespace Pl
open PySem PySem.Spec PyProof.Rows L2
def corL (c f : Nat) : List Bool → List Wo
  | true :: r => (match r with | false :: _ => [(true, c, f)] | _ => []) ++ corL (c + 1) f r
  | false :: r => (match r with | true :: _ => [(false, c, f)] | _ => []) ++ corL c (f + 1) r
  | [] => []
theorem corL_T (c f : Nat) (r : List Bool) {w : Wo} (h : w ∈ corL (c + 1) f r) : w ∈ corL c f (true :: r) := List.mem_append_right _ h
theorem corL_F (c f : Nat) (r : List Bool) {w : Wo} (h : w ∈ corL c (f + 1) r) : w ∈ corL c f (false :: r) := List.mem_append_right _ h
theorem cor_follows : ∀ (o : List Bool) (c f i j : Nat), c ≤ i → i < c + cT o → f ≤ j → j < f + cF o → ∃ w ∈ corL c f o, w.1 = decide (i < (aheadL c o).getD (j - f) 0) ∧ (if w.1 = true then i ≤ w.2.1 ∧ w.2.2 ≤ j else w.2.1 ≤ i ∧ j ≤ w.2.2)
  | [], c, f, i, j, h1, h2, _, _ => by simp [cT] at h2; omega
  | true :: r, c, f, i, j, h1, h2, h3, h4 => by
    have h2 : i < c + (cT r + 1) := h2
    have h4 : j < f + cF r := h4
    have ea : aheadL c (true :: r) = aheadL (c + 1) r := rfl
    rw [ea]
    by_cases hi : i = c
    · subst hi
      match r, h4 with
      | [], h4 => simp [cF] at h4; omega
      | false :: r, h4 =>
        refine ⟨(true, i, f), by simp [corL], ?_, ?_⟩
        · show true = _
          have hin : (aheadL (i + 1) (false :: r)).getD (j - f) 0 ∈ aheadL (i + 1) (false :: r) := by
            rw [List.getD_eq_getElem?_getD, List.getElem?_eq_getElem (by rw [aheadL_len]; omega)]; exact List.getElem_mem _
          have := (aheadL_le _ _ _ hin).1
          exact (decide_eq_true (by omega)).symm
        · show (if true = true then _ else _)
          rw [if_pos rfl]; exact ⟨Nat.le_refl _, h3⟩
      | true :: r, h4 =>
        obtain ⟨w, hw, e, q⟩ := cor_follows (true :: r) (i + 1) f (i + 1) j (Nat.le_refl _) (by show i + 1 < i + 1 + (cT r + 1); omega) h3 h4
        have hin : (aheadL (i + 1) (true :: r)).getD (j - f) 0 ∈ aheadL (i + 1) (true :: r) := by
          rw [List.getD_eq_getElem?_getD, List.getElem?_eq_getElem (by rw [aheadL_len]; omega)]; exact List.getElem_mem _
        have hin2 : (aheadL (i + 2) r).getD (j - f) 0 ∈ aheadL (i + 2) r := hin
        have := (aheadL_le _ _ _ hin2).1
        have e1 : decide (i + 1 < (aheadL (i + 1) (true :: r)).getD (j - f) 0) = true := decide_eq_true (by show i + 1 < (aheadL (i + 2) r).getD (j - f) 0; omega)
        have e2 : decide (i < (aheadL (i + 1) (true :: r)).getD (j - f) 0) = true := decide_eq_true (by show i < (aheadL (i + 2) r).getD (j - f) 0; omega)
        rw [e1] at e
        refine ⟨w, corL_T _ _ _ hw, by rw [e, e2], ?_⟩
        rw [if_pos e] at q ⊢
        exact ⟨by omega, q.2⟩
    · obtain ⟨w, hw, e, q⟩ := cor_follows r (c + 1) f i j (by omega) (by omega) h3 h4
      exact ⟨w, corL_T _ _ _ hw, e, q⟩
  | false :: r, c, f, i, j, h1, h2, h3, h4 => by
    have h2 : i < c + cT r := h2
    have h4 : j < f + (cF r + 1) := h4
    have ea : aheadL c (false :: r) = c :: aheadL c r := rfl
    rw [ea]
    by_cases hj : j = f
    · subst hj
      rw [Nat.sub_self, show (c :: aheadL c r).getD 0 0 = c from rfl, decide_eq_false (by omega : ¬ i < c)]
      match r, h2 with
      | [], h2 => simp [cT] at h2; omega
      | true :: r, h2 => exact ⟨(false, c, j), by simp [corL], rfl, by show (if false = true then _ else _); rw [if_neg (by decide)]; exact ⟨h1, Nat.le_refl _⟩⟩
      | false :: r, h2 =>
        obtain ⟨w, hw, e, q⟩ := cor_follows (false :: r) c (j + 1) i (j + 1) h1 h2 (Nat.le_refl _) (by show j + 1 < j + 1 + (cF r + 1); omega)
        rw [Nat.sub_self, show (aheadL c (false :: r)).getD 0 0 = c from rfl, decide_eq_false (by omega : ¬ i < c)] at e
        refine ⟨w, corL_F _ _ _ hw, e, ?_⟩
        rw [if_neg (by rw [e]; decide)] at q ⊢
        exact ⟨q.1, by omega⟩
    · obtain ⟨w, hw, e, q⟩ := cor_follows r c (f + 1) i j h1 h2 (by omega) (by omega)
      refine ⟨w, corL_F _ _ _ hw, ?_, q⟩
      rw [e, show j - f = (j - (f + 1)) + 1 by omega]; rfl
end Pl
namespace Pl
open PySem PySem.Spec PyProof.Rows L2
def row (c : Bool) (s : Int) (ns : List Int) (i : Int) : List Int := if c = true then reach s ns i else reachF s ns i
def Wn (w : D) (c : Bool) (s : Int) : Prop := w = windD c s ∨ w = .lst [.str (wordS c), .int s]
def enumFrom (h : Nat → Int → D) (k : Nat) : List Int → List D
  | [] => []
  | x :: r => h k x :: enumFrom h (k + 1) r
end Pl
namespace Pl
open PySem PySem.Spec PyProof.Rows L2
variable [TJ]
section
variable {X : Cx} {elt tg iter : Expr} {ifs : List Expr} {scope : Scope} {own : List (Str × Nat)} {pos : Pos} {wi : TI} {Ti : TAp} {Gp : TGp} {is : List Nat} {Tt : TTp} {Te : TEp} {vs : List Nat}
theorem pps_setLcV {i : Nat} {y : Str} {py spos : Pos} (hc : X.calm = true) (hN : X.N.Nodup) (hi : PPI X tg iter wi Ti) (ok : BlkOk X.N X.env.scope scope own)
    (hg : ∀ (s : Shared) (H : Hp) (C : Addr) (cl : List (Str × Addr)) (fp : List Addr), PTg (X.blk s H scope (compEnvC scope cl C X.env) fp) tg (liftG X.K Gp is) Gp is) (ht : ∀ (s : Shared) (H : Hp) (C : Addr) (cl : List (Str × Addr)) (fp : List Addr), PPTs (X.blk s H scope (compEnvC scope cl C X.env) fp) ifs (liftT X.K Tt) Tt)
    (he : ∀ (s : Shared) (H : Hp) (C : Addr) (cl : List (Str × Addr)) (fp : List Addr), PPE (X.blk s H scope (compEnvC scope cl C X.env) fp) elt (liftE X.K Te) Te)
    (hy : X.N[i]? = some y := by rfl) (hyl : X.env.scope.names.lookup y = some .local := by rfl)
    (hsw : swapsWith (.ListComp elt [⟨tg, iter, ifs, 0⟩] scope pos) (some (.Name y py)) spos.line X.env = pure true := by exact sw_true rfl rfl rfl (by decide +kernel)) (hs : ∀ x, foldedSetIterable iter X.env x = pure x := by intro _; rfl) (hsub : ∀ i ∈ is, i ∈ own.map (·.2) := by decide) :
    PPS X (.Assign [.Name y py] (.ListComp elt [⟨tg, iter, ifs, 0⟩] scope pos) spos) (tAsg (tLc wi (liftG X.K Gp is) (liftT X.K Tt) (liftE X.K Te) (own.map (·.2))) (gName i)) (pSet i (pVal (pLc Ti Gp Tt Te (own.map (·.2))))) :=
  ⟨(pps_setLcL (i := i) hc hN hi ok hg ht he hy hyl hsw hs hsub).ps, snd_set (ppc_val (ppe_lcL (pos := pos) hc hN hi ok hg ht he hs hsub)).snd⟩
end
end Pl
namespace Pl
open PySem PySem.Spec PyProof.Rows L2
theorem lcW_mapS {α : Type} {vs : List Nat} {g : TGp} {te : TEp} {Q : List D → Ro → Prop} {d f : α → D} {ρ : Ro} : ∀ (xs : List α) (acc : List D), (∀ x ∈ xs, ElemOk vs g te ρ (d x) (f x)) → acc.length + xs.length ≤ sizeLine → Q (acc ++ xs.map f) ρ → lcW vs g pYes te Q (xs.map d) acc ρ
  | [], acc, _, _, hQ => by
    have hQ : Q (acc ++ []) ρ := hQ
    rw [List.append_nil] at hQ
    exact hQ
  | x :: xs, acc, h, hl, hQ => by
    have hl' : acc.length + (xs.length + 1) ≤ sizeLine := hl
    refine h x (by simp) _ fun ρ4 e => ⟨by omega, ?_⟩
    rw [e]
    refine lcW_mapS xs _ (fun y hy => h y (by simp [hy])) (by rw [List.length_append]; show acc.length + 1 + xs.length ≤ sizeLine; omega) ?_
    rw [List.append_assoc]
    exact hQ
end Pl
namespace Pl
open PySem PySem.Spec PyProof.Rows L2
variable [TJ]
section
variable {X : Cx} {o e : Expr} {to te : TE} {To Te : TEp}
def pCount (To Te : TEp) : TEp := fun ρ Q => To ρ fun x ρ1 => match x with
  | .str a => Te ρ1 fun y ρ2 => match y with
    | .str b => Q (.int (Txt.count a b)) ρ2
    | _ => False
  | _ => False
theorem ppe_count {apos pos : Pos} (ho : PPE X o to To) (he : PPE X e te Te) (hs : starEach [e] X.env = [(false, eval e X.env)] := by rfl) (hbase : attributeBase o "count" X.env (eval o X.env) = eval o X.env := by rfl) (hline : (apos.endLine == pos.line) = true := by rfl) :
    PPE X (.Call (.Attribute o "count" apos) [e] [] pos) (tM1 (fun x xs H Q => ∃ a b, x = .str a ∧ xs = [.str b] ∧ Q (.int (Txt.count a b)) H) to te) (pCount To Te) := ⟨pe_m1 F.slot_str_count F.type_str_count mt_count ho.pe he.pe hs hbase hline, fun G F H σ ρ Q R S hT k =>
  ho.snd G F H σ ρ _ _ S hT fun v d F1 H1 ρ1 u1 S1 r1 q1 => by
    cases r1 with
    | str a =>
      refine ⟨⟨a, rfl⟩, he.snd G F1 H1 σ ρ1 _ _ S1 q1 fun w dw F2 H2 ρ2 u2 S2 r2 q2 => ?_⟩
      cases r2 with
      | str b => exact ⟨a, b, rfl, rfl, k _ _ F2 H2 ρ2 (u1.trans u2) S2 (.int _) q2⟩
      | _ => exact q2.elim
    | _ => exact q1.elim⟩
end
def signsD (x : Str) : List D := x.cps.toList.map fun c => .str ⟨#[c]⟩
theorem signsD_get {x : Str} {i : Nat} {d : D} (h : (signsD x)[i]? = some d) : ∃ c, x.cps[i]? = some c ∧ d = .str ⟨#[c]⟩ := by
  unfold signsD at h
  rw [List.getElem?_map] at h
  cases e : x.cps.toList[i]? with
  | none => rw [e] at h; cases h
  | some c => rw [e] at h; exact ⟨c, by rw [← Array.getElem?_toList]; exact e, (Option.some.inj h).symm⟩
theorem signsD_len (x : Str) : (signsD x).length = x.cps.size := by simp [signsD]
def ItES (x : Str) : It :=
  ⟨fun i _ => i < x.cps.size,
    fun i H v H' => ∃ T c, v = .ref T ∧ H T = none ∧ H' = upd H T (.tup [.int (i : Nat), .str ⟨#[c]⟩]) ∧ x.cps[i]? = some c,
    fun i _ => i = x.cps.size⟩
theorem turn_es {P : Program} {w : World} {K : PySem.W.Frag} {elts : List Expr} {kk : Nat} {tpos : Pos} {x : Str} {t : Tok} {e it : Addr} (hei : e ≠ it) :
    Turn P w K (.Tuple elts kk tpos) (ItES x) [e, it] e (fun i h => (∃ old, IsEnum h e it ((0 : Int) + (i : Int)) old) ∧ h.IsStrIter it (strIterType x) x t i) := by
  refine turn_goes (by simp) (fun i h st d hd => ?_) (fun i h h' st k => ?_) (fun X hP hw hK hc i pins s σ H I hf st hg => ?_) fun A i s Q E st h => let ⟨⟨_, he⟩, _⟩ := st; wpAny_pyIter_enum he h
  · obtain ⟨⟨old, he⟩, o, h1, hc, h3⟩ := st
    have e' : d = e ∨ d = it := by simpa using hd
    rcases e' with q | q
    · rw [q]; exact ⟨_, he, fun v q => nomatch q⟩
    · rw [q]; exact ⟨o, h1, fun v z => by rw [h3] at z; cases z⟩
  · obtain ⟨⟨old, he⟩, o, h1, hc, h3⟩ := st
    exact ⟨⟨old, k e (by simp) _ he⟩, o, k it (by simp) o h1, hc, h3⟩
  · subst hP hw hK
    obtain ⟨he, h1⟩ := st
    have hh : X.A.in1.handled = none := I.ok.hd hc
    refine ⟨_, _, _, _, _, GoesN.enumFrom 0 (Draws.text hh it x t) e hei (by simp [hei]) (by simp), ⟨he, h1⟩, fun d hd => hd, fun hgo => ⟨hgo, fun v h' hY st' hk => ?_⟩, fun hs => hs⟩
    obtain ⟨T, tt, u, rfl, hT, hu, htup⟩ := hY
    obtain ⟨he', h1'⟩ := st'
    refine ⟨⟨he', h1'⟩, ?_⟩
    obtain ⟨c, uu, hc2, rfl⟩ := hu
    exact ⟨T, .tup [.int (i : Nat), .str ⟨#[c]⟩], rfl, hT, tup_ok (us := [.int ((0 : Int) + (i : Int)) tt, .str ⟨#[c]⟩ uu]) (.cons ⟨tt, by rw [Int.zero_add]⟩ (.cons ⟨uu, rfl⟩ .nil)) htup (by show 2 ≤ sizeLine; decide), T, c, rfl, I.hok.fresh hT, rfl, hc2⟩
def iES (ta : TA) : TI := fun σ H R => ta σ H fun vs H1 => ∃ x, vs = [.str x] ∧ R (ItES x) H1
theorem pi_es {X : Cx} {e : Expr} {ta : TA} {p pos tpos : Pos} {elts : List Expr} {kk : Nat} (hg : Gl X "enumerate") (hm : X.mg "enumerate" = none) (ha : PA X [e] ta) (hs : starEach [e] X.env = [(false, eval e X.env)] := by rfl) :
    PI X (.Tuple elts kk tpos) (.Call (.Name "enumerate" p) [e] [] pos) (iES ta) := by
  refine ⟨fun pins s σ H R I h => ?_⟩
  refine Call_ (ld_blt (u := .type "enumerate") I hg hm (by decide +kernel) (PyProof.Rows.callWith_type1 (thn (ha.run pos pins s σ H _ I h) fun us s1 ⟨vs, H1, I1, r1, q1⟩ => ?_) (by rw [hs]; rfl) rfl))
  obtain ⟨x, ex, q⟩ := q1
  subst ex
  obtain ⟨u, rfl, t, rfl⟩ := r1.one
  refine enum_begins1 (begins_text x t) trivial fun h' he h1 hsz hk => wpAny_pyIter_enum he ?_
  have I2 : Inv X pins σ H1 { s1 with heap := h' } := I1.kept (t' := s1.toks) hk
  refine ⟨s1.heap.objs.size + 1, [s1.heap.objs.size + 1, s1.heap.objs.size], _, _, H1, rfl, I2,
    turn_es (Nat.ne_of_gt (Nat.lt_succ_self _)), ⟨⟨_, he⟩, ⟨_, h1, rfl, rfl⟩⟩, fun d hdm => ?_, q⟩
  have hle : s1.heap.objs.size ≤ d := by
    have e' : d = s1.heap.objs.size + 1 ∨ d = s1.heap.objs.size := by simpa using hdm
    rcases e' with z | z
    · rw [z]; exact Nat.le_add_right _ _
    · rw [z]; exact Nat.le_refl _
  exact I1.fpOk hle (I1.hok.fresh hle)
theorem itrep_es {K : PySem.W.Frag} {F : Hp} (x : Str) : ItRep K (ItES x) F (enumD 0 (signsD x)) := fun F' H e1 e2 => by
  refine ⟨fun i d hd => ?_, by show (enumD 0 (signsD x)).length = x.cps.size; rw [enumD_len, signsD_len]⟩
  obtain ⟨y, hy, rfl⟩ := enumD_get hd
  obtain ⟨c, hc, rfl⟩ := signsD_get hy
  refine ⟨(Array.getElem?_eq_some_iff.mp hc).1, fun v H' q => ?_⟩
  obtain ⟨T, c', rfl, hT, rfl, hc'⟩ := q
  rw [hc] at hc'
  cases hc'
  rw [Nat.zero_add]
  exact ⟨_, .new hT (.tup upd_same (.cons (.int _) (.cons (.str _) .nil)))⟩
section
variable {X : Cx} {pos : Pos}
def jES (T : TAp) : TAp := fun ρ Q => T ρ fun ds ρ1 => match ds with | [.str x] => Q (enumD 0 (signsD x)) ρ1 | _ => False
theorem ppi_es {e : Expr} {ta : TA} {TA' : TAp} {p tpos : Pos} {elts : List Expr} {kk : Nat} (hg : Gl X "enumerate") (hm : X.mg "enumerate" = none) (ha : PPA X [e] ta TA') (hs : starEach [e] X.env = [(false, eval e X.env)] := by rfl) :
    PPI X (.Tuple elts kk tpos) (.Call (.Name "enumerate" p) [e] [] pos) (iES ta) (jES TA') := ⟨pi_es hg hm ha.pa hs, fun G F H σ ρ Q R S h k =>
  ha.snd G F H σ ρ _ _ S h fun vs ds F' H' ρ' u S' rv q => by
    match ds, rv, q with
    | [.str x], .cons rx .nil, q =>
      cases rx
      exact ⟨x, rfl, k _ _ F' H' ρ' u S' (itrep_es x) q⟩⟩
end
theorem Reps.eraseIdx {K : PySem.W.Frag} {F : Hp} : ∀ {vs : List V} {ds : List D} (i : Nat), Reps K F vs ds → Reps K F (vs.eraseIdx i) (ds.eraseIdx i)
  | _, _, _, .nil => .nil
  | _, _, 0, .cons _ t => t
  | _, _, i + 1, .cons q t => .cons q (Reps.eraseIdx i t)
theorem seqIndex_nat {k n : Nat} (h : k < n) : seqIndex? (k : Int) n = some k := by
  have h1 : ¬ ((k : Int) < 0) := by omega
  have h2 : (decide (0 ≤ (k : Int)) && decide ((k : Int) < (n : Int))) = true := by simp; omega
  show (if (decide (0 ≤ (if (k : Int) < 0 then (k : Int) + n else k)) && decide ((if (k : Int) < 0 then (k : Int) + n else k) < (n : Int))) = true then some (if (k : Int) < 0 then (k : Int) + n else k).toNat else none) = some k
  rw [if_neg h1, if_pos h2]
  rfl
section
variable {X : Cx} {e : Expr} {te : TE} {Te : TEp}
def pPop (i : Nat) (Te : TEp) : TEp := fun ρ Q => match ρ[i]? with
  | some (some (.own a _)) => Te ρ fun y ρ1 => ∃ (xs1 : List D) (k : Nat) (v : D), ρ1[i]? = some (some (.own a xs1)) ∧ y = .int (k : Int) ∧ k < 1000000 ∧ xs1[k]? = some v ∧ Q v (ρ1.set i (some (.own a (xs1.eraseIdx k))))
  | _ => False
theorem ppe_pop (i : Nat) {x : Str} {p ap cp : Pos} (he : PPE X e te Te) (hN : X.N[i]? = some x := by rfl) (hv : Vis X.env.scope x := by first | exact Or.inl rfl | exact Or.inr (Or.inl rfl) | exact Or.inr (Or.inr rfl)) (hd : (x == ("__debug__" : Str)) = false := by decide)
    (hcd : (x == ("__classdict__" : Str)) = false := by decide)
    (hbase : attributeBase (.Name x p) "pop" X.env (eval (.Name x p) X.env) = eval (.Name x p) X.env := by rfl)
    (hfew : ((backTo cp (starEach [e] X.env)).all (fun x => !x.1) && (backToKw cp (keywordEach [] X.env)).all (fun x => x.1.isSome)
      && decide ([e].length + ([] : List Keyword).length + (if ([] : List Keyword).isEmpty then 0 else 1) < 30)) = true := by rfl)
    (hline : (ap.endLine == cp.line) = true := by rfl) (hs : starEach [e] X.env = (false, eval e X.env) :: starEach [] X.env := by rfl) :
    PPE X (.Call (.Attribute (.Name x p) "pop" ap) [e] [] cp) (tBM X.K "list" rPopAt (tVar i) (tCons te tNil)) (pPop i Te) := ⟨pe_bm PySem.F.plainAttrs_list PySem.F.slot_list_pop PySem.F.type_list_pop mt_popAt (pe_var hN hv hd hcd) (pa_cons he.pe pa_nil hs) hbase hfew hline hs rfl, fun G F H σ ρ Q R S hT k => by
  unfold pPop at hT
  split at hT
  · rename_i a xs e0
    obtain ⟨h1, h2, h3, vs, h4, h5⟩ := S.own i a xs e0
    refine ⟨.ref a, h1, .inl ⟨rfl, _, SqL.of h4⟩, he.snd G F H σ ρ _ _ S hT fun y dy F1 H1 ρ1 u1 S1 r1 q1 => ?_⟩
    obtain ⟨xs1, j, v, e1, rfl, hj, e2, q⟩ := q1
    obtain ⟨g1, g2, g3, ws, g4, g5⟩ := S1.own i a xs1 e1
    cases r1
    obtain ⟨w, hw, rw'⟩ := g5.get e2
    exact ⟨a, ws, j, j, w, rfl, rfl, g4, by omega, by omega, seqIndex_nat (lt_of_get hw), hw, k w v F1 _ _ u1 (S1.mut e1 (g5.eraseIdx j)) rw' q⟩
  · exact hT.elim⟩
end
end Pl
namespace Pl
open PySem PySem.Spec PyProof.Rows L2
variable [TJ]
section
variable {X : Cx} {a : Expr} {ta : TE} {Ta : TEp} {pos : Pos}
def pSlS (Te : TEp) (Tl Th : TOp) : TEp := fun ρ Q => Te ρ fun x ρ1 => Tl ρ1 fun l ρ2 => Th ρ2 fun u ρ3 => match x with
  | .str z => z.length ≤ sizeLine ∧ Q (.str (cutS z l u)) ρ3
  | _ => False
theorem ppe_sliceS {lo hi : Option Expr} {tl th : TO} {Tl Th : TOp} {p2 : Pos} (ha : PPE X a ta Ta) (hl : PPO X lo tl Tl) (hh : PPO X hi th Th) : PPE X (.Subscript a (.Slice lo hi none p2) pos) (tSl rSlS ta tl th) (pSlS Ta Tl Th) := ⟨pe_slice sl_str ha.pe hl.po hh.po, fun G F H σ ρ Q R S hT k =>
  ha.snd G F H σ ρ _ _ S hT fun v d F1 H1 ρ1 u1 S1 r1 q1 => hl.snd G F1 H1 σ ρ1 _ _ S1 q1 fun l F2 H2 ρ2 u2 S2 q2 => hh.snd G F2 H2 σ ρ2 _ _ S2 q2 fun h F3 H3 ρ3 u3 S3 q3 => by
    have up := (u1.trans u2).trans u3
    cases r1 with
    | str z => exact ⟨z, rfl, q3.1, k _ _ F3 H3 ρ3 up S3 (.str _) q3.2⟩
    | _ => exact q3.elim⟩
end
section
variable {X : Cx} {pos : Pos}
def pReverse (i : Nat) : TSp := fun P ρ => match ρ[i]? with
  | some (some (.own a xs)) => P.nx (ρ.set i (some (.own a xs.reverse)))
  | _ => False
theorem pps_reverse (i : Nat) {x : Str} {p ap cp : Pos} (hN : X.N[i]? = some x := by rfl) (hv : Vis X.env.scope x := by first | exact Or.inl rfl | exact Or.inr (Or.inl rfl) | exact Or.inr (Or.inr rfl)) (hd : (x == ("__debug__" : Str)) = false := by decide)
    (hcd : (x == ("__classdict__" : Str)) = false := by decide)
    (hbase : attributeBase (.Name x p) "reverse" X.env (eval (.Name x p) X.env) = eval (.Name x p) X.env := by rfl)
    (hline : (ap.endLine == cp.line) = true := by rfl)
    (hsw : swapsWith (.Call (.Attribute (.Name x p) "reverse" ap) [] [] cp) none pos.line X.env = pure false := by rfl) :
    PPS X (.Expr (.Call (.Attribute (.Name x p) "reverse" ap) [] [] cp) pos) (tDrop (tBM0 X.K "list" rReverse (tVar i))) (pReverse i) := ⟨ps_expr (pe_bm0 PySem.F.plainAttrs_list PySem.F.slot_list_reverse PySem.F.type_list_reverse mt_reverse (pe_var hN hv hd hcd) hbase hline) hsw, fun G F H σ ρ P D S hT r => by
  unfold pReverse at hT
  split at hT
  · rename_i a xs e0
    obtain ⟨h1, h2, h3, vs, h4, h5⟩ := S.own i a xs e0
    exact ⟨.ref a, h1, .inl ⟨rfl, _, SqL.of h4⟩, a, vs, rfl, rfl, h4, r.nx F _ _ _ (.refl _ _) (S.mut e0 h5.reverse) hT⟩
  · exact hT.elim⟩
end
end Pl
namespace Pl
open PySem PySem.Spec PyProof.Rows L2
variable [TJ]
abbrev TCs := Ro → (List Cell → Ro → Prop) → Prop
def CellOk (K : PySem.W.Frag) (G F H : Hp) (ρ : Ro) (v : V) (c : Cell) : Prop := match c with
  | .val d => Rep K F v d
  | .own p xs => v = .ref p ∧ F p = none ∧ G p = none ∧ NotOwn ρ p ∧ ∃ us, H p = some (.lst us) ∧ Reps K F us xs
  | .box _ => False
def CellsOk (K : PySem.W.Frag) (G F H : Hp) (ρ : Ro) : List V → List Cell → Prop
  | [], [] => True
  | v :: vs, c :: cs => CellOk K G F H ρ v c ∧ CellsOk K G F H ρ vs cs ∧ ∀ p xs, c = .own p xs → ∀ q ys, Cell.own q ys ∈ cs → q ≠ p
  | _, _ => False
def SndCs (K : PySem.W.Frag) (t : TA) (T : TCs) : Prop := ∀ (G F H : Hp) (σ : L2.St) (ρ : Ro) (Q : List Cell → Ro → Prop) (R : List V → Hp → Prop), Sim K G F H σ ρ → T ρ Q →
  (∀ vs cs F' H' ρ', Up G F F' → Sim K G F' H' σ ρ' → CellsOk K G F' H' ρ' vs cs → Q cs ρ' → R vs H') → t σ H R
structure PPCs (X : Cx) (es : List Expr) (t : TA) (T : TCs) : Prop where
  pa : PA X es t
  snd : SndCs X.K t T
theorem CellsOk.gone {K : PySem.W.Frag} {G F H : Hp} {ρ : Ro} {p : Addr} {o : HO} : ∀ {vs : List V} {cs : List Cell}, CellsOk K (upd G p o) F H ρ vs cs → ∀ q ys, Cell.own q ys ∈ cs → q ≠ p
  | [], [], _, q, ys, h => by simp at h
  | v :: vs, c :: cs, g, q, ys, h => by
    rcases List.mem_cons.mp h with e | h
    · subst e
      intro z
      have := g.1.2.2.1
      rw [z, upd_same] at this
      cases this
    · exact CellsOk.gone g.2.1 q ys h
  | [], _ :: _, g, _, _, _ => g.elim
  | _ :: _, [], g, _, _, _ => g.elim
theorem CellsOk.less {K : PySem.W.Frag} {G F H : Hp} {ρ : Ro} {p : Addr} {o : HO} : ∀ {vs : List V} {cs : List Cell}, CellsOk K (upd G p o) F H ρ vs cs → CellsOk K G F H ρ vs cs
  | [], [], _ => trivial
  | v :: vs, c :: cs, g => by
    refine ⟨?_, CellsOk.less g.2.1, g.2.2⟩
    cases c with
    | val d => exact g.1
    | own q xs =>
      obtain ⟨h1, h2, h3, h4⟩ := g.1
      have n : q ≠ p := fun z => by rw [z, upd_same] at h3; cases h3
      exact ⟨h1, h2, by rw [upd_ne n] at h3; exact h3, h4⟩
    | box s => exact g.1
  | [], _ :: _, g => g.elim
  | _ :: _, [], g => g.elim
section
variable {X : Cx} {e : Expr} {es : List Expr} {te : TE} {t : TA} {T : TCs} {Tc : TCp} {pos : Pos}
def pNilC : TCs := fun ρ Q => Q [] ρ
def pConsC (Tc : TCp) (T : TCs) : TCs := fun ρ Q => Tc ρ fun c ρ1 => match c with
  | .val d => T ρ1 fun cs ρ2 => Q (.val d :: cs) ρ2
  | .own p xs => T ρ1 fun cs ρ2 => Q (.own p xs :: cs) ρ2
  | .box _ => False
theorem ppcs_nil : PPCs X [] tNil pNilC := ⟨pa_nil, fun G F H σ ρ Q R S hT k => k [] [] F H ρ (.refl _ _) S trivial hT⟩
theorem ppcs_cons (h1 : PPC X e te Tc) (h2 : PPCs X es t T) (hs : starEach (e :: es) X.env = (false, eval e X.env) :: starEach es X.env := by rfl) : PPCs X (e :: es) (tCons te t) (pConsC Tc T) := ⟨pa_cons h1.pe h2.pa hs, fun G F H σ ρ Q R S hT k =>
  h1.snd G F H σ ρ _ _ S hT fun v c F1 H1 ρ1 u1 S1 q1 => by
    cases c with
    | val d =>
      have r := S1.lastVal
      refine h2.snd G F1 H1 σ ρ1 _ _ S1.drop q1 fun vs cs F2 H2 ρ2 u2 S2 o2 q2 => k (v :: vs) (.val d :: cs) F2 H2 ρ2 (u1.trans u2) S2 ⟨r.mono u2.ex, o2, fun p xs z => by cases z⟩ q2
    | own p xs =>
      obtain ⟨rfl, h2', h3, h4, us, h5, h6⟩ := S1.lastOwn
      have S0 := S1.drop
      have SG : Sim X.K (upd G p (.lst us)) F1 H1 σ ρ1 := by
        refine ⟨S0.hF, S0.hG.guard h5, S0.len, S0.val, fun i b ys q => ?_, S0.ne, S0.bx.guard h4.2⟩
        · obtain ⟨g1, g2, g3, g4⟩ := S0.own i b ys q
          have n : b ≠ p := fun z => by subst z; exact h4.1 i ys q
          exact ⟨g1, g2, by rw [upd_ne n]; exact g3, g4⟩
      refine h2.snd (upd G p (.lst us)) F1 H1 σ ρ1 _ _ SG q1 fun vs cs F2 H2 ρ2 u2 S2 o2 q2 => ?_
      have hp2 : H2 p = some (.lst us) := S2.hG p _ upd_same
      have fp2 : F2 p = none := u2.isNone h2' upd_same
      have np2 : NotOwn ρ2 p := ⟨fun i ys q => (by
        have := (S2.own i p ys q).2.2.1
        rw [upd_same] at this; cases this), S2.bx.notG upd_same⟩
      have up2 : Up G F1 F2 := u2.less (same_new h3)
      have SF : Sim X.K G F2 H2 σ ρ2 := by
        refine ⟨S2.hF, S2.hG.less (same_new h3), S2.len, S2.val, fun i b ys q => ?_, S2.ne, S2.bx.unguard (same_new h3)⟩
        obtain ⟨g1, g2, g3, g4⟩ := S2.own i b ys q
        have n : b ≠ p := fun z => by rw [z, upd_same] at g3; cases g3
        exact ⟨g1, g2, by rw [upd_ne n] at g3; exact g3, g4⟩
      refine k (.ref p :: vs) (.own p xs :: cs) F2 H2 ρ2 (u1.trans up2) SF ⟨⟨rfl, fp2, h3, np2, us, hp2, h6.mono u2.ex⟩, o2.less, fun q xs' z w ys hw => ?_⟩ q2
      cases z
      exact o2.gone w ys hw
    | box s => exact q1.elim⟩
theorem Sim.put {K : PySem.W.Frag} {G F H : Hp} {σ : L2.St} {ρ : Ro} {v : V} {c : Cell} (S : Sim K G F H σ ρ) (i : Nat) (h : CellOk K G F H ρ v c) : Sim K G F H (σ.set i (some v)) (ρ.set i (some c)) := by
  cases c with
  | val d => exact S.setVal i h
  | own p xs =>
    obtain ⟨rfl, h2, h3, h4, us, h5, h6⟩ := h
    exact S.setOwn i h5 h2 h3 h4 h6
  | box s => exact h.elim
theorem NotOwn.put {ρ : Ro} {p : Addr} {c : Cell} {i : Nat} (h : NotOwn ρ p) (hb : ∀ t, c ≠ .box t) (hc : ∀ q ys, c = .own q ys → p ≠ q) : NotOwn (ρ.set i (some c)) p := ⟨fun j ys e => (by
  by_cases hj : i = j
  · subst hj
    by_cases hi : i < ρ.length
    · rw [List.getElem?_set_self hi] at e
      cases e
      exact hc _ _ rfl rfl
    · rw [List.getElem?_eq_none (by simpa using hi)] at e; cases e
  · rw [List.getElem?_set_ne hj] at e; exact h.1 j ys e), fun m => h.2 (set_inbox (fun t z => hb t (Option.some.inj z)) m)⟩
theorem CellOk.put {K : PySem.W.Frag} {G F H : Hp} {ρ : Ro} {v : V} {c c' : Cell} {i : Nat} (h : CellOk K G F H ρ v c) (hb : ∀ t, c' ≠ .box t) (hc : ∀ p xs, c' = .own p xs → ∀ q ys, c = .own q ys → q ≠ p) : CellOk K G F H (ρ.set i (some c')) v c := by
  cases c with
  | val d => exact h
  | own p xs =>
    obtain ⟨h1, h2, h3, h4, h5⟩ := h
    exact ⟨h1, h2, h3, h4.put hb fun q ys e => hc q ys e p xs rfl, h5⟩
  | box s => exact h.elim
theorem CellOk.noBox {K : PySem.W.Frag} {G F H : Hp} {ρ : Ro} {v : V} {c : Cell} (h : CellOk K G F H ρ v c) : ∀ t, c ≠ .box t := fun t e => by subst e; exact h
theorem CellsOk.len {K : PySem.W.Frag} {G F H : Hp} {ρ : Ro} : ∀ {vs : List V} {cs : List Cell}, CellsOk K G F H ρ vs cs → vs.length = cs.length
  | [], [], _ => rfl
  | _ :: _, _ :: _, h => congrArg (· + 1) (CellsOk.len h.2.1)
  | [], _ :: _, h => h.elim
  | _ :: _, [], h => h.elim
theorem two_cells {f : Cell → Cell → Prop} : ∀ {cs : List Cell}, (match cs with | [x, y] => f x y | _ => False) → cs.length = 2
  | [], h => h.elim
  | [_], h => h.elim
  | [_, _], _ => rfl
  | _ :: _ :: _ :: _, h => h.elim
theorem len_two {α : Type} : ∀ {l : List α}, l.length = 2 → ∃ a b, l = [a, b]
  | [a, b], _ => ⟨a, b, rfl⟩
def pParC (i j : Nat) (T : TCs) : TSp := fun P ρ => T ρ fun cs ρ1 => match cs with | [x, y] => P.nx ((ρ1.set i (some x)).set j (some y)) | _ => False
theorem pps_parC {i j : Nat} {x y : Str} {a b : Expr} {ta : TA} {px py pt : Pos} {kt k2 pt2} (hc : X.calm = true) (hN : X.N.Nodup) (ha : PPCs X [a, b] ta T) (hi : X.N[i]? = some x := by rfl) (hj : X.N[j]? = some y := by rfl) (hij : i ≠ j := by decide)
    (hx : X.env.scope.names.lookup x = some .local := by rfl) (hy : X.env.scope.names.lookup y = some .local := by rfl)
    (hw : swappedStores [.Tuple [.Name x px, .Name y py] kt pt] (.Tuple [a, b] k2 pt2) X.env = pure (some [x, y]) := by rfl)
    (hs : swapsWithSole [.Tuple [.Name x px, .Name y py] kt pt] (.Tuple [a, b] k2 pt2) pos.line X.env = pure false := by rfl) :
    PPS X (.Assign [.Tuple [.Name x px, .Name y py] kt pt] (.Tuple [a, b] k2 pt2) pos) (tPar i j ta) (pParC i j T) := ⟨ps_par hc hN hi hj hij hx hy ha.pa hw hs, fun G F H σ ρ P D S hT r =>
  ha.snd G F H σ ρ _ _ S hT fun vs cs F' H' ρ' u S' o q => by
    have l2 := two_cells q
    obtain ⟨c1, c2, rfl⟩ := len_two l2
    obtain ⟨v1, v2, rfl⟩ := len_two (o.len.trans l2)
    refine ⟨v1, v2, rfl, r.nx F' H' _ _ u ((S'.put i o.1).put j (o.2.1.1.put o.1.noBox fun p xs e w ys e2 => ?_)) q⟩
    subst e2
    exact o.2.2 p xs e w ys (by simp)⟩
end
end Pl
namespace Pl
open PySem PySem.Spec PyProof.Rows L2
variable [TJ]
section
variable {X : Cx} {a b : Expr} {ta tb : TE} {Ta Tb : TEp} {pos : Pos}
def pCatO (Ta Tb : TEp) : TCp := fun ρ Q => Ta ρ fun x ρ1 => Tb ρ1 fun y ρ2 => match x, y with
  | .lst xs, .lst ys => xs.length + ys.length ≤ sizeLine ∧ ∀ p, Q (.own p (xs ++ ys)) ρ2
  | _, _ => False
theorem ppc_cat (ha : PPE X a ta Ta) (hb : PPE X b tb Tb) : PPC X (.BinOp a .Add b pos) (tOp (rAddA X.K) ta tb) (pCatO Ta Tb) := ⟨(ppe_add ha hb).pe, fun G F H σ ρ Q R S hT k =>
  ha.snd G F H σ ρ _ _ S hT fun v d F1 H1 ρ1 u1 S1 r1 q1 => hb.snd G F1 H1 σ ρ1 _ _ S1 q1 fun w e F2 H2 ρ2 u2 S2 r2 q2 => by
    have r1' := r1.mono u2.ex
    cases r1' with
    | lst h1 s1 =>
      cases r2 with
      | lst h2 s2 => exact .inr (.inl ⟨_, _, _, _, rfl, rfl, S2.hF _ _ h1, S2.hF _ _ h2, by rw [s1.length, s2.length]; exact q2.1, fun p hp => k _ _ _ _ ρ2 (u1.trans u2) (S2.newOwn hp (s1.append s2)) (q2.2 p)⟩)
      | _ => exact q2.elim
    | _ => exact q2.elim⟩
end
end Pl
namespace Pl
open PySem PySem.Spec PyProof.Rows L2
abbrev N__law_order : List Str := [("_law_box_here" : Str), ("_law_cuts" : Str), ("_law_fills" : Str), ("_law_letters" : Str), ("_law_told_here" : Str), ("_law_turn" : Str)]
def T__law_order (g__law_take : FB) : TSp :=
  (pSeq (pParC 3 4 (pConsC (pCatO (pOp fRep (pLst (pCons (pC (.str "c")) pNil)) (pVar 1)) (pOp fRep (pLst (pCons (pC (.str "f")) pNil)) (pVar 2))) (pConsC (pVal (pC (.str ""))) pNilC)))
    (pSeq (pFor (jRng1 (pCons (pOp fAdd (pVar 1) (pVar 2)) pNil)) (hName 5)
    (pSet 4 (pVal (pOp fAdd (pVar 4) (pPop 3 (pFrz (pCallB 0 2 g__law_take (pCons (pLenO 3) pNil))))))))
    (pRet (pMove 4))))
abbrev N__law_has : List Str := [("_law_order_here" : Str), ("_law_word" : Str), ("_law_kind" : Str), ("_law_cut" : Str), ("_law_fill" : Str), ("_law_k" : Str), ("_law_letter" : Str), ("_law_spots" : Str), ("_law_others" : Str)]
def T__law_has : TSp :=
  (pSeq (pAsg (pVar 1) (hTup 3 (hCons (hName 2) (hCons (hName 3) (hCons (hName 4) hNil)))))
    (pSeq (pSet 7 (pVal (pLc (jES (pCons (pVar 0) pNil)) (hTup 2 (hCons (hName 5) (hCons (hName 6) hNil))) (pTest (pOp fEq (pVar 6) (pC (.str "c")))) (pVar 5) [5, 6])))
    (pSeq (pSet 8 (pVal (pLc (jES (pCons (pVar 0) pNil)) (hTup 2 (hCons (hName 5) (hCons (hName 6) hNil))) (pTest (pOp fEq (pVar 6) (pC (.str "f")))) (pVar 5) [5, 6])))
    (pRet (pVal (pOp fEq (pOp fLt (pIxO 7 (pVar 3)) (pIxO 8 (pVar 4))) (pOp fEq (pVar 2) (pC (.str "cut")))))))))
end Pl
namespace Pl
open PySem PySem.Spec PyProof.Rows L2
def All2 (Pd : D → Int → Prop) : List D → List Int → Prop
  | [], [] => True
  | d :: ds, y :: ys => Pd d y ∧ All2 Pd ds ys
  | _, _ => False
theorem All2.length {Pd : D → Int → Prop} : ∀ {ds : List D} {ys : List Int}, All2 Pd ds ys → ys.length = ds.length
  | [], [], _ => rfl
  | _ :: ds, _ :: ys, h => by simp [All2.length h.2]
  | [], _ :: _, h => h.elim
  | _ :: _, [], h => h.elim
theorem All2.mem {Pd : D → Int → Prop} : ∀ {ds : List D} {ys : List Int} {y : Int}, All2 Pd ds ys → y ∈ ys → ∃ d ∈ ds, Pd d y
  | [], [], _, _, h => by simp at h
  | d :: ds, z :: ys, y, h, hy => by
    rcases List.mem_cons.mp hy with e | hy
    · subst e; exact ⟨d, by simp, h.1⟩
    · obtain ⟨e, he, p⟩ := All2.mem h.2 hy
      exact ⟨e, by simp [he], p⟩
  | [], _ :: _, _, h, _ => h.elim
  | _ :: _, [], _, h, _ => h.elim
end Pl
namespace Pl
open PySem PySem.Spec PyProof.Rows L2
def sg : Bool → Nat
  | true => 99
  | false => 102
def sgS (b : Bool) : Str := ⟨#[sg b]⟩
def txt (o : List Bool) : Str := ⟨(o.map sg).toArray⟩
def sgD (b : Bool) : D := .str (sgS b)
theorem signs_txt (o : List Bool) : signsD (txt o) = o.map sgD := by
  unfold signsD txt
  rw [List.map_map]; rfl
theorem txt_len (o : List Bool) : (txt o).length = o.length := by
  show (o.map sg).toArray.size = o.length
  simp
theorem txt_append (a b : List Bool) : txt a ++ txt b = txt (a ++ b) := by
  show (⟨(a.map sg).toArray ++ (b.map sg).toArray⟩ : Str) = ⟨((a ++ b).map sg).toArray⟩
  simp
theorem eqv_sgc (b : Bool) : (sgD b).eqv (.str "c") = b := by cases b <;> decide +kernel
theorem eqv_sgf (b : Bool) : (sgD b).eqv (.str "f") = !b := by cases b <;> decide +kernel
theorem sh_sg (b : Bool) : (sgD b).sh := by cases b <;> (unfold D.sh; decide +kernel)
theorem sh_c : (D.str "c").sh := by unfold D.sh; decide +kernel
theorem sh_f : (D.str "f").sh := by unfold D.sh; decide +kernel
theorem eqv_words' (a b : Bool) : (D.str (wordS a)).eqv (.str (wordS b)) = (a == b) := by cases a <;> cases b <;> decide +kernel
theorem sh_word' (c : Bool) : (D.str (wordS c)).sh := by cases c with | true => exact sh_cut | false => exact sh_fill
def wordD (w : Wo) : D := .tup [.str (wordS w.1), .int ((w.2.1 : Nat) : Int), .int ((w.2.2 : Nat) : Int)]
def wordsD (ws : List Wo) : List D := ws.map wordD
theorem wordsD_len (ws : List Wo) : (wordsD ws).length = ws.length := by simp [wordsD]
end Pl
namespace Pl
open PySem PySem.Spec PyProof.Rows L2
theorem lit_c : ("c" : Str) = ⟨#[99]⟩ := by decide +kernel
theorem lit_f : ("f" : Str) = txt [false] := by decide +kernel
theorem lit_e : ("" : Str) = ⟨#[]⟩ := by decide +kernel
def dN (as : List Nat) : List D := as.map fun (a : Nat) => D.int (a : Int)
end Pl
namespace Pl
open PySem PySem.Spec PyProof.Rows L2
theorem map_erase {α β : Type} (f : α → β) : ∀ (l : List α) (k : Nat), (l.map f).eraseIdx k = (l.eraseIdx k).map f
  | [], _ => rfl
  | _ :: _, 0 => rfl
  | x :: l, k + 1 => by
    show f x :: (l.map f).eraseIdx k = f x :: (l.eraseIdx k).map f
    rw [map_erase f l k]
theorem cT_erase : ∀ (l : List Bool) (k : Nat) (b : Bool), l[k]? = some b → cT (l.eraseIdx k) + cT [b] = cT l ∧ cF (l.eraseIdx k) + cF [b] = cF l ∧ (l.eraseIdx k).length + 1 = l.length
  | [], _, _, h => by simp at h
  | x :: l, 0, b, h => by
    have e : x = b := by simpa using h
    subst e
    show cT l + cT [x] = cT (x :: l) ∧ cF l + cF [x] = cF (x :: l) ∧ l.length + 1 = (x :: l).length
    cases x with
    | true => exact ⟨rfl, rfl, rfl⟩
    | false => exact ⟨rfl, rfl, rfl⟩
  | x :: l, k + 1, b, h => by
    obtain ⟨h1, h2, h3⟩ := cT_erase l k b (by simpa using h)
    show cT (x :: l.eraseIdx k) + cT [b] = cT (x :: l) ∧ cF (x :: l.eraseIdx k) + cF [b] = cF (x :: l) ∧ (x :: l.eraseIdx k).length + 1 = (x :: l).length
    cases x with
    | true =>
      refine ⟨?_, h2, by simp; omega⟩
      show cT (l.eraseIdx k) + 1 + cT [b] = cT l + 1; omega
    | false =>
      refine ⟨h1, ?_, by simp; omega⟩
      show cF (l.eraseIdx k) + 1 + cF [b] = cF l + 1; omega
theorem rep_sg (n : Nat) (b : Bool) : (List.replicate n [sgD b]).flatten = (List.replicate n b).map sgD := by
  induction n with
  | zero => rfl
  | succ n ih => rw [List.replicate_succ, List.flatten_cons, ih]; rfl
theorem cT_repF : ∀ n : Nat, cT (List.replicate n false) = 0
  | 0 => rfl
  | n + 1 => cT_repF n
theorem cF_repF : ∀ n : Nat, cF (List.replicate n false) = n
  | 0 => rfl
  | n + 1 => by show cF (List.replicate n false) + 1 = n + 1; rw [cF_repF n]
def g__law_order : FB := fun xs ds C => ∃ n c f, n ≤ 10000000000 ∧ Bx n xs ∧ ds = [.int ((c : Nat) : Int), .int ((f : Nat) : Int)] ∧ c ≤ 100 ∧ f ≤ 100 ∧ ∀ o zs, cT o = c → cF o = f → Bx (n + 500) zs → C (.val (.str (txt o))) zs
theorem rd__law_order : ∀ a xs ds C, ds.length + 1 = 3 → g__law_order xs ds C → T__law_order (g_take 100000000000000) { nx := fun ρ => ∃ ys, ρ[0]? = some (some (.own a ys)) ∧ C (.val .non) ys, rt := fun c ρ => ∃ ys, ρ[0]? = some (some (.own a ys)) ∧ C c ys } (startB N__law_order a xs ds) := by
  rintro a xs ds C - ⟨n, c, f, hn, hB, rfl, hc, hf, hC⟩
  have h1 : (1 : Nat) ≤ sizeLine := by decide
  have k1 : (1 : Nat) ≤ 1000 := by decide
  have el : (List.replicate ((c : Int)).toNat [D.str "c"]).flatten ++ (List.replicate ((f : Int)).toNat [D.str "f"]).flatten = (List.replicate c true ++ List.replicate f false).map sgD := by
    rw [show D.str "c" = sgD true by unfold sgD sgS; rw [lit_c]; rfl, show D.str "f" = sgD false by unfold sgD sgS; rw [lit_f]; rfl, rep_sg, rep_sg, List.map_append]
    rfl
  have main : ∀ (b : Addr), forW (hName 5) (pSet 4 (pVal (pOp fAdd (pVar 4) (pPop 3 (pFrz (pCallB 0 2 (g_take 100000000000000) (pCons (pLenO 3) pNil))))))) { nx := fun ρ => pRet (pMove 4) { nx := fun ρ => ∃ ys, ρ[0]? = some (some (.own a ys)) ∧ C (.val .non) ys, rt := fun c ρ => ∃ ys, ρ[0]? = some (some (.own a ys)) ∧ C c ys } ρ, rt := fun c ρ => ∃ ys, ρ[0]? = some (some (.own a ys)) ∧ C c ys } (rangeD 0 (c + f)) [some (.own a xs), some (.val (.int (c : Int))), some (.val (.int (f : Int))), some (.own b ((List.replicate c true ++ List.replicate f false).map sgD)), some (.val (.str "")), none] := by
    intro b
    refine for_inv (fun ds ρ => ∃ (ls done : List Bool) (zs : List D) (w : Option Cell), ds.length = ls.length ∧ cT done + cT ls = c ∧ cF done + cF ls = f ∧ Bx (n + 2 * done.length) zs ∧ done.length + ls.length = c + f ∧ ρ = [some (.own a zs), some (.val (.int (c : Int))), some (.val (.int (f : Int))), some (.own b (ls.map sgD)), some (.val (.str (txt done))), w]) (fun x r ρ K hK hI => ?_) (fun ρ hI => ?_) _ _ ⟨List.replicate c true ++ List.replicate f false, [], xs, none, by simp [rangeD], ?_, ?_, hB, by simp, by rw [show txt [] = ("" : Str) from lit_e.symm]⟩
    · obtain ⟨ls, done, zs, w, e1, e2, e3, hz, e4, rfl⟩ := hI
      have e1 : r.length + 1 = ls.length := e1
      refine ⟨zs, rfl, rfl, _, ((ls.map sgD).length : Nat), by omega, hz, rfl, by rw [List.length_map]; omega, by rw [List.length_map]; omega, fun v zs1 v1 v2 hz1 => ?_⟩
      rw [List.length_map] at v2
      obtain ⟨k, rfl⟩ := Int.eq_ofNat_of_zero_le v1
      have hk : k < ls.length := by omega
      have hg : ls[k]? = some ls[k] := List.getElem?_eq_getElem hk
      obtain ⟨q1, q2, q3⟩ := cT_erase ls k _ hg
      refine ⟨ls.map sgD, k, sgD ls[k], rfl, rfl, by omega, by rw [List.getElem?_map, hg]; rfl, ?_, ?_⟩
      · refine sl1000 ?_
        rw [txt_len]
        show done.length + 1 ≤ 1000; omega
      · refine hK _ ⟨ls.eraseIdx k, done ++ [ls[k]], zs1, some (.val x), by omega, ?_, ?_, hz1.mono (by simp; omega), by simp; omega, ?_⟩
        · rw [cT_append]; omega
        · rw [cF_append]; omega
        · rw [← map_erase, ← txt_append]; rfl
    · obtain ⟨ls, done, zs, w, e1, e2, e3, hz, e4, rfl⟩ := hI
      have e1 : 0 = ls.length := e1
      have : ls = [] := List.length_eq_zero_iff.mp e1.symm
      subst this
      exact ⟨zs, rfl, hC done zs (by simpa [cT] using e2) (by simpa [cF] using e3) (hz.mono (by simp at e4; omega))⟩
    · rw [cT_append, cT_rep, cT_repF]; simp [cT]
    · rw [cF_append, cF_rep, cF_repF]; simp [cF]
  refine ⟨h1, by show (0 : Int) ≤ (c : Int); omega, by show (c : Int) ≤ 1000; omega, k1, h1, by show (0 : Int) ≤ (f : Int); omega, by show (f : Int) ≤ 1000; omega, k1, ?_, fun b => ?_⟩
  · have := congrArg List.length el
    rw [List.length_append] at this
    refine sl1000 ?_
    have e : ((List.replicate c true ++ List.replicate f false).map sgD).length = c + f := by simp
    rw [e] at this
    omega
  · refine ⟨by show (-(2 ^ 62) : Int) ≤ (c : Int) + (f : Int); omega, by show (c : Int) + (f : Int) < 2 ^ 62; omega, ?_⟩
    have hcf : ((c : Int) + (f : Int)).toNat = c + f := by omega
    have := main b
    rw [← el, ← hcf] at this
    exact this
end Pl
namespace Pl
open PySem PySem.Spec PyProof.Rows L2
def posL (c : Bool) (k : Nat) : List Bool → List Nat
  | [] => []
  | b :: o => if (b == c) = true then k :: posL c (k + 1) o else posL c (k + 1) o
theorem posL_len (c : Bool) : ∀ (o : List Bool) (k : Nat), (posL c k o).length = if c = true then cT o else cF o
  | [], _ => by cases c <;> rfl
  | b :: o, k => by
    have := posL_len c o (k + 1)
    cases b <;> cases c <;> simp [posL, cT, cF] at this ⊢ <;> omega
theorem posL_ge (c : Bool) : ∀ (o : List Bool) (k x : Nat), x ∈ posL c k o → k ≤ x
  | [], _, _, h => by simp [posL] at h
  | b :: o, k, x, h => by
    unfold posL at h
    split at h
    · rcases List.mem_cons.mp h with e | h
      · omega
      · have := posL_ge c o (k + 1) x h; omega
    · have := posL_ge c o (k + 1) x h; omega
theorem pos_ahead : ∀ (o : List Bool) (k j c f x y : Nat), (posL true k o)[c]? = some x → (posL false k o)[f]? = some y → ∃ z, (aheadL j o)[f]? = some z ∧ (x < y ↔ c + j < z)
  | [], _, _, c, _, _, _, h, _ => by simp [posL] at h
  | true :: o, k, j, 0, f, x, y, h1, h2 => by
    have h1 : k = x := by simpa [posL] using h1
    have h2 : (posL false (k + 1) o)[f]? = some y := h2
    have hy := posL_ge false o (k + 1) y (List.mem_of_getElem? h2)
    have hf : f < (aheadL (j + 1) o).length := by
      have := posL_len false o (k + 1)
      rw [aheadL_len]
      have hl : f < (posL false (k + 1) o).length := by
        rcases Nat.lt_or_ge f (posL false (k + 1) o).length with q | q
        · exact q
        · rw [List.getElem?_eq_none q] at h2; cases h2
      rw [this] at hl
      simpa using hl
    refine ⟨(aheadL (j + 1) o)[f], List.getElem?_eq_getElem hf, ?_⟩
    have := (aheadL_le o (j + 1) _ (List.getElem_mem hf)).1
    omega
  | true :: o, k, j, c + 1, f, x, y, h1, h2 => by
    have h1 : (posL true (k + 1) o)[c]? = some x := by simpa [posL] using h1
    have h2 : (posL false (k + 1) o)[f]? = some y := h2
    obtain ⟨z, hz, e⟩ := pos_ahead o (k + 1) (j + 1) c f x y h1 h2
    exact ⟨z, hz, by rw [e]; omega⟩
  | false :: o, k, j, c, 0, x, y, h1, h2 => by
    have h1 : (posL true (k + 1) o)[c]? = some x := h1
    have h2 : k = y := by simpa [posL] using h2
    have hx := posL_ge true o (k + 1) x (List.mem_of_getElem? h1)
    exact ⟨j, rfl, by omega⟩
  | false :: o, k, j, c, f + 1, x, y, h1, h2 => by
    have h1 : (posL true (k + 1) o)[c]? = some x := h1
    have h2 : (posL false (k + 1) o)[f]? = some y := by simpa [posL] using h2
    obtain ⟨z, hz, e⟩ := pos_ahead o (k + 1) j c f x y h1 h2
    exact ⟨z, hz, e⟩
theorem lcW_pos {s : Str} {c : Bool} (hs : ∀ b, (sgD b).eqv (.str s) = (b == c)) (hsh : (D.str s).sh) {Q : List D → Ro → Prop} {d0 d1 d2 d3 d4 w7 w8 : Option Cell} (o : List Bool) (hl : o.length ≤ 900) (hQ : Q (dN (posL c 0 o)) [d0, d1, d2, d3, d4, none, none, w7, w8]) :
    lcW [5, 6] (hTup 2 (hCons (hName 5) (hCons (hName 6) hNil))) (pTest (pOp fEq (pVar 6) (pC (.str s)))) (pVar 5) Q (enumD 0 (signsD (txt o))) [] [d0, d1, d2, d3, d4, none, none, w7, w8] := by
  rw [signs_txt]
  refine lcW_inv (fun ds acc ρ => ∃ (n : Nat) (rest : List Bool) (got : List Nat), ds = enumD n (rest.map sgD) ∧ acc = dN got ∧ ρ = [d0, d1, d2, d3, d4, none, none, w7, w8] ∧ got ++ posL c n rest = posL c 0 o ∧ got.length ≤ n ∧ n + rest.length = o.length) (fun v r acc ρ K hK hI => ?_) (fun acc ρ hI => ?_) _ _ _ ⟨0, o, [], rfl, rfl, rfl, rfl, Nat.le_refl _, by simp⟩
  · obtain ⟨n, rest, got, h1, rfl, rfl, h2, h3, h4⟩ := hI
    cases rest with
    | nil => cases h1
    | cons b rest =>
      cases h1
      have h4 : n + (rest.length + 1) = o.length := h4
      have es : posL c n (b :: rest) = if (b == c) = true then n :: posL c (n + 1) rest else posL c (n + 1) rest := rfl
      refine ⟨rfl, rfl, sh_sg b, hsh, ifB (fun q => ?_) (fun q => ?_)⟩
      · rw [hs] at q
        rw [es, if_pos q] at h2
        exact ⟨small1000 (by simp [dN]; omega), hK _ _ ⟨n + 1, rest, got ++ [n], rfl, by unfold dN; rw [List.map_append]; rfl, rfl, by rw [List.append_assoc]; exact h2, by simp; omega, by omega⟩⟩
      · rw [hs] at q
        rw [es, if_neg (by rw [q]; simp)] at h2
        exact hK _ _ ⟨n + 1, rest, got, rfl, rfl, rfl, h2, by omega, by omega⟩
  · obtain ⟨n, rest, got, h1, rfl, rfl, h2, h3, h4⟩ := hI
    cases rest with
    | cons b rest => cases h1
    | nil =>
      rw [show posL c n [] = [] from rfl, List.append_nil] at h2
      rw [h2]
      exact hQ
theorem atI_dN {l : List Nat} {j x : Nat} (h : l[j]? = some x) : atI (dN l) ((j : Nat) : Int) = some (.int (x : Int)) := by
  refine atI_nat ?_
  unfold dN; rw [List.getElem?_map, h]; rfl
def g__law_has : FA := fun ds C => ∃ o w, ds = [.str (txt o), wordD w] ∧ w.2.1 < cT o ∧ w.2.2 < cF o ∧ o.length ≤ 900 ∧ C (.val (.bl (hasW (aheadL 0 o) w)))
theorem rd__law_has : ∀ ds C, ds.length = 2 → g__law_has ds C → T__law_has { nx := fun _ => C (.val .non), rt := fun c _ => C c } (startA N__law_has ds) := by
  rintro ds C - ⟨o, w, rfl, hc, hf, hl, hC⟩
  have l1 := posL_len true o 0
  have l2 := posL_len false o 0
  have g1 : (posL true 0 o)[w.2.1]? = some ((posL true 0 o)[w.2.1]'(by rw [l1]; exact hc)) := List.getElem?_eq_getElem _
  have g2 : (posL false 0 o)[w.2.2]? = some ((posL false 0 o)[w.2.2]'(by rw [l2]; exact hf)) := List.getElem?_eq_getElem _
  obtain ⟨z, hz, e⟩ := pos_ahead o 0 0 _ _ _ _ g1 g2
  refine ⟨rfl, rfl, ?_⟩
  refine lcW_pos (c := true) (fun b => by rw [eqv_sgc]; cases b <;> rfl) sh_c o hl ?_
  refine lcW_pos (c := false) (fun b => by rw [eqv_sgf]; cases b <;> rfl) sh_f o hl ?_
  refine ⟨_, atI_dN g1, _, atI_dN g2, sh_word' w.1, sh_cut, sh_bl _, sh_bl _, ?_⟩
  have eh : hasW (aheadL 0 o) w = ((D.bl (decide (((posL true 0 o)[w.2.1]'(by rw [l1]; exact hc) : Nat) < (((posL false 0 o)[w.2.2]'(by rw [l2]; exact hf) : Nat) : Int)))).eqv (.bl ((D.str (wordS w.1)).eqv (.str (wordS true))))) := by
    rw [eqv_bl, eqv_words']
    unfold hasW
    rw [List.getD_eq_getElem?_getD, hz]
    have : decide ((((posL true 0 o)[w.2.1]'(by rw [l1]; exact hc) : Nat) : Int) < (((posL false 0 o)[w.2.2]'(by rw [l2]; exact hf) : Nat) : Int)) = decide (w.2.1 < z) := decide_eq_decide.mpr (by omega)
    rw [this]
    show (w.1 == decide (w.2.1 < z)) = _
    cases w.1 <;> cases decide (w.2.1 < z) <;> rfl
  rw [eh] at hC
  exact hC
theorem cnt_T : ∀ o : List Bool, PyProof.Rows.cnt 99 (o.map sg) = ((cT o : Nat) : Int)
  | [] => rfl
  | true :: o => by
    show PyProof.Rows.cnt 99 (99 :: o.map sg) = ((cT o + 1 : Nat) : Int)
    rw [PyProof.Rows.cnt_cons, cnt_T o, if_pos rfl]; omega
  | false :: o => by
    show PyProof.Rows.cnt 99 (102 :: o.map sg) = ((cT o : Nat) : Int)
    rw [PyProof.Rows.cnt_cons, cnt_T o, if_neg (by decide)]; omega
theorem cnt_F : ∀ o : List Bool, PyProof.Rows.cnt 102 (o.map sg) = ((cF o : Nat) : Int)
  | [] => rfl
  | true :: o => by
    show PyProof.Rows.cnt 102 (99 :: o.map sg) = ((cF o : Nat) : Int)
    rw [PyProof.Rows.cnt_cons, cnt_F o, if_neg (by decide)]; omega
  | false :: o => by
    show PyProof.Rows.cnt 102 (102 :: o.map sg) = ((cF o + 1 : Nat) : Int)
    rw [PyProof.Rows.cnt_cons, cnt_F o, if_pos rfl]; omega
theorem count_c (o : List Bool) : Txt.count (txt o) "c" = ((cT o : Nat) : Int) := by rw [lit_c, count_is]; exact cnt_T o
theorem count_f (o : List Bool) : Txt.count (txt o) "f" = ((cF o : Nat) : Int) := by rw [show ("f" : Str) = ⟨#[102]⟩ by decide +kernel, count_is]; exact cnt_F o
end Pl
namespace Pl
open PySem PySem.Spec PyProof.Rows L2
variable [TJ]
theorem Sim.moreG {K : PySem.W.Frag} {G F H : Hp} {σ : L2.St} {ρ : Ro} (S : Sim K G F H σ ρ) {a : Addr} {vs : List V} (hH : H a = some (.lst vs)) (hG : G a = none) (hn : NotOwn ρ a) : Sim K (upd G a (.lst vs)) F H σ ρ := by
  refine ⟨S.hF, S.hG.guard hH, S.len, S.val, fun i b xs e => ?_, S.ne, S.bx.guard hn.2⟩
  · obtain ⟨h1, h2, h3, h4⟩ := S.own i b xs e
    have q : b ≠ a := fun z => by subst z; exact hn.1 i xs e
    exact ⟨h1, h2, by rw [upd_ne q]; exact h3, h4⟩
theorem Sim.lessG {K : PySem.W.Frag} {G G' F H : Hp} {σ : L2.St} {ρ : Ro} (S : Sim K G' F H σ ρ) (h : Same G G') : Sim K G F H σ ρ :=
  ⟨S.hF, S.hG.less h, S.len, S.val, fun i b xs e => let ⟨h1, h2, h3, h4⟩ := S.own i b xs e; ⟨h1, h2, h.free h3, h4⟩, S.ne, S.bx.unguard h⟩
theorem Sim.mid {K : PySem.W.Frag} {G F H : Hp} {σ : L2.St} {ρ : Ro} {u v : V} {b c : Cell} (S : Sim K G F H ((σ ++ [some u]) ++ [some v]) ((ρ ++ [some b]) ++ [some c])) : Sim K G F H (σ ++ [some v]) (ρ ++ [some c]) := by
  have B := S.drop.drop
  cases c with
  | val d => exact B.pushVal S.lastVal
  | own a xs =>
    obtain ⟨rfl, h2, h3, h4, vs, h5, h6⟩ := S.lastOwn
    refine B.pushOwn h5 h2 h3 ⟨fun i ys e => h4.1 i ys (at_more e), fun ⟨i, t, e, m⟩ => h4.2 ⟨i, t, at_more e, m⟩⟩ h6
  | box s =>
    obtain ⟨rfl, h2, h3, h4⟩ := S.lastBox
    exact B.pushBox h2 h3 fun p m => ⟨fun i ys e => (h4 p m).1 i ys (at_more e), fun ⟨i, t, e, m'⟩ => (h4 p m).2 ⟨i, t, at_more e, m'⟩⟩
section
variable {X : Cx} {k : Nat} {f : Addr} {fd : FuncData} {ps : List Str} {x : Str} {p pos : Pos} {e : Expr} {es : List Expr} {te : TE} {Tc : TCp} {t : TA} {T : TAp} {n : Nat}
def pCallX (n : Nat) (g : FB) (Tc : TCp) (T : TAp) : TCp := fun ρ Q => Tc ρ fun c ρ1 => match c with
  | .own _ xs => T ρ1 fun ds ρ2 => ds.length + 1 = n ∧ g xs ds fun c' _ => Q c' ρ2
  | .val _ => False
  | .box _ => False
theorem ppc_callX {g : FB} (Fn : FnOk X.prog X.w X.K X.mg X.base CX0 k f fd ps (spB X.K n g)) (hr : Room k X.A) (hg : Gl X x) (hm : X.mg x = some (.ref f)) (hk : PySem.W.keepIn X.K (.ref f) = true) (hb : Binds X.K fd ps []) (hc : PPC X e te Tc) (ha : PPA X es t T)
    (hdb : (x == ("__debug__" : Str)) = false := by decide) (he : starEach (e :: es) X.env = (false, eval e X.env) :: starEach es X.env := by rfl) (hpl : (backTo pos (starEach es X.env)).any (·.1) = false := by rfl) :
    PPC X (.Call (.Name x p) (e :: es) [] pos) (tCall (spB X.K n g) [] (fun _ _ _ => False) (tCons te t)) (pCallX n g Tc T) := ⟨pe_call Fn hr hg hm hk hb .nil pass0 (pa_cons hc.pe ha.pa he) hdb he hpl, fun G F H σ ρ Q R S hT k =>
  hc.snd G F H σ ρ _ _ S hT fun v c F1 H1 ρ1 u1 S1 q1 => by
    cases c with
    | val d => exact q1.elim
    | box s => exact q1.elim
    | own a xs =>
      obtain ⟨rfl, h2, h3, h4, us, h5, h6⟩ := S1.lastOwn
      have sG : Same G (upd G a (.lst us)) := same_new h3
      refine ha.snd (upd G a (.lst us)) F1 H1 σ ρ1 _ _ (S1.drop.moreG h5 h3 h4) q1 fun vs ds F2 H2 ρ2 u2 S2 r2 q2 => ?_
      have hH2 : H2 a = some (.lst us) := S2.hG a _ upd_same
      have hF2 : F2 a = none := u2.isNone h2 upd_same
      have hn2 : NotOwn ρ2 a := ⟨fun i ys z => (by
        obtain ⟨_, _, g3, _⟩ := S2.own i a ys z
        rw [upd_same] at g3; cases g3), S2.bx.notG upd_same⟩
      have S3 := (S2.lessG sG).pushOwn hH2 hF2 h3 hn2 (h6.mono u2.ex)
      show spB X.K n g ((.ref a :: vs) ++ []) H2 R _
      rw [List.append_nil]
      refine ⟨F2, a, us, xs, vs, ds, _, rfl, by rw [List.length_cons, r2.length]; exact q2.1, S2.hF, hF2, hH2, h6.mono u2.ex, r2, q2.2, fun v c xs' F' H' u S' q => ?_⟩
      have hGh : Same G (hide H2 a) := fun b o qq => by
        have nb : b ≠ a := fun z => by rw [z, h3] at qq; cases qq
        rw [hide_ne nb]; exact S2.hG b o (sG b o qq)
      have S4 := S3.afterB (xs := xs) (i := ρ2.length) (by simp) u S'
      rw [show (ρ2 ++ [some (Cell.own a xs)]).set ρ2.length (some (.own a xs')) = ρ2 ++ [some (.own a xs')] by simp] at S4
      exact k v c F' H' ρ2 ((u1.trans (u2.less sG)).trans (u.less hGh)) S4.mid q⟩
end
end Pl
namespace Pl
open PySem PySem.Spec PyProof.Rows L2
section
variable {α β : Type} {vs : List Nat} {g : TGp} {tt : TTp} {te : TEp} {tb : TSp} {P : PEnds} {Q : List D → Ro → Prop} {ρ : Ro}
theorem lc_mp {ds : List D} (xs : List α) (d f : α → D) (e : ds = xs.map d) (h : ∀ x ∈ xs, ElemOk vs g te ρ (d x) (f x)) (hl : xs.length ≤ 1000) (hQ : Q (xs.map f) ρ) : lcW vs g pYes te Q ds [] ρ := by
  subst e
  exact lcW_mapS xs [] h (by rw [List.length_nil, Nat.zero_add]; exact sl1000 hl) hQ
def ElemIf (vs : List Nat) (g : TGp) (tt : TTp) (te : TEp) (ρ : Ro) (d : D) (p : Bool) (y : D) : Prop := ∀ (K : Bool → Ro → Prop), (∀ ρ3, restore ρ ρ3 vs = ρ → (p = true → ∀ K2 : D → Ro → Prop, (∀ ρ4, restore ρ ρ4 vs = ρ → K2 y ρ4) → te ρ3 K2) → K p ρ3) → g d (wipeP ρ vs) fun ρ2 => tt ρ2 K
theorem lcW_fl : ∀ (xs : List α) (d f : α → D) (p : α → Bool) (acc : List D), (∀ x ∈ xs, ElemIf vs g tt te ρ (d x) (p x) (f x)) → acc.length + xs.length ≤ sizeLine → Q (acc ++ (xs.filter p).map f) ρ → lcW vs g tt te Q (xs.map d) acc ρ
  | [], d, f, p, acc, _, _, hQ => by
    have hQ : Q (acc ++ []) ρ := hQ
    rw [List.append_nil] at hQ
    exact hQ
  | x :: xs, d, f, p, acc, h, hl, hQ => by
    have hl' : acc.length + (xs.length + 1) ≤ sizeLine := hl
    refine h x (by simp) _ fun ρ3 e3 ht => ?_
    cases hp : p x with
    | true =>
      refine ite_ti (ht hp _ fun ρ4 e4 => ⟨by omega, ?_⟩)
      rw [e4]
      refine lcW_fl xs d f p _ (fun y hy => h y (by simp [hy])) (by rw [List.length_append]; show acc.length + 1 + xs.length ≤ sizeLine; omega) ?_
      rw [List.filter_cons_of_pos hp, List.map_cons] at hQ
      rw [List.append_assoc]
      exact hQ
    | false =>
      refine ite_fi ?_
      rw [e3]
      refine lcW_fl xs d f p _ (fun y hy => h y (by simp [hy])) (by omega) ?_
      rw [List.filter_cons_of_neg (by rw [hp]; decide)] at hQ
      exact hQ
theorem lc_fl {ds : List D} (xs : List α) (d f : α → D) (p : α → Bool) (e : ds = xs.map d) (h : ∀ x ∈ xs, ElemIf vs g tt te ρ (d x) (p x) (f x)) (hl : xs.length ≤ 1000) (hQ : Q ((xs.filter p).map f) ρ) : lcW vs g tt te Q ds [] ρ := by
  subst e
  exact lcW_fl xs d f p [] h (by rw [List.length_nil, Nat.zero_add]; exact sl1000 hl) hQ
theorem rangeD_nat (n : Nat) : rangeD 0 n = (List.range n).map fun (j : Nat) => D.int (j : Int) := by
  unfold rangeD
  apply List.map_congr_left
  intro j _
  rw [Int.zero_add]
theorem rangeD_nat' (a n : Nat) : rangeD (a : Int) n = (List.range' a n).map fun (j : Nat) => D.int (j : Int) := by
  have e : List.range' a n = (List.range n).map (a + ·) := by
    rw [List.range_eq_range', List.map_add_range']; rfl
  unfold rangeD
  rw [e, List.map_map]
  apply List.map_congr_left
  intro j _
  show D.int ((a : Int) + (j : Int)) = .int ((a + j : Nat) : Int)
  rw [show ((a + j : Nat) : Int) = (a : Int) + (j : Int) by omega]
theorem lc_rg {m : Nat} (n : Nat) (f : Nat → D) (e : m = n) (h : ∀ j, j < n → ElemOk vs g te ρ (.int (j : Int)) (f j)) (hl : n ≤ 1000) (hQ : Q ((List.range n).map f) ρ) : lcW vs g pYes te Q (rangeD 0 m) [] ρ :=
  lc_mp (List.range n) (fun (j : Nat) => .int (j : Int)) f (by rw [e, rangeD_nat]) (fun j hj => h j (List.mem_range.mp hj)) (by simpa using hl) hQ
theorem forW_mp : ∀ (xs : List α) (d : α → D) (ρ : Ro) (I : List α → Ro → Prop), I xs ρ → (∀ (x : α) (r : List α) (ρ : Ro) (K : Ro → Prop), I (x :: r) ρ → (∀ ρ', I r ρ' → K ρ') → g (d x) ρ fun ρ1 => tb { P with nx := K, ct := K, bk := P.nx } ρ1) → (∀ ρ, I [] ρ → P.nx ρ) → forW g tb P (xs.map d) ρ
  | [], d, ρ, I, h, _, he => he ρ h
  | x :: xs, d, ρ, I, h, hs, he => hs x xs ρ _ h fun ρ' h' => forW_mp xs d ρ' I h' hs he
theorem fr_mp {ds : List D} (xs : List α) (d : α → D) (I : List α → Ro → Prop) (e : ds = xs.map d) (h0 : I xs ρ) (hs : ∀ (x : α) (r : List α) (ρ : Ro) (K : Ro → Prop), I (x :: r) ρ → (∀ ρ', I r ρ' → K ρ') → g (d x) ρ fun ρ1 => tb { P with nx := K, ct := K, bk := P.nx } ρ1) (he : ∀ ρ, I [] ρ → P.nx ρ) : forW g tb P ds ρ := by
  subst e
  exact forW_mp xs d ρ I h0 hs he
theorem forW_rg (I : Nat → Ro → Prop) (n : Nat) (hs : ∀ (j : Nat) (ρ : Ro) (K : Ro → Prop), j < n → I j ρ → (∀ ρ', I (j + 1) ρ' → K ρ') → g (.int (j : Int)) ρ fun ρ1 => tb { P with nx := K, ct := K, bk := P.nx } ρ1) (he : ∀ ρ, I n ρ → P.nx ρ) : ∀ (k j : Nat) (ρ : Ro), k + j = n → I j ρ → forW g tb P ((List.range' j k).map fun (j : Nat) => D.int (j : Int)) ρ
  | 0, j, ρ, e, h => he ρ (by rw [← e, Nat.zero_add]; exact h)
  | k + 1, j, ρ, e, h => by
    rw [List.range'_succ, List.map_cons]
    exact hs j ρ _ (by omega) h fun ρ' h' => forW_rg I n hs he k (j + 1) ρ' (by omega) h'
theorem fr_rg {m : Nat} (n : Nat) (I : Nat → Ro → Prop) (e : m = n) (h0 : I 0 ρ) (hs : ∀ (j : Nat) (ρ : Ro) (K : Ro → Prop), j < n → I j ρ → (∀ ρ', I (j + 1) ρ' → K ρ') → g (.int (j : Int)) ρ fun ρ1 => tb { P with nx := K, ct := K, bk := P.nx } ρ1) (he : ∀ ρ, I n ρ → P.nx ρ) : forW g tb P (rangeD 0 m) ρ := by
  subst e
  rw [rangeD_nat, List.range_eq_range']
  exact forW_rg I m hs he m 0 ρ (by omega) h0
end
end Pl
namespace Pl
open PySem PySem.Spec PyProof.Rows L2
variable [TJ]
def Cell.shut : Option Cell → Option Cell
  | some (.own _ xs) => some (.val (.lst xs))
  | some (.box _) => none
  | x => x
def frzAll (ρ : Ro) : Ro := ρ.map Cell.shut
def isOwn (ρ : Ro) (b : Addr) : Prop := ∃ (i : Nat) (xs : List D), ρ[i]? = some (some (.own b xs))
open Classical in
noncomputable def shutF (ρ : Ro) (F H : Hp) : Hp := fun b => if isOwn ρ b then H b else F b
section
variable {K : PySem.W.Frag} {G F H : Hp} {σ : L2.St} {ρ : Ro}
theorem shut_own {b : Addr} (h : isOwn ρ b) : shutF ρ F H b = H b := by unfold shutF; rw [if_pos h]
theorem shut_not {b : Addr} (h : ¬ isOwn ρ b) : shutF ρ F H b = F b := by unfold shutF; rw [if_neg h]
theorem frz_get {i : Nat} {c : Cell} (h : (frzAll ρ)[i]? = some (some c)) : (∃ d, ρ[i]? = some (some (.val d)) ∧ c = .val d) ∨ ∃ a xs, ρ[i]? = some (some (.own a xs)) ∧ c = .val (.lst xs) := by
  unfold frzAll at h
  rw [List.getElem?_map] at h
  cases q : ρ[i]? with
  | none => rw [q] at h; cases h
  | some o =>
    rw [q] at h
    have h : Cell.shut o = some c := Option.some.inj h
    cases o with
    | none => cases h
    | some c' =>
      cases c' with
      | val d => cases h; exact .inl ⟨d, rfl, rfl⟩
      | own a xs => cases h; exact .inr ⟨a, xs, rfl, rfl⟩
      | box s => cases h
theorem Sim.shut (S : Sim K G F H σ ρ) : Up G F (shutF ρ F H) ∧ Sim K G (shutF ρ F H) H σ (frzAll ρ) := by
  have fresh : ∀ b, isOwn ρ b → F b = none ∧ G b = none := fun b ⟨i, xs, e⟩ => ⟨(S.own i b xs e).2.1, (S.own i b xs e).2.2.1⟩
  have sm : Same F (shutF ρ F H) := fun b o e => by
    rw [shut_not fun h => by rw [(fresh b h).1] at e; cases e]; exact e
  refine ⟨⟨sm, fun b o e => ?_⟩, fun b o e => ?_, S.hG.froz fun b o e => ?_, by rw [S.len]; unfold frzAll; simp, fun i d e => ?_, fun i a xs e => ?_, fun i j a xs ys e1 e2 => ?_, .nil fun i s e => by rcases frz_get e with ⟨d', q, z⟩ | ⟨a', xs', q, z⟩ <;> cases z⟩
  · by_cases h : isOwn ρ b
    · exact .inr (fresh b h).2
    · rw [shut_not h] at e; exact .inl e
  · by_cases h : isOwn ρ b
    · rw [shut_own h] at e; exact e
    · rw [shut_not h] at e; exact S.hF b o e
  · by_cases h : isOwn ρ b
    · obtain ⟨i, xs, e'⟩ := h
      obtain ⟨_, _, _, vs, h4, _⟩ := S.own i b xs e'
      exact .inr ⟨vs, h4⟩
    · rw [shut_not h] at e; exact .inl e
  · rcases frz_get e with ⟨d', q, z⟩ | ⟨a, xs, q, z⟩
    · cases z
      obtain ⟨v, h1, h2⟩ := S.val i d q
      exact ⟨v, h1, h2.mono sm⟩
    · cases z
      obtain ⟨h1, h2, h3, vs, h4, h5⟩ := S.own i a xs q
      exact ⟨_, h1, .lst (by rw [shut_own ⟨i, xs, q⟩]; exact h4) (h5.mono sm)⟩
  · rcases frz_get e with ⟨d', q, z⟩ | ⟨a', xs', q, z⟩ <;> cases z
  · rcases frz_get e1 with ⟨d', q, z⟩ | ⟨a', xs', q, z⟩ <;> cases z
open Classical in
noncomputable def shutG (ρ : Ro) (G H : Hp) : Hp := fun b => if InBox ρ b then H b else G b
theorem shutG_in {b : Addr} (h : InBox ρ b) : shutG ρ G H b = H b := by unfold shutG; rw [if_pos h]
theorem shutG_not {b : Addr} (h : ¬ InBox ρ b) : shutG ρ G H b = G b := by unfold shutG; rw [if_neg h]
theorem shutG_same (S : Sim K G F H σ ρ) : Same G (shutG ρ G H) := fun b o e => by
  rw [shutG_not fun h => by rw [(S.bx.free h).2.1] at e; cases e]; exact e
theorem Sim.shutB (S : Sim K G F H σ ρ) : Sim K (shutG ρ G H) (shutF ρ F H) H σ (frzAll ρ) := by
  have S1 := S.shut.2
  refine ⟨S1.hF, ⟨fun b o e => ?_, TJ.frame S1.hG.tj fun b o e => ?_⟩, S1.len, S1.val, fun i a xs e => ?_, S1.ne, .nil fun i s e => by rcases frz_get e with ⟨d', q, z⟩ | ⟨a', xs', q, z⟩ <;> cases z⟩
  · by_cases h : InBox ρ b
    · rw [shutG_in h] at e; exact e
    · rw [shutG_not h] at e; exact S.hG b o e
  · by_cases h : InBox ρ b
    · exact .inr (S.bx.mut h)
    · rw [shutG_not h] at e; exact .inl e
  · rcases frz_get e with ⟨d', q, z⟩ | ⟨a', xs', q, z⟩ <;> cases z
theorem Sim.unshut {F2 H2 : Hp} {ρ2 : Ro} (S : Sim K G F H σ ρ) (u : Up (shutG ρ G H) (shutF ρ F H) F2) (S2 : Sim K (shutG ρ G H) F2 H2 σ ρ2) : Sim K G F H2 σ ρ := by
  refine ⟨(S.shut.1.ex.trans u.ex).trans S2.hF, (S2.hG.less (shutG_same S)).step (.refl _) fun b o e => .inl ((S.shut.1.ex.trans u.ex) b o e), S.len, S.val, fun i a xs e => ?_, S.ne, S.bx.heap (.refl _) fun p m => let ⟨f, g, o, e⟩ := S.bx.free m; ⟨f, g, (S2.hG p o (by rw [shutG_in m]; exact e)).trans e.symm⟩⟩
  obtain ⟨h1, h2, h3, vs, h4, h5⟩ := S.own i a xs e
  refine ⟨h1, h2, h3, vs, S2.hF a _ (u.ex a _ ?_), h5⟩
  rw [shut_own ⟨i, xs, e⟩]; exact h4
end
section
variable {X : Cx} {e : Expr} {te : TE} {Te : TEp}
def pPeek (Te : TEp) : TEp := fun ρ Q => Te (frzAll ρ) fun d _ => match d with
  | .bl b => Q (.bl b) ρ
  | .int i => Q (.int i) ρ
  | .str z => Q (.str z) ρ
  | .non => Q .non ρ
  | _ => False
theorem ppe_peek (he : PPE X e te Te) : PPE X e te (pPeek Te) := ⟨he.pe, fun G F H σ ρ Q R S hT k =>
  he.snd (shutG ρ G H) (shutF ρ F H) H σ (frzAll ρ) _ _ S.shutB hT fun v d F2 H2 ρ2 u2 S2 r2 q2 => by
    have S3 := S.unshut u2 S2
    cases r2 with
    | non => exact k _ _ F H2 ρ (.refl _ _) S3 .non q2
    | bl b => exact k _ _ F H2 ρ (.refl _ _) S3 (.bl b) q2
    | int i => exact k _ _ F H2 ρ (.refl _ _) S3 (.int i) q2
    | str z => exact k _ _ F H2 ρ (.refl _ _) S3 (.str z) q2
    | _ => exact q2.elim⟩
end
theorem CellOk.more {K : PySem.W.Frag} {G F H : Hp} {ρ : Ro} {v : V} {c : Cell} {p : Addr} {o : HO} (h : CellOk K G F H ρ v c) (hp : H p = none) : CellOk K G F (upd H p o) ρ v c := by
  cases c with
  | val d => exact h
  | own q xs =>
    obtain ⟨h1, h2, h3, h4, us, h5, h6⟩ := h
    exact ⟨h1, h2, h3, h4, us, by rw [upd_ne (ne_of_none h5 hp)]; exact h5, h6⟩
  | box s => exact h
theorem fr_rgA {g : TGp} {tb : TSp} {P : PEnds} {ρ : Ro} {m : Nat} (a n : Nat) (I : Nat → Ro → Prop) (e : m + a = n) (h0 : I a ρ) (hs : ∀ (j : Nat) (ρ : Ro) (K : Ro → Prop), j < n → I j ρ → (∀ ρ', I (j + 1) ρ' → K ρ') → g (.int (j : Int)) ρ fun ρ1 => tb { P with nx := K, ct := K, bk := P.nx } ρ1) (he : ∀ ρ, I n ρ → P.nx ρ) : forW g tb P (rangeD (a : Int) m) ρ := by
  rw [rangeD_nat']
  exact forW_rg I n hs he m a ρ e h0
end Pl
namespace Pl
open PySem PySem.Spec PyProof.Rows L2
abbrev EA (C : Cell → Prop) : PEnds := { nx := fun _ => C (.val .non), rt := fun c _ => C c }
end Pl
namespace Pl
open PySem PySem.Spec PyProof.Rows L2
abbrev EB (a : Addr) (C : Cell → List D → Prop) : PEnds := { nx := fun ρ => ∃ ys, ρ[0]? = some (some (.own a ys)) ∧ C (.val .non) ys, rt := fun c ρ => ∃ ys, ρ[0]? = some (some (.own a ys)) ∧ C c ys }
end Pl
namespace Pl
open PySem PySem.Spec PyProof.Rows L2
def fs : List Wd → Int → Option Bool
  | [], _ => none
  | w :: ws, t => if w.2 ≤ t then some w.1 else fs ws t
theorem fs_pos {w : Wd} {ws : List Wd} {t : Int} (h : w.2 ≤ t) : fs (w :: ws) t = some w.1 := if_pos h
theorem fs_neg {w : Wd} {ws : List Wd} {t : Int} (h : ¬ w.2 ≤ t) : fs (w :: ws) t = fs ws t := if_neg h
def cnt (b : Bool) (ws : List Wd) : Nat → Nat
  | 0 => 0
  | h + 1 => cnt b ws h + if fs ws (h : Int) = some b then 1 else 0
theorem cnt_cons (b : Bool) (c : Bool) (s : Nat) (ws : List Wd) : ∀ h : Nat, cnt b ((c, (s : Int)) :: ws) h = cnt b ws (min s h) + if c = b then h - min s h else 0
  | 0 => by simp [cnt]
  | h + 1 => by
    rw [cnt, cnt_cons b c s ws h]
    by_cases q : s ≤ h
    · rw [fs_pos (show ((c, (s : Int)) : Wd).2 ≤ (h : Int) by show (s : Int) ≤ h; omega), show min s h = s by omega, show min s (h + 1) = s by omega]
      show _ + (if some c = some b then 1 else 0) = _
      by_cases e : c = b
      · rw [if_pos e, if_pos e, if_pos (by rw [e])]; omega
      · rw [if_neg e, if_neg e, if_neg (fun z => e (Option.some.inj z))]
    · rw [fs_neg (show ¬ ((c, (s : Int)) : Wd).2 ≤ (h : Int) by show ¬ (s : Int) ≤ h; omega), show min s h = h by omega, show min s (h + 1) = h + 1 by omega, cnt]
      simp
end Pl
namespace Pl
open PySem PySem.Spec PyProof.Rows L2
def AmW (a : D) (ws : List Wd) : Prop := ∃ ps : List (D × Wd), (a = .lst (ps.map Prod.fst) ∨ a = .tup (ps.map Prod.fst)) ∧ (∀ p ∈ ps, Wn p.1 p.2.1 p.2.2) ∧ ps.map Prod.snd = ws
theorem Am.w {a : D} {ws : List Wd} (h : Am a ws) : AmW a ws := by
  refine ⟨ws.map fun w => (windD w.1 w.2, w), ?_, fun p hp => ?_, by rw [List.map_map]; exact List.map_id' ws⟩
  · rcases h with rfl | rfl
    · exact .inl (by rw [List.map_map]; rfl)
    · exact .inr (by rw [List.map_map]; rfl)
  · obtain ⟨w, _, rfl⟩ := List.mem_map.mp hp
    exact .inl rfl
theorem AmW.lst (ws : List Wd) : AmW (.lst (windsD ws)) ws := Am.w (.inl rfl)
end Pl
namespace Pl
open PySem PySem.Spec PyProof.Rows L2
def gRight : FB := fun xs ds C => ∃ m, m ≤ 10000000 ∧ Bx m xs ∧ ds = [] ∧ ∀ zs, Bx (m + 1000000) zs → C (.val (.bl true)) zs
abbrev vo (a : Addr) (zs : List D) : Option Cell := some (.own a zs)
end Pl
namespace Pl
open PySem PySem.Spec PyProof.Rows L2
def Pw (ws : List Wd) : Prop := ∀ w ∈ ws, 0 ≤ w.2
theorem Pw.take {ws : List Wd} (h : Pw ws) (j : Nat) : Pw (ws.take j) := fun w hw => h w (List.mem_of_mem_take hw)
theorem Pw.drop {ws : List Wd} (h : Pw ws) (j : Nat) : Pw (ws.drop j) := fun w hw => h w (List.mem_of_mem_drop hw)
theorem Pw.one {w : Wd} (h : 0 ≤ w.2) : Pw [w] := fun v hv => by rw [List.mem_singleton.mp hv]; exact h
end Pl
namespace Pl
open PySem PySem.Spec PyProof.Rows L2
theorem AmW.tup (ws : List Wd) : AmW (.tup (windsD ws)) ws := Am.w (.inr rfl)
end Pl
namespace Pl
open PySem PySem.Spec PyProof.Rows L2
abbrev N_corner_stops : List Str := [("order" : Str), ("at" : Str)]
def T_corner_stops : TSp :=
  (pRet (pLcO (jRng1 (pCons (pOp fSub (pLenO 0) (pC (.int 1))) pNil)) (hName 1) (pTest (pOp fNe (pIxO 0 (pVar 1)) (pIxO 0 (pOp fAdd (pVar 1) (pC (.int 1)))))) (pOp fAdd (pVar 1) (pC (.int 1))) [1]))
abbrev N_corner_at : List Str := [("order" : Str), ("stop" : Str), ("ahead" : Str)]
def T_corner_at : TSp :=
  (pSeq (pSet 2 (pVal (pSlS (pVar 0) pNoPart (pPart (pOp fSub (pVar 1) (pC (.int 1)))))))
    (pRet (pVal (pTup (pCons (pIf (pTest (pOp fEq (pIxO 0 (pOp fSub (pVar 1) (pC (.int 1)))) (pC (.str "c")))) (pC (.str "cut")) (pC (.str "fill"))) (pCons (pCount (pVar 2) (pC (.str "c"))) (pCons (pCount (pVar 2) (pC (.str "f"))) pNil)))))))
abbrev N_corners : List Str := [("order" : Str), ("stop" : Str)]
def T_corners (g_corner_stops : FA) (g_corner_at : FA) : TSp :=
  (pRet (pLcO (jSeq (pFrz (pCallA 1 g_corner_stops (pCons (pVar 0) pNil)))) (hName 1) pYes (pFrz (pCallA 2 g_corner_at (pCons (pVar 0) (pCons (pVar 1) pNil)))) [1]))
abbrev N__law_due : List Str := [("_law_order_here" : Str), ("_law_told" : Str), ("_law_k" : Str), ("_law_cuts" : Str), ("_law_fills" : Str)]
def T__law_due : TSp :=
  (pSeq (pSet 1 (pLstO pNil))
    (pSeq (pFor (jRng2 (pCons (pC (.int 1)) (pCons (pLenO 0) pNil))) (hName 2)
    (pSeq (pPar 3 4 (pCons (pCount (pSlS (pVar 0) pNoPart (pPart (pVar 2))) (pC (.str "c"))) (pCons (pCount (pSlS (pVar 0) pNoPart (pPart (pVar 2))) (pC (.str "f"))) pNil)))
    (pSeq (pIfS (pTest (pOp fEq (pSlS (pVar 0) (pPart (pOp fSub (pVar 2) (pC (.int 1)))) (pPart (pOp fAdd (pVar 2) (pC (.int 1))))) (pC (.str "cf"))))
    (pAppend 1 (pTup (pCons (pC (.str "cut")) (pCons (pOp fSub (pVar 3) (pC (.int 1))) (pCons (pVar 4) pNil)))))
    pNext)
    (pIfS (pTest (pOp fEq (pSlS (pVar 0) (pPart (pOp fSub (pVar 2) (pC (.int 1)))) (pPart (pOp fAdd (pVar 2) (pC (.int 1))))) (pC (.str "fc"))))
    (pAppend 1 (pTup (pCons (pC (.str "fill")) (pCons (pVar 3) (pCons (pOp fSub (pVar 4) (pC (.int 1))) pNil)))))
    pNext))))
    (pRet (pMove 1))))
abbrev N__law_follows : List Str := [("_law_word" : Str), ("_law_some" : Str), ("_law_kind" : Str), ("_law_cut" : Str), ("_law_fill" : Str), ("_law_own" : Str), ("_law_late" : Str), ("_law_early" : Str)]
def T__law_follows : TSp :=
  (pSeq (pAsg (pVar 0) (hTup 3 (hCons (hName 2) (hCons (hName 3) (hCons (hName 4) hNil)))))
    (pSeq (pFor (jSeq (pVar 1)) (hTup 3 (hCons (hName 5) (hCons (hName 6) (hCons (hName 7) hNil))))
    (pSeq (pIfS (pAnd (pTest (pChain fEq fEq (pVar 5) (pVar 2) (pC (.str "cut")))) (pAnd (pTest (pOp fGe (pVar 6) (pVar 3))) (pTest (pOp fLe (pVar 7) (pVar 4)))))
    (pRet (pVal (pC (.bl true))))
    pNext)
    (pIfS (pAnd (pTest (pChain fEq fEq (pVar 5) (pVar 2) (pC (.str "fill")))) (pAnd (pTest (pOp fLe (pVar 6) (pVar 3))) (pTest (pOp fGe (pVar 7) (pVar 4)))))
    (pRet (pVal (pC (.bl true))))
    pNext)))
    (pRet (pVal (pC (.bl false))))))
abbrev N__law_right : List Str := [("_law_box_here" : Str), ("_law_order_here" : Str), ("_law_due_here" : Str), ("_law_many" : Str), ("_law_turn" : Str), ("_law_found" : Str), ("_law_word" : Str), ("_law_cut" : Str), ("_law_fill" : Str)]
def T__law_right_1 (g__law_take : FB) (g__law_order : FB) : TSp :=
  (pSet 1 (pCallB 0 3 g__law_order (pCons (pFrz (pCallB 0 2 g__law_take (pCons (pC (.int 13)) pNil))) (pCons (pFrz (pCallB 0 2 g__law_take (pCons (pC (.int 13)) pNil))) pNil))))
def T__law_right_2 (g__law_due : FA) : TSp :=
  (pPar 2 3 (pCons (pFrz (pCallA 1 g__law_due (pCons (pVar 1) pNil))) (pCons (pTup (pCons (pCount (pVar 1) (pC (.str "c"))) (pCons (pCount (pVar 1) (pC (.str "f"))) pNil))) pNil)))
def T__law_right_3_1 (g_corners : FA) : TSp :=
  (pSet 5 (pCallA 1 g_corners (pCons (pVar 1) pNil)))
def T__law_right_3_2_1 : TSp :=
  (pRet (pVal (pC (.bl false))))
def T__law_right_3_2 (g_corners : FA) (g__law_same : FA) : TSp :=
  (pIfS (pNot (pTest (pPeek (pFrz (pCallA 2 g__law_same (pCons (pLst (pCons (pVar 5) (pCons (pFrz (pCallA 1 g_corners (pCons (pVar 1) pNil))) pNil))) (pCons (pLst (pCons (pVar 2) (pCons (pVar 2) pNil))) pNil)))))))
    T__law_right_3_2_1
    pNext)
def T__law_right_3_3 : TSp :=
  (pReverse 5)
def T__law_right_3_4 : TSp :=
  (pAppend 5 (pC (.str "more")))
def T__law_right_3 (g_corners : FA) (g__law_same : FA) : TSp :=
  (pFor (jRng1 (pCons (pC (.int 2)) pNil)) (hName 4)
    (pSeq (T__law_right_3_1 g_corners)
    (pSeq (T__law_right_3_2 g_corners g__law_same)
    (pSeq T__law_right_3_3
    T__law_right_3_4))))
def T__law_right_4_1 : TSp :=
  (pRet (pVal (pC (.bl false))))
def T__law_right_4 (g__law_has : FA) : TSp :=
  (pIfS (pNot (pTest (pCB fAll (pCons (pLc (jSeq (pVar 2)) (hName 6) pYes (pFrz (pCallA 2 g__law_has (pCons (pVar 1) (pCons (pVar 6) pNil)))) [6]) pNil))))
    T__law_right_4_1
    pNext)
def T__law_right_5_1_1 (g__law_has : FA) : TSp :=
  (pSet 6 (pVal (pTup (pCons (pOp fIx (pLst (pCons (pC (.str "fill")) (pCons (pC (.str "cut")) pNil))) (pCB fInt1 (pCons (pFrz (pCallA 2 g__law_has (pCons (pVar 1) (pCons (pTup (pCons (pC (.str "cut")) (pCons (pVar 7) (pCons (pVar 8) pNil)))) pNil)))) pNil))) (pCons (pVar 7) (pCons (pVar 8) pNil))))))
def T__law_right_5_1_2_1 : TSp :=
  (pRet (pVal (pC (.bl false))))
def T__law_right_5_1_2 (g__law_follows : FA) : TSp :=
  (pIfS (pNot (pTest (pFrz (pCallA 2 g__law_follows (pCons (pVar 6) (pCons (pVar 2) pNil))))))
    T__law_right_5_1_2_1
    pNext)
def T__law_right_5_1 (g__law_has : FA) (g__law_follows : FA) : TSp :=
  (pFor (jRng1 (pCons (pIxO 3 (pC (.int 1))) pNil)) (hName 8)
    (pSeq (T__law_right_5_1_1 g__law_has)
    (T__law_right_5_1_2 g__law_follows)))
def T__law_right_5 (g__law_has : FA) (g__law_follows : FA) : TSp :=
  (pFor (jRng1 (pCons (pIxO 3 (pC (.int 0))) pNil)) (hName 7)
    (T__law_right_5_1 g__law_has g__law_follows))
def T__law_right_6 : TSp :=
  (pRet (pVal (pC (.bl true))))
def T__law_right (g_corners : FA) (g__law_take : FB) (g__law_same : FA) (g__law_order : FB) (g__law_has : FA) (g__law_due : FA) (g__law_follows : FA) : TSp :=
  (pSeq (T__law_right_1 g__law_take g__law_order)
    (pSeq (T__law_right_2 g__law_due)
    (pSeq (T__law_right_3 g_corners g__law_same)
    (pSeq (T__law_right_4 g__law_has)
    (pSeq (T__law_right_5 g__law_has g__law_follows)
    T__law_right_6)))))
abbrev N_law : List Str := [("_law_script" : Str), ("_law_k" : Str)]
def T_law_1 (g__law_box : FA) (g__law_right : FB) : TSp :=
  (pRet (pVal (pCB fAll (pCons (pLc (jRng1 (pCons (pOp fAdd (pC (.int 1)) (pCB fMin2 (pCons (pC (.int 3)) (pCons (pLenO 0) pNil)))) pNil)) (hName 1) pYes (pFrz (pCallX 1 g__law_right (pCallA 2 g__law_box (pCons (pVar 0) (pCons (pVar 1) pNil))) pNil)) [1]) pNil))))
def T_law (g__law_box : FA) (g__law_right : FB) : TSp :=
  (T_law_1 g__law_box g__law_right)
theorem cor_has : ∀ (o : List Bool) (c f : Nat) (w : Wo), w ∈ corL c f o → c ≤ w.2.1 ∧ w.2.1 < c + cT o ∧ f ≤ w.2.2 ∧ w.2.2 < f + cF o ∧ w.1 = decide (w.2.1 < (aheadL c o).getD (w.2.2 - f) 0)
  | [], _, _, _, h => by cases h
  | true :: r, c, f, w, h => by
    rcases List.mem_append.mp h with h | h
    · match r, h with
      | false :: r, h =>
        have h : w ∈ [(true, c, f)] := h
        rw [List.mem_singleton.mp h]
        refine ⟨Nat.le_refl _, by show c < c + (cT r + 1); omega, Nat.le_refl _, by show f < f + (cF r + 1); omega, ?_⟩
        show true = decide (c < ((c + 1) :: aheadL (c + 1) r).getD (f - f) 0)
        rw [Nat.sub_self]
        exact (decide_eq_true (by show c < c + 1; omega)).symm
      | [], h => cases h
      | true :: r, h => cases h
    · obtain ⟨h1, h2, h3, h4, h5⟩ := cor_has r (c + 1) f w h
      exact ⟨by omega, by show w.2.1 < c + (cT r + 1); omega, h3, h4, h5⟩
  | false :: r, c, f, w, h => by
    rcases List.mem_append.mp h with h | h
    · match r, h with
      | true :: r, h =>
        have h : w ∈ [(false, c, f)] := h
        rw [List.mem_singleton.mp h]
        refine ⟨Nat.le_refl _, by show c < c + (cT r + 1); omega, Nat.le_refl _, by show f < f + (cF r + 1); omega, ?_⟩
        show false = decide (c < (c :: aheadL (c + 1) r).getD (f - f) 0)
        rw [Nat.sub_self]
        exact (decide_eq_false (by show ¬ c < c; omega)).symm
      | [], h => cases h
      | false :: r, h => cases h
    · obtain ⟨h1, h2, h3, h4, h5⟩ := cor_has r c (f + 1) w h
      refine ⟨h1, h2, by omega, by show w.2.2 < f + (cF r + 1); omega, ?_⟩
      rw [h5, show w.2.2 - f = (w.2.2 - (f + 1)) + 1 by omega]; rfl
def difB (o : List Bool) (i : Nat) : Bool := !(o.getD i true == o.getD (i + 1) true)
def wrdA (o : List Bool) (i : Nat) : Wo := (o.getD i true, cT (o.take i), cF (o.take i))
theorem getD_pre (pre : List Bool) (x : Bool) (r : List Bool) : (pre ++ x :: r).getD pre.length true = x := by
  rw [List.getD_eq_getElem?_getD, List.getElem?_append_right (Nat.le_refl _), Nat.sub_self]; rfl
theorem cor_stops : ∀ (r pre : List Bool), ((List.range' pre.length (r.length - 1)).filter (difB (pre ++ r))).map (wrdA (pre ++ r)) = corL (cT pre) (cF pre) r
  | [], _ => rfl
  | [x], _ => by cases x <;> rfl
  | x :: y :: r, pre => by
    have ih := cor_stops (y :: r) (pre ++ [x])
    rw [List.length_append, List.length_singleton, List.append_assoc] at ih
    have ih : ((List.range' (pre.length + 1) r.length).filter (difB (pre ++ x :: y :: r))).map (wrdA (pre ++ x :: y :: r)) = corL (cT (pre ++ [x])) (cF (pre ++ [x])) (y :: r) := ih
    show ((List.range' pre.length (r.length + 1)).filter (difB (pre ++ x :: y :: r))).map (wrdA (pre ++ x :: y :: r)) = _
    rw [List.range'_succ]
    have g1 : (pre ++ x :: y :: r).getD pre.length true = x := getD_pre pre x (y :: r)
    have g2 : (pre ++ x :: y :: r).getD (pre.length + 1) true = y := by
      have := getD_pre (pre ++ [x]) y r
      rw [List.length_append, List.append_assoc] at this
      exact this
    have hd : difB (pre ++ x :: y :: r) pre.length = !(x == y) := by unfold difB; rw [g1, g2]
    have hw : wrdA (pre ++ x :: y :: r) pre.length = (x, cT pre, cF pre) := by unfold wrdA; rw [g1, List.take_left]
    rw [cT_append, cF_append] at ih
    cases x <;> cases y
    · rw [List.filter_cons_of_neg (by rw [hd]; decide), ih]; rfl
    · rw [List.filter_cons_of_pos (by rw [hd]; decide), List.map_cons, hw, ih]; rfl
    · rw [List.filter_cons_of_pos (by rw [hd]; decide), List.map_cons, hw, ih]; rfl
    · rw [List.filter_cons_of_neg (by rw [hd]; decide), ih]; rfl
theorem cutS_to (o : List Bool) (k : Nat) : cutS (txt o) none (some ((k : Nat) : Int)) = txt (o.take k) := by
  unfold cutS txt
  rw [HT.sIx_none, HT.sIx_nat]
  have e : (Str.length ⟨(o.map sg).toArray⟩) = o.length := txt_len o
  rw [e, List.drop_zero, Nat.sub_zero]
  congr 1
  rw [show (Str.cps ⟨(o.map sg).toArray⟩).toList = o.map sg by simp, ← List.map_take]
  congr 2
  by_cases h : k ≤ o.length
  · rw [Nat.min_eq_left h]
  · rw [Nat.min_eq_right (by omega), List.take_length, List.take_of_length_le (by omega)]
theorem cutS_two (o : List Bool) (k : Nat) (h : k + 2 ≤ o.length) : cutS (txt o) (some ((k : Nat) : Int)) (some ((k + 2 : Nat) : Int)) = txt ((o.drop k).take 2) := by
  unfold cutS txt
  rw [HT.sIx_nat, HT.sIx_nat]
  have e : (Str.length ⟨(o.map sg).toArray⟩) = o.length := txt_len o
  rw [e, Nat.min_eq_left (by omega), Nat.min_eq_left (by omega), show k + 2 - k = 2 by omega]
  congr 1
  rw [show (Str.cps ⟨(o.map sg).toArray⟩).toList = o.map sg by simp, ← List.map_drop, ← List.map_take]
theorem eqv_sg2 (a b : Bool) : (sgD a).eqv (sgD b) = (a == b) := by cases a <;> cases b <;> decide +kernel
theorem at_txt {o : List Bool} {i : Nat} (h : i < o.length) : atI (txt o).cps.toList ((i : Nat) : Int) = some (sg (o.getD i true)) := by
  refine atI_nat ?_
  show ((o.map sg).toArray.toList)[i]? = _
  rw [List.toList_toArray, List.getElem?_map, List.getD_eq_getElem?_getD, List.getElem?_eq_getElem h]; rfl
theorem txt_sz {o : List Bool} (h : o.length ≤ 900) : (txt o).length ≤ sizeLine := by rw [txt_len]; exact sl1000 (by omega)
def stpL (o : List Bool) : List Nat := (List.range (o.length - 1)).filter (difB o)
theorem stp_cor (o : List Bool) : (stpL o).map (wrdA o) = corL 0 0 o := by
  have := cor_stops o []
  unfold stpL
  rw [List.range_eq_range']
  exact this
def g_corner_stops : FA := fun ds C => ∃ o, ds = [.str (txt o)] ∧ o.length ≤ 900 ∧ ∀ p, C (.own p ((stpL o).map fun (i : Nat) => .int ((i : Int) + 1)))
theorem rd_corner_stops : ∀ ds C, ds.length = 1 → g_corner_stops ds C → T_corner_stops (EA C) (startA N_corner_stops ds) := by
  rintro ds C - ⟨o, rfl, hl, hC⟩
  have hz := txt_sz hl
  refine ⟨hz, by show (-(2 ^ 62) : Int) ≤ (((txt o).length : Nat) : Int) - 1; omega, by show (((txt o).length : Nat) : Int) - 1 < 2 ^ 62; rw [txt_len]; omega, ?_⟩
  refine lc_fl (List.range (o.length - 1)) (fun (i : Nat) => D.int (i : Int)) (fun (i : Nat) => D.int ((i : Int) + 1)) (difB o) ?_ (fun i hi K hK => ?_) (by rw [List.length_range]; omega) fun p => hC p
  · show rangeD 0 ((((txt o).length : Nat) : Int) - 1).toNat = _
    rw [txt_len, show ((o.length : Int) - 1).toNat = o.length - 1 by omega, rangeD_nat]
  · have hi' := List.mem_range.mp hi
    refine ⟨hz, _, at_txt (by omega), hz, sg (o.getD (i + 1) true), at_txt (i := i + 1) (by omega), sh_sg _, sh_sg _, ?_⟩
    · show K (!(sgD (o.getD i true)).eqv (sgD (o.getD (i + 1) true))) _
      rw [eqv_sg2]
      exact hK _ rfl fun _ K2 h2 => h2 _ rfl
def g_corner_at : FA := fun ds C => ∃ o i, ds = [.str (txt o), .int (((i : Nat) : Int) + 1)] ∧ i < o.length ∧ o.length ≤ 900 ∧ C (.val (wordD (wrdA o i)))
theorem rd_corner_at : ∀ ds C, ds.length = 2 → g_corner_at ds C → T_corner_at (EA C) (startA N_corner_at ds) := by
  rintro ds C - ⟨o, i, rfl, hi, hl, hC⟩
  have hz := txt_sz hl
  have e : ((i : Int) + 1 - 1) = (i : Int) := by omega
  refine ⟨hz, ?_⟩
  rw [e, cutS_to]
  refine ⟨hz, sg (o.getD i true), ?_, sh_sg (o.getD i true), sh_c, ?_⟩
  · show atI (txt o).cps.toList ((i : Int) + 1 - 1) = _
    rw [e]; exact at_txt hi
  · have fin : ∀ b : Bool, b = o.getD i true → ([D.str (wordS b), .int (Txt.count (txt (o.take i)) "c"), .int (Txt.count (txt (o.take i)) "f")] : List D).length ≤ sizeLine ∧ C (.val (.tup [.str (wordS b), .int (Txt.count (txt (o.take i)) "c"), .int (Txt.count (txt (o.take i)) "f")])) := fun b hb => by
      refine ⟨by show (3 : Nat) ≤ sizeLine; decide, ?_⟩
      rw [count_c, count_f, hb]
      exact hC
    refine ifB (fun t => ?_) (fun t => ?_)
    · have t : (sgD (o.getD i true)).eqv (.str "c") = true := t
      rw [eqv_sgc] at t
      exact fin true t.symm
    · have t : (sgD (o.getD i true)).eqv (.str "c") = false := t
      rw [eqv_sgc] at t
      exact fin false t.symm
def g_corners : FA := fun ds C => ∃ o, ds = [.str (txt o)] ∧ o.length ≤ 900 ∧ ∀ p, C (.own p (wordsD (corL 0 0 o)))
theorem rd_corners : ∀ ds C, ds.length = 1 → g_corners ds C → T_corners g_corner_stops g_corner_at (EA C) (startA N_corners ds) := by
  rintro ds C - ⟨o, rfl, hl, hC⟩
  refine ⟨rfl, o, rfl, hl, fun p => ?_⟩
  have hst : (stpL o).length ≤ 900 := Nat.le_trans (List.length_filter_le _ _) (by rw [List.length_range]; omega)
  refine lc_mp (stpL o) (fun (i : Nat) => D.int ((i : Int) + 1)) (fun i => wordD (wrdA o i)) rfl (fun i hi K hK => ?_) (by omega) fun p2 => ?_
  · have := List.mem_range.mp (List.mem_filter.mp hi).1
    exact ⟨rfl, o, i, rfl, by omega, hl, hK _ rfl⟩
  · have := hC p2
    rw [← stp_cor] at this
    unfold wordsD at this
    rw [List.map_map] at this
    exact this
theorem sh_txt2 (x y : Bool) : (D.str (txt [x, y])).sh := by cases x <;> cases y <;> (unfold D.sh; decide +kernel)
theorem sh_cf : (D.str "cf").sh := by unfold D.sh; decide +kernel
theorem sh_fc : (D.str "fc").sh := by unfold D.sh; decide +kernel
theorem eqv_cf (x y : Bool) : (D.str (txt [x, y])).eqv (.str "cf") = (x && !y) := by cases x <;> cases y <;> decide +kernel
theorem eqv_fc (x y : Bool) : (D.str (txt [x, y])).eqv (.str "fc") = (!x && y) := by cases x <;> cases y <;> decide +kernel
theorem corL_len : ∀ (o : List Bool) (c f : Nat), (corL c f o).length ≤ o.length
  | [], _, _ => Nat.le_refl _
  | true :: r, c, f => by
    have ih := corL_len r (c + 1) f
    match r, ih with
    | [], _ => exact Nat.zero_le _
    | false :: r, ih => show (_ :: corL (c + 1) f (false :: r)).length ≤ _; rw [List.length_cons, List.length_cons]; omega
    | true :: r, ih => show (corL (c + 1) f (true :: r)).length ≤ _; rw [List.length_cons]; omega
  | false :: r, c, f => by
    have ih := corL_len r c (f + 1)
    match r, ih with
    | [], _ => exact Nat.zero_le _
    | true :: r, ih => show (_ :: corL c (f + 1) (true :: r)).length ≤ _; rw [List.length_cons, List.length_cons]; omega
    | false :: r, ih => show (corL c (f + 1) (false :: r)).length ≤ _; rw [List.length_cons]; omega
def g__law_due : FA := fun ds C => ∃ o, ds = [.str (txt o)] ∧ o.length ≤ 100 ∧ ∀ p, C (.own p (wordsD (corL 0 0 o)))
theorem rd__law_due : ∀ ds C, ds.length = 1 → g__law_due ds C → T__law_due (EA C) (startA N__law_due ds) := by
  rintro ds C - ⟨o, rfl, hl, hC⟩
  have hz : (txt o).length ≤ sizeLine := txt_sz (by omega)
  refine ⟨Nat.zero_le _, fun b => ?_⟩
  refine ⟨hz, ⟨by decide, by decide, by show (-(2 ^ 62) : Int) ≤ (((txt o).length : Nat) : Int); omega, by show (((txt o).length : Nat) : Int) < 2 ^ 62; rw [txt_len]; omega⟩, ?_⟩
  refine fr_rgA 1 (((((txt o).length : Nat) : Int) - 1).toNat + 1) (fun k ρ => 1 ≤ k ∧ ∃ (got : List Wo) (w2 w3 w4 : Option Cell), got.length ≤ k ∧ got ++ corL (cT (o.take (k - 1))) (cF (o.take (k - 1))) (o.drop (k - 1)) = corL 0 0 o ∧ ρ = [some (.val (.str (txt o))), some (.own b (wordsD got)), w2, w3, w4]) rfl ⟨Nat.le_refl _, [], none, none, none, Nat.zero_le _, rfl, rfl⟩ (fun k ρ K hk hI hK => ?_) (fun ρ hI => ?_)
  · obtain ⟨k1, got, w2, w3, w4, hg, e, rfl⟩ := hI
    rw [txt_len] at hk
    obtain ⟨j, rfl⟩ : ∃ j, k = j + 1 := ⟨k - 1, by omega⟩
    rw [Nat.add_sub_cancel] at e
    have hj : j + 2 ≤ o.length := by omega
    obtain ⟨x, y, r, hd⟩ : ∃ x y r, o.drop j = x :: y :: r := by
      match h : o.drop j with
      | [] => have := congrArg List.length h; rw [List.length_drop] at this; simp at this; omega
      | [x] => have := congrArg List.length h; rw [List.length_drop] at this; simp at this; omega
      | x :: y :: r => exact ⟨x, y, r, rfl⟩
    have htk : o.take (j + 1) = o.take j ++ [x] := by
      have : o[j]? = some x := by
        have := congrArg (fun l => l[0]?) hd
        simpa using this
      rw [List.take_succ, this]; rfl
    have hdr : o.drop (j + 1) = y :: r := by rw [← List.drop_drop, hd]; rfl
    have e2 : cutS (txt o) (some (((j + 1 : Nat) : Int) - 1)) (some (((j + 1 : Nat) : Int) + 1)) = txt [x, y] := by
      rw [show (((j + 1 : Nat) : Int) - 1) = ((j : Nat) : Int) by omega, show (((j + 1 : Nat) : Int) + 1) = ((j + 2 : Nat) : Int) by omega, cutS_two o j hj, hd]; rfl
    rw [hd] at e
    have hsz : (wordsD got).length < sizeLine := small1000 (by rw [wordsD_len]; omega)
    have nxt : ∀ got2 w3 w4, got2.length ≤ j + 2 → got2 ++ corL (cT (o.take j ++ [x])) (cF (o.take j ++ [x])) (y :: r) = corL 0 0 o → K [some (.val (.str (txt o))), some (.own b (wordsD got2)), some (.val (.int ((j + 1 : Nat) : Int))), w3, w4] := fun got2 w3 w4 h1 h2 =>
      hK _ ⟨by omega, got2, _, _, _, h1, by rw [Nat.add_sub_cancel, htk, hdr]; exact h2, rfl⟩
    rw [cT_append, cF_append] at nxt
    have key : ∀ (PP : PEnds) (_ : PP.nx = K) (u v : Int), u = ((cT (o.take j ++ [x]) : Nat) : Int) → v = ((cF (o.take j ++ [x]) : Nat) : Int) → pSeq (pIfS (pTest (pOp fEq (pSlS (pVar 0) (pPart (pOp fSub (pVar 2) (pC (.int 1)))) (pPart (pOp fAdd (pVar 2) (pC (.int 1))))) (pC (.str "cf")))) (pAppend 1 (pTup (pCons (pC (.str "cut")) (pCons (pOp fSub (pVar 3) (pC (.int 1))) (pCons (pVar 4) pNil))))) pNext) (pIfS (pTest (pOp fEq (pSlS (pVar 0) (pPart (pOp fSub (pVar 2) (pC (.int 1)))) (pPart (pOp fAdd (pVar 2) (pC (.int 1))))) (pC (.str "fc")))) (pAppend 1 (pTup (pCons (pC (.str "fill")) (pCons (pVar 3) (pCons (pOp fSub (pVar 4) (pC (.int 1))) pNil))))) pNext) PP [some (.val (.str (txt o))), some (.own b (wordsD got)), some (.val (.int ((j + 1 : Nat) : Int))), some (.val (.int u)), some (.val (.int v))] := by
      intro PP hPP u v hu hv
      rw [cT_append] at hu
      rw [cF_append] at hv
      refine ⟨hz, ?_⟩
      rw [e2]
      refine ⟨sh_txt2 x y, sh_cf, ?_⟩
      have w1 : ∀ (b0 : Bool) (c0 f0 : Int), c0 = ((cT (o.take j) : Nat) : Int) → f0 = ((cF (o.take j) : Nat) : Int) → wordsD got ++ [.tup [.str (wordS b0), .int c0, .int f0]] = wordsD (got ++ [(b0, cT (o.take j), cF (o.take j))]) := fun b0 c0 f0 h1 h2 => by
        subst h1 h2
        unfold wordsD
        rw [List.map_append]; rfl
      have second : ∀ (got2 : List Wo), got2.length ≤ j + 2 → (wordsD got2).length < sizeLine → (x = true ∨ y = false) → got2 ++ corL (cT (o.take j) + cT [x]) (cF (o.take j) + cF [x]) (y :: r) = corL 0 0 o → pIfS (pTest (pOp fEq (pSlS (pVar 0) (pPart (pOp fSub (pVar 2) (pC (.int 1)))) (pPart (pOp fAdd (pVar 2) (pC (.int 1))))) (pC (.str "fc")))) (pAppend 1 (pTup (pCons (pC (.str "fill")) (pCons (pVar 3) (pCons (pOp fSub (pVar 4) (pC (.int 1))) pNil))))) pNext PP [some (.val (.str (txt o))), some (.own b (wordsD got2)), some (.val (.int ((j + 1 : Nat) : Int))), some (.val (.int u)), some (.val (.int v))] := fun got2 h1 h2 h3 h4 => by
        refine ⟨hz, ?_⟩
        rw [e2]
        refine ⟨sh_txt2 x y, sh_fc, ifF ?_ ?_⟩
        · rw [eqv_fc]; rcases h3 with z | z <;> rw [z] <;> cases x <;> cases y <;> first | rfl | cases z
        · show PP.nx _; rw [hPP]; exact nxt got2 _ _ h1 h4
      cases x <;> cases y
      · exact ifF (eqv_cf false false) (second got (by omega) hsz (.inr rfl) e)
      · refine ifF (eqv_cf false true) ⟨hz, ?_⟩
        rw [e2]
        refine ⟨sh_txt2 false true, sh_fc, ifT (eqv_fc false true) ⟨by show (3 : Nat) ≤ sizeLine; decide, _, rfl, hsz, ?_⟩⟩
        have hw := w1 false u (v - 1) (by rw [hu]; simp [cT]) (by rw [hv]; simp [cF])
        have := nxt (got ++ [(false, cT (o.take j), cF (o.take j))]) (some (.val (.int u))) (some (.val (.int v))) (by simp; omega) (by rw [List.append_assoc]; exact e)
        rw [← hw] at this
        rw [hPP]
        exact this
      · refine ifT (eqv_cf true false) ⟨by show (3 : Nat) ≤ sizeLine; decide, _, rfl, hsz, ?_⟩
        have hw := w1 true (u - 1) v (by rw [hu]; simp [cT]) (by rw [hv]; simp [cF])
        have := second (got ++ [(true, cT (o.take j), cF (o.take j))]) (by simp; omega) (small1000 (by rw [wordsD_len, List.length_append, List.length_singleton]; omega)) (.inl rfl) (by rw [List.append_assoc]; exact e)
        rw [← hw] at this
        exact this
      · exact ifF (eqv_cf true true) (second got (by omega) hsz (.inl rfl) e)
    refine ⟨hz, hz, ?_⟩
    exact key _ rfl _ _ (by rw [cutS_to, count_c, htk]) (by rw [cutS_to, count_f, htk])
  · obtain ⟨k1, got, w2, w3, w4, hg, e, rfl⟩ := hI
    have hlast : corL (cT (o.take (((((txt o).length : Nat) : Int) - 1).toNat + 1 - 1))) (cF (o.take (((((txt o).length : Nat) : Int) - 1).toNat + 1 - 1))) (o.drop (((((txt o).length : Nat) : Int) - 1).toNat + 1 - 1)) = [] := by
      have hle : (o.drop (((((txt o).length : Nat) : Int) - 1).toNat + 1 - 1)).length ≤ 1 := by rw [List.length_drop, txt_len]; omega
      match o.drop (((((txt o).length : Nat) : Int) - 1).toNat + 1 - 1), hle with
      | [], _ => rfl
      | [x], _ => cases x <;> rfl
    rw [hlast, List.append_nil] at e
    subst e
    exact hC b
def Flw (w v : Wo) : Prop := v.1 = w.1 ∧ if v.1 = true then w.2.1 ≤ v.2.1 ∧ v.2.2 ≤ w.2.2 else v.2.1 ≤ w.2.1 ∧ w.2.2 ≤ v.2.2
def g__law_follows : FA := fun ds C => ∃ w ws, ds = [wordD w, .lst (wordsD ws)] ∧ (∃ v ∈ ws, Flw w v) ∧ C (.val (.bl true))
theorem rd__law_follows : ∀ ds C, ds.length = 2 → g__law_follows ds C → T__law_follows (EA C) (startA N__law_follows ds) := by
  rintro ds C - ⟨w, ws, rfl, hv, hC⟩
  refine ⟨rfl, rfl, ?_⟩
  refine fr_mp ws wordD (fun r ρ => (∃ v ∈ r, Flw w v) ∧ ∃ w5 w6 w7, ρ = [some (.val (wordD w)), some (.val (.lst (wordsD ws))), some (.val (.str (wordS w.1))), some (.val (.int ((w.2.1 : Nat) : Int))), some (.val (.int ((w.2.2 : Nat) : Int))), w5, w6, w7]) rfl ⟨hv, none, none, none, rfl⟩ (fun v r ρ K hI hK => ?_) (fun ρ hI => ?_)
  · obtain ⟨⟨v0, h1, h2⟩, w5, w6, w7, rfl⟩ := hI
    refine ⟨rfl, rfl, ?_⟩
    have go : ¬ Flw w v → K [some (.val (wordD w)), some (.val (.lst (wordsD ws))), some (.val (.str (wordS w.1))), some (.val (.int ((w.2.1 : Nat) : Int))), some (.val (.int ((w.2.2 : Nat) : Int))), some (.val (.str (wordS v.1))), some (.val (.int ((v.2.1 : Nat) : Int))), some (.val (.int ((v.2.2 : Nat) : Int)))] := fun hn => by
      refine hK _ ⟨⟨v0, ?_, h2⟩, _, _, _, rfl⟩
      rcases List.mem_cons.mp h1 with e | e
      · rw [e] at h2; exact absurd h2 hn
      · exact e
    obtain ⟨k, a, b⟩ := w
    obtain ⟨k', a', b'⟩ := v
    cases k <;> cases k'
    · refine ⟨sh_word' false, sh_word' false, ifT (eqv_words' false false) ⟨sh_word' false, sh_cut, ifF (eqv_words' false true) ?_⟩⟩
      refine ⟨sh_word' false, sh_word' false, ifT (eqv_words' false false) ⟨sh_word' false, sh_fill, ifT (eqv_words' false false) ?_⟩⟩
      refine ifB (fun t => ifB (fun t2 => hC) (fun t2 => go fun z => ?_)) (fun t => go fun z => ?_)
      · have t2 := of_decide_eq_false t2
        have : a' ≤ a ∧ b ≤ b' := z.2
        dsimp only at t2
        omega
      · have t := of_decide_eq_false t
        have : a' ≤ a ∧ b ≤ b' := z.2
        dsimp only at t
        omega
    · refine ⟨sh_word' true, sh_word' false, ifF (eqv_words' true false) ?_⟩
      refine ⟨sh_word' true, sh_word' false, ifF (eqv_words' true false) (go fun z => ?_)⟩
      exact absurd z.1 (by show ¬ true = false; decide)
    · refine ⟨sh_word' false, sh_word' true, ifF (eqv_words' false true) ?_⟩
      refine ⟨sh_word' false, sh_word' true, ifF (eqv_words' false true) (go fun z => ?_)⟩
      exact absurd z.1 (by show ¬ false = true; decide)
    · refine ⟨sh_word' true, sh_word' true, ifT (eqv_words' true true) ⟨sh_word' true, sh_cut, ifT (eqv_words' true true) ?_⟩⟩
      have second : ¬ Flw (true, a, b) (true, a', b') → _ := fun hn => (⟨sh_word' true, sh_word' true, ifT (eqv_words' true true) ⟨sh_word' true, sh_fill, ifF (eqv_words' true false) (go hn)⟩⟩ : pIfS (pAnd (pTest (pChain fEq fEq (pVar 5) (pVar 2) (pC (.str "fill")))) (pAnd (pTest (pOp fLe (pVar 6) (pVar 3))) (pTest (pOp fGe (pVar 7) (pVar 4))))) (pRet (pVal (pC (.bl true)))) pNext { nx := K, rt := (EA C).rt } [some (.val (wordD (true, a, b))), some (.val (.lst (wordsD ws))), some (.val (.str (wordS true))), some (.val (.int ((a : Nat) : Int))), some (.val (.int ((b : Nat) : Int))), some (.val (.str (wordS true))), some (.val (.int ((a' : Nat) : Int))), some (.val (.int ((b' : Nat) : Int)))])
      refine ifB (fun t => ifB (fun t2 => hC) (fun t2 => second fun z => ?_)) (fun t => second fun z => ?_)
      · have t2 := of_decide_eq_false t2
        have : a ≤ a' ∧ b' ≤ b := z.2
        dsimp only at t2
        omega
      · have t := of_decide_eq_false t
        have : a ≤ a' ∧ b' ≤ b := z.2
        dsimp only at t
        omega
  · obtain ⟨⟨_, h, _⟩, _⟩ := hI
    cases h
theorem okN_words2 {ws : List Wo} (h : ws.length ≤ 1000) : okN 2 (.lst (wordsD ws)) := ⟨by rw [wordsD_len]; exact h, fun x hx => by
  obtain ⟨w, _, rfl⟩ := List.mem_map.mp hx
  refine ⟨by show (3 : Nat) ≤ 1000; decide, fun y hy => ?_⟩
  rcases List.mem_cons.mp hy with e | hy
  · rw [e]; exact sh_word' w.1
  rcases List.mem_cons.mp hy with e | hy
  · rw [e]; trivial
  · rw [List.mem_singleton.mp hy]; trivial⟩
section
abbrev rho (w0 : Option Cell) (w1 : Option Cell) (w2 : Option Cell) (w3 : Option Cell) (w4 : Option Cell) (w5 : Option Cell) (v6 : Option D) (w7 : Option Cell) (w8 : Option Cell) : Ro := [w0, w1, w2, w3, w4, w5, v6.map Cell.val, w7, w8]
variable {w0 w1 w2 w3 w4 w5 w7 w8 : Option Cell} {v6 : Option D}
abbrev vX (o : List Bool) : Option Cell := some (.val (.str (txt o)))
abbrev vC' (o : List Bool) : Option Cell := some (.val (.lst (wordsD (corL 0 0 o))))
abbrev vM (o : List Bool) : Option Cell := some (.val (.tup [.int ((cT o : Nat) : Int), .int ((cF o : Nat) : Int)]))
variable {P : PEnds} {a0 p : Addr} {zs : List D} {n i j : Nat} {o : List Bool}
theorem r1 (hB : Bx n zs) (hn : n ≤ 100000000) (hP : ∀ o zs, o.length ≤ 24 → Bx (n + 600) zs → P.nx (rho (vo a0 zs) (vX o) w2 w3 w4 w5 v6 w7 w8)) : T__law_right_1 (g_take 100000000000000) g__law_order P (rho (vo a0 zs) w1 w2 w3 w4 w5 v6 w7 w8) := by
  refine ⟨zs, rfl, rfl, n, 13, by omega, hB, rfl, by decide, by decide, fun u zs1 u0 u1 hB1 => ?_⟩
  refine ⟨zs1, rfl, rfl, _, 13, by omega, hB1, rfl, by decide, by decide, fun v zs2 v0 v1 hB2 => ?_⟩
  obtain ⟨c, rfl⟩ := Int.eq_ofNat_of_zero_le u0
  obtain ⟨f, rfl⟩ := Int.eq_ofNat_of_zero_le v0
  refine ⟨zs2, rfl, rfl, _, c, f, by omega, hB2, rfl, by omega, by omega, fun o zs3 h1 h2 hB3 => ?_⟩
  exact hP o zs3 (by have := cT_cF o; omega) (hB3.mono (by omega))
theorem r2 (hl : o.length ≤ 24) (hP : P.nx (rho w0 (vX o) (vC' o) (vM o) w4 w5 v6 w7 w8)) : T__law_right_2 g__law_due P (rho w0 (vX o) w2 w3 w4 w5 v6 w7 w8) := by
  refine ⟨rfl, o, rfl, by omega, fun q => ⟨by show (2 : Nat) ≤ sizeLine; decide, ?_⟩⟩
  have := hP
  rw [show vM o = some (.val (.tup [.int (Txt.count (txt o) "c"), .int (Txt.count (txt o) "f")])) by rw [count_c, count_f]] at this
  exact this
theorem r3 (hl : o.length ≤ 24) (hP : ∀ w4 w5, P.nx (rho w0 (vX o) (vC' o) w3 w4 w5 v6 w7 w8)) : T__law_right_3 g_corners (gS 4) P (rho w0 (vX o) (vC' o) w3 w4 w5 v6 w7 w8) := by
  have hcl := corL_len o 0 0
  have ok := okN_words2 (ws := corL 0 0 o) (by omega)
  refine ⟨by decide, by decide, ?_⟩
  refine fr_rg 2 (fun _ ρ => ∃ w4 w5, ρ = (rho w0 (vX o) (vC' o) w3 w4 w5 v6 w7 w8)) rfl ⟨_, _, rfl⟩ (fun k ρ K hk hI hK => ?_) (fun ρ hI => ?_)
  · obtain ⟨w4, w5, rfl⟩ := hI
    refine ⟨rfl, o, rfl, by omega, fun q => ?_⟩
    refine ⟨rfl, o, rfl, by omega, fun q2 => ⟨by show (2 : Nat) ≤ sizeLine; decide, by show (2 : Nat) ≤ sizeLine; decide, rfl, _, rfl, okN_two ok ok, ?_⟩⟩
    refine ⟨_, rfl, small1000 (by rw [List.length_reverse, wordsD_len]; omega), ?_⟩
    exact hK _ ⟨_, _, rfl⟩
  · obtain ⟨w4, w5, rfl⟩ := hI
    exact hP _ _
theorem cor_ok {w : Wo} (h : w ∈ corL 0 0 o) : w.2.1 < cT o ∧ w.2.2 < cF o ∧ hasW (aheadL 0 o) w = true := by
  obtain ⟨h1, h2, h3, h4, h5⟩ := cor_has o 0 0 w h
  refine ⟨by omega, by omega, ?_⟩
  unfold hasW
  rw [h5, Nat.sub_zero]; simp
theorem r4 (hl : o.length ≤ 24) (hP : P.nx (rho w0 (vX o) (vC' o) w3 w4 w5 v6 w7 w8)) : T__law_right_4 g__law_has P (rho w0 (vX o) (vC' o) w3 w4 w5 v6 w7 w8) := by
  have hcl := corL_len o 0 0
  refine lc_mp (corL 0 0 o) wordD (fun _ => .bl true) rfl (fun w hw K hK => ?_) (by omega) ⟨(corL 0 0 o).map fun _ => true, by rw [List.map_map]; rfl, ifF ?_ hP⟩
  · obtain ⟨h1, h2, h3⟩ := cor_ok hw
    refine ⟨rfl, o, w, rfl, h1, h2, by omega, ?_⟩
    rw [h3]
    exact hK _ (by cases v6 <;> rfl)
  · rw [show ((corL 0 0 o).map fun _ => true).all id = true by rw [List.all_map, List.all_eq_true]; intro x _; rfl]; rfl
theorem r5 (hl : o.length ≤ 24) (hP : ∀ v6 w7 w8, P.nx (rho w0 (vX o) (vC' o) (vM o) w4 w5 v6 w7 w8)) : T__law_right_5 g__law_has g__law_follows P (rho w0 (vX o) (vC' o) (vM o) w4 w5 v6 w7 w8) := by
  have hTF := cT_cF o
  refine ⟨_, rfl, by show (-(2 ^ 62) : Int) ≤ ((cT o : Nat) : Int); omega, by show ((cT o : Nat) : Int) < 2 ^ 62; omega, ?_⟩
  refine fr_rg (cT o) (fun _ ρ => ∃ v6 w7 w8, ρ = (rho w0 (vX o) (vC' o) (vM o) w4 w5 v6 w7 w8)) (Int.toNat_natCast _) ⟨_, _, _, rfl⟩ (fun i ρ K hi hI hK => ?_) (fun ρ hI => ?_)
  · obtain ⟨v6, w7, w8, rfl⟩ := hI
    refine ⟨_, rfl, by show (-(2 ^ 62) : Int) ≤ ((cF o : Nat) : Int); omega, by show ((cF o : Nat) : Int) < 2 ^ 62; omega, ?_⟩
    refine fr_rg (cF o) (fun _ ρ => ∃ v6 w8, ρ = (rho w0 (vX o) (vC' o) (vM o) w4 w5 v6 (vI i) w8)) (Int.toNat_natCast _) ⟨_, _, rfl⟩ (fun j ρ K2 hj hI hK2 => ?_) (fun ρ hI => ?_)
    · obtain ⟨v6, w8, rfl⟩ := hI
      obtain ⟨v, hv, e1, e2⟩ := cor_follows o 0 0 i j (Nat.zero_le _) (by omega) (Nat.zero_le _) (by omega)
      rw [Nat.sub_zero] at e1
      have hh : hasW (aheadL 0 o) (true, i, j) = decide (i < (aheadL 0 o).getD j 0) := by unfold hasW; simp
      refine ⟨by show (2 : Nat) ≤ sizeLine; decide, by show (3 : Nat) ≤ sizeLine; decide, rfl, o, (true, i, j), rfl, hi, hj, by omega, ?_⟩
      rw [hh, ← e1]
      have fin : ∀ b : Bool, b = v.1 → pSeq (pNext) (T__law_right_5_1_2 g__law_follows) { nx := K2, rt := P.rt } (rho w0 (vX o) (vC' o) (vM o) w4 w5 (some (wordD (b, i, j))) (vI i) (vI j)) := fun b hb => by
        refine ⟨rfl, (b, i, j), corL 0 0 o, rfl, ⟨v, hv, hb.symm, e2⟩, ?_⟩
        exact hK2 _ ⟨_, _, rfl⟩
      cases hb : v.1 with
      | true => exact ⟨.str (wordS true), rfl, by show (3 : Nat) ≤ sizeLine; decide, fin true hb.symm⟩
      | false => exact ⟨.str (wordS false), rfl, by show (3 : Nat) ≤ sizeLine; decide, fin false hb.symm⟩
    · obtain ⟨v6, w8, rfl⟩ := hI
      exact hK _ ⟨_, _, _, rfl⟩
  · obtain ⟨v6, w7, w8, rfl⟩ := hI
    exact hP _ _ _
abbrev g__law_right := gRight
theorem rd__law_right : ∀ a xs ds C, ds.length + 1 = 1 → g__law_right xs ds C → T__law_right g_corners (g_take 100000000000000) (gS 4) g__law_order g__law_has g__law_due g__law_follows (EB a C) (startB N__law_right a xs ds) := by
  rintro a xs ds C - ⟨n, hn, hB, rfl, hC⟩
  refine r1 (v6 := none) hB (by omega) fun o zs hl hB => ?_
  refine r2 hl ?_
  refine r3 hl fun w4 w5 => ?_
  refine r4 hl ?_
  refine r5 hl fun v6 w7 w8 => ?_
  exact ⟨zs, rfl, hC zs (hB.mono (by omega))⟩
theorem rd_law : ∀ ds C, ds.length = 1 → g_law ds C → T_law g__law_box g__law_right (EA C) (startA N_law ds) := by
  rintro ds C - ⟨ns, rfl, hns, hC⟩
  refine ⟨by show (-(2 ^ 62) : Int) ≤ 1 + min 3 _; omega, by show (1 + min 3 _ : Int) < 2 ^ 62; omega, ?_⟩
  refine lc_rg (1 + min 3 (ns.length : Int)).toNat (fun _ => .bl true) rfl (fun k hk K hK => ?_) (by omega) ⟨(List.range (1 + min 3 (ns.length : Int)).toNat).map fun _ => true, by rw [List.map_map]; rfl, ?_⟩
  · exact ⟨rfl, ns, k, rfl, by omega, by omega, fun a0 zs hB => ⟨rfl, 0, by omega, hB, rfl, fun zs hz => hK _ rfl⟩⟩
  · rw [show ((List.range (1 + min 3 (ns.length : Int)).toNat).map fun _ => true).all id = true by rw [List.all_map, List.all_eq_true]; intro x _; rfl]
    exact hC
end
end Pl
namespace Pl
open PySem PySem.Spec PyProof.Rows L2
def topS (i : Nat) : Stmt := PySem.Challenge.pw_dunebooks_k42_corners_of_orders.main.body.getD i (.Pass ⟨0, 0, 0, 0⟩)
abbrev s_corner_stops : Stmt := topS 1
abbrev NN_corner_stops : List Str := [("order" : Str), ("at" : Str)]
theorem sc_corner_stops : FnScope NN_corner_stops ["order"] (defScope s_corner_stops) := ⟨rfl, rfl, rfl, by decide +kernel, rfl, by decide +kernel, by decide +kernel⟩
abbrev s_corner_at : Stmt := topS 2
abbrev NN_corner_at : List Str := [("order" : Str), ("stop" : Str), ("ahead" : Str)]
theorem sc_corner_at : FnScope NN_corner_at ["order", "stop"] (defScope s_corner_at) := ⟨rfl, rfl, rfl, by decide +kernel, rfl, by decide +kernel, by decide +kernel⟩
abbrev s_corners : Stmt := topS 3
abbrev NN_corners : List Str := [("order" : Str), ("stop" : Str)]
theorem sc_corners : FnScope NN_corners ["order"] (defScope s_corners) := ⟨rfl, rfl, rfl, by decide +kernel, rfl, by decide +kernel, by decide +kernel⟩
abbrev s__law_cell_at : Stmt := topS 5
abbrev NN__law_cell_at : List Str := [("_law_script" : Str), ("_law_k" : Str)]
theorem sc__law_cell_at : FnScope NN__law_cell_at ["_law_script", "_law_k"] (defScope s__law_cell_at) := ⟨rfl, rfl, rfl, by decide +kernel, rfl, by decide +kernel, by decide +kernel⟩
abbrev s__law_box : Stmt := topS 6
abbrev NN__law_box : List Str := [("_law_script" : Str), ("_law_k" : Str), ("_law_cell" : Str)]
theorem sc__law_box : FnScope NN__law_box ["_law_script", "_law_k"] (defScope s__law_box) := ⟨rfl, rfl, rfl, by decide +kernel, rfl, by decide +kernel, by decide +kernel⟩
abbrev s__law_take : Stmt := topS 7
abbrev NN__law_take : List Str := [("_law_box_here" : Str), ("_law_size" : Str), ("_law_told" : Str), ("_law_once" : Str), ("_law_twice" : Str)]
theorem sc__law_take : FnScope NN__law_take ["_law_box_here", "_law_size"] (defScope s__law_take) := ⟨rfl, rfl, rfl, by decide +kernel, rfl, by decide +kernel, by decide +kernel⟩
abbrev s__law_same : Stmt := topS 8
abbrev NN__law_same : List Str := [("_law_told" : Str), ("_law_due_here" : Str), ("_law_one" : Str), ("_law_two" : Str)]
theorem sc__law_same : FnScope NN__law_same ["_law_told", "_law_due_here"] (defScope s__law_same) := ⟨rfl, rfl, rfl, by decide +kernel, rfl, by decide +kernel, by decide +kernel⟩
abbrev s__law_order : Stmt := topS 9
abbrev NN__law_order : List Str := [("_law_box_here" : Str), ("_law_cuts" : Str), ("_law_fills" : Str), ("_law_letters" : Str), ("_law_told" : Str), ("_law_turn" : Str)]
theorem sc__law_order : FnScope NN__law_order ["_law_box_here", "_law_cuts", "_law_fills"] (defScope s__law_order) := ⟨rfl, rfl, rfl, by decide +kernel, rfl, by decide +kernel, by decide +kernel⟩
abbrev s__law_has : Stmt := topS 10
abbrev NN__law_has : List Str := [("_law_order_here" : Str), ("_law_word" : Str), ("_law_kind" : Str), ("_law_cut" : Str), ("_law_fill" : Str), ("_law_k" : Str), ("_law_letter" : Str), ("_law_spots" : Str), ("_law_others" : Str)]
theorem sc__law_has : FnScope NN__law_has ["_law_order_here", "_law_word"] (defScope s__law_has) := ⟨rfl, rfl, rfl, by decide +kernel, rfl, by decide +kernel, by decide +kernel⟩
abbrev s__law_due : Stmt := topS 11
abbrev NN__law_due : List Str := [("_law_order_here" : Str), ("_law_told" : Str), ("_law_k" : Str), ("_law_cuts" : Str), ("_law_fills" : Str)]
theorem sc__law_due : FnScope NN__law_due ["_law_order_here"] (defScope s__law_due) := ⟨rfl, rfl, rfl, by decide +kernel, rfl, by decide +kernel, by decide +kernel⟩
abbrev s__law_follows : Stmt := topS 12
abbrev NN__law_follows : List Str := [("_law_word" : Str), ("_law_some" : Str), ("_law_kind" : Str), ("_law_cut" : Str), ("_law_fill" : Str), ("_law_own" : Str), ("_law_late" : Str), ("_law_early" : Str)]
theorem sc__law_follows : FnScope NN__law_follows ["_law_word", "_law_some"] (defScope s__law_follows) := ⟨rfl, rfl, rfl, by decide +kernel, rfl, by decide +kernel, by decide +kernel⟩
abbrev s__law_right : Stmt := topS 13
abbrev NN__law_right : List Str := [("_law_box_here" : Str), ("_law_order_here" : Str), ("_law_due_here" : Str), ("_law_many" : Str), ("_law_turn" : Str), ("_law_found" : Str), ("_law_word" : Str), ("_law_cut" : Str), ("_law_fill" : Str)]
theorem sc__law_right : FnScope NN__law_right ["_law_box_here"] (defScope s__law_right) := ⟨rfl, rfl, rfl, by decide +kernel, rfl, by decide +kernel, by decide +kernel⟩
abbrev s_law : Stmt := topS 14
abbrev NN_law : List Str := [("_law_script" : Str), ("_law_k" : Str)]
theorem sc_law : FnScope NN_law ["_law_script"] (defScope s_law) := ⟨rfl, rfl, rfl, by decide +kernel, rfl, by decide +kernel, by decide +kernel⟩
set_option maxHeartbeats 4000000 in
structure Tx (K : PySem.W.Frag) (mg : Str → Option Value) where
  f_corner_stops : Addr
  fd_corner_stops : FuncData
  F_corner_stops : Fun K "corner_stops" "corner_stops" s_corner_stops f_corner_stops fd_corner_stops
  m_corner_stops : mg "corner_stops" = some (.ref f_corner_stops)
  b_corner_stops : L2.Binds K fd_corner_stops ["order"] []
  f_corner_at : Addr
  fd_corner_at : FuncData
  F_corner_at : Fun K "corner_at" "corner_at" s_corner_at f_corner_at fd_corner_at
  m_corner_at : mg "corner_at" = some (.ref f_corner_at)
  b_corner_at : L2.Binds K fd_corner_at ["order", "stop"] []
  f_corners : Addr
  fd_corners : FuncData
  F_corners : Fun K "corners" "corners" s_corners f_corners fd_corners
  m_corners : mg "corners" = some (.ref f_corners)
  b_corners : L2.Binds K fd_corners ["order"] []
  f__law_cell_at : Addr
  fd__law_cell_at : FuncData
  F__law_cell_at : Fun K "_law_cell_at" "_law_cell_at" s__law_cell_at f__law_cell_at fd__law_cell_at
  m__law_cell_at : mg "_law_cell_at" = some (.ref f__law_cell_at)
  b__law_cell_at : L2.Binds K fd__law_cell_at ["_law_script", "_law_k"] []
  f__law_box : Addr
  fd__law_box : FuncData
  F__law_box : Fun K "_law_box" "_law_box" s__law_box f__law_box fd__law_box
  m__law_box : mg "_law_box" = some (.ref f__law_box)
  b__law_box : L2.Binds K fd__law_box ["_law_script", "_law_k"] []
  f__law_take : Addr
  fd__law_take : FuncData
  F__law_take : Fun K "_law_take" "_law_take" s__law_take f__law_take fd__law_take
  m__law_take : mg "_law_take" = some (.ref f__law_take)
  b__law_take : L2.Binds K fd__law_take ["_law_box_here", "_law_size"] []
  f__law_same : Addr
  fd__law_same : FuncData
  F__law_same : Fun K "_law_same" "_law_same" s__law_same f__law_same fd__law_same
  m__law_same : mg "_law_same" = some (.ref f__law_same)
  b__law_same : L2.Binds K fd__law_same ["_law_told", "_law_due_here"] []
  f__law_order : Addr
  fd__law_order : FuncData
  F__law_order : Fun K "_law_order" "_law_order" s__law_order f__law_order fd__law_order
  m__law_order : mg "_law_order" = some (.ref f__law_order)
  b__law_order : L2.Binds K fd__law_order ["_law_box_here", "_law_cuts", "_law_fills"] []
  f__law_has : Addr
  fd__law_has : FuncData
  F__law_has : Fun K "_law_has" "_law_has" s__law_has f__law_has fd__law_has
  m__law_has : mg "_law_has" = some (.ref f__law_has)
  b__law_has : L2.Binds K fd__law_has ["_law_order_here", "_law_word"] []
  f__law_due : Addr
  fd__law_due : FuncData
  F__law_due : Fun K "_law_due" "_law_due" s__law_due f__law_due fd__law_due
  m__law_due : mg "_law_due" = some (.ref f__law_due)
  b__law_due : L2.Binds K fd__law_due ["_law_order_here"] []
  f__law_follows : Addr
  fd__law_follows : FuncData
  F__law_follows : Fun K "_law_follows" "_law_follows" s__law_follows f__law_follows fd__law_follows
  m__law_follows : mg "_law_follows" = some (.ref f__law_follows)
  b__law_follows : L2.Binds K fd__law_follows ["_law_word", "_law_some"] []
  f__law_right : Addr
  fd__law_right : FuncData
  F__law_right : Fun K "_law_right" "_law_right" s__law_right f__law_right fd__law_right
  m__law_right : mg "_law_right" = some (.ref f__law_right)
  b__law_right : L2.Binds K fd__law_right ["_law_box_here"] []
  f_law : Addr
  fd_law : FuncData
  F_law : Fun K "law" "law" s_law f_law fd_law
  m_law : mg "law" = some (.ref f_law)
  b_law : L2.Binds K fd_law ["_law_script"] []
  z_abs : mg "abs" = none
  z_all : mg "all" = none
  z_bool : mg "bool" = none
  z_enumerate : mg "enumerate" = none
  z_int : mg "int" = none
  z_isinstance : mg "isinstance" = none
  z_len : mg "len" = none
  z_list : mg "list" = none
  z_min : mg "min" = none
  z_range : mg "range" = none
  z_str : mg "str" = none
  z_tuple : mg "tuple" = none
  z_zip : mg "zip" = none
section
variable {P : Program} {w : World} {K : PySem.W.Frag} {mg : Str → Option Value} {base : Heap} (Z : Tx K mg)
include Z
set_option maxHeartbeats 4000000 in
theorem bd_corner_stops {k : Nat} : ∀ (cdv : Value) (A : Around) (outer : List Env) (s : Shared) (H : Hp) (E : XK), Room k (A.deeper (envOfC "corner_stops" (defScope s_corner_stops) s.heap.objs.size Z.f_corner_stops cdv)) → ∃ t, PPSs (cxOf CX0 P w K mg base NN_corner_stops "corner_stops" (defScope s_corner_stops) Z.f_corner_stops cdv A outer s H E).nox (defBody s_corner_stops) t (T_corner_stops) :=
  fun cdv A outer s H E hr => ⟨_, (ppss_one (pps_ret (ppc_lcL (own := [("at", 1)]) rfl sc_corner_stops.nd (ppi_range1 (by rfl) Z.z_range (ppa_cons (ppe_sub (ppe_lenO 0 (by rfl) Z.z_len) ppe_int) ppa_nil)) (blkOk_by (N := NN_corner_stops) (sc := defScope s_corner_stops) (by decide +kernel)) (fun _ _ _ _ _ => ((ptg_name (i := 1) sc_corner_stops.nd)).lift) (fun _ _ _ _ _ => ((ppts_one (ppt_cmp (cm_ne (hu64 hr)) (ppe_ixO 0 (ppe_var 1)) (ppe_ixO 0 (ppe_add (ppe_var 1) ppe_int)) (nomark _)))).lift) (fun _ _ _ _ _ => ((ppe_add (ppe_var 1) ppe_int)).lift))))⟩
set_option maxHeartbeats 4000000 in
theorem bd_corner_at {k : Nat} : ∀ (cdv : Value) (A : Around) (outer : List Env) (s : Shared) (H : Hp) (E : XK), Room k (A.deeper (envOfC "corner_at" (defScope s_corner_at) s.heap.objs.size Z.f_corner_at cdv)) → ∃ t, PPSs (cxOf CX0 P w K mg base NN_corner_at "corner_at" (defScope s_corner_at) Z.f_corner_at cdv A outer s H E).nox (defBody s_corner_at) t (T_corner_at) :=
  fun cdv A outer s H E hr => ⟨_, (ppss_cons (pps_set (i := 2) sc_corner_at.nd (ppc_val (ppe_sliceS (ppe_var 0) ppo_none (ppo_some (ppe_sub (ppe_var 1) ppe_int)))))
    (ppss_one (pps_ret (ppc_val (ppe_tup (ppa_cons (ppe_ifExp (ppt_cmp (cm_eq (hu64 hr)) (ppe_ixO 0 (ppe_sub (ppe_var 1) ppe_int)) ppe_str (nomark _)) ppe_str ppe_str) (ppa_cons (ppe_count (ppe_var 2) ppe_str) (ppa_cons (ppe_count (ppe_var 2) ppe_str) ppa_nil))))))))⟩
set_option maxHeartbeats 4000000 in
theorem bd_corners {k : Nat} {g_corner_stops : FA} (O_corner_stops : FnOk P w K mg base CX0 k Z.f_corner_stops Z.fd_corner_stops [("order" : Str)] (spA K 1 g_corner_stops)) {g_corner_at : FA} (O_corner_at : FnOk P w K mg base CX0 k Z.f_corner_at Z.fd_corner_at [("order" : Str), ("stop" : Str)] (spA K 2 g_corner_at)) : ∀ (cdv : Value) (A : Around) (outer : List Env) (s : Shared) (H : Hp) (E : XK), Room k (A.deeper (envOfC "corners" (defScope s_corners) s.heap.objs.size Z.f_corners cdv)) → ∃ t, PPSs (cxOf CX0 P w K mg base NN_corners "corners" (defScope s_corners) Z.f_corners cdv A outer s H E).nox (defBody s_corners) t (T_corners g_corner_stops g_corner_at) :=
  fun cdv A outer s H E hr => ⟨_, (ppss_one (pps_ret (ppc_lcL (own := [("stop", 1)]) rfl sc_corners.nd (ppi_seq (ppe_frz (ppc_callA O_corner_stops hr (by rfl) Z.m_corner_stops Z.F_corner_stops.kp Z.b_corner_stops (ppa_cons (ppe_var 0) ppa_nil)))) (blkOk_by (N := NN_corners) (sc := defScope s_corners) (by decide +kernel)) (fun _ _ _ _ _ => ((ptg_name (i := 1) sc_corners.nd)).lift) (fun _ _ _ _ _ => (ppts_nil).lift) (fun _ _ _ _ _ => ((ppe_frz (ppc_callA O_corner_at hr (by rfl) Z.m_corner_at Z.F_corner_at.kp Z.b_corner_at (ppa_cons (ppe_var 0) (ppa_cons (ppe_var 1) ppa_nil))))).lift))))⟩
set_option maxHeartbeats 4000000 in
theorem bd__law_cell_at {k : Nat} : ∀ (cdv : Value) (A : Around) (outer : List Env) (s : Shared) (H : Hp) (E : XK), Room k (A.deeper (envOfC "_law_cell_at" (defScope s__law_cell_at) s.heap.objs.size Z.f__law_cell_at cdv)) → ∃ t, PPSs (cxOf CX0 P w K mg base NN__law_cell_at "_law_cell_at" (defScope s__law_cell_at) Z.f__law_cell_at cdv A outer s H E).nox (defBody s__law_cell_at) t (T__law_cell_at) :=
  fun cdv A outer s H E hr => ⟨_, (ppss_cons (pps_if (ppt_cmp cm_lt (ppe_var 1) (ppe_lenO 0 (by rfl) Z.z_len) (nomark _))
    (ppss_one (pps_ret (ppc_val (ppe_ixO 0 (ppe_var 1)))))
    ppss_nil)
    (ppss_one (pps_ret (ppc_val ppe_int))))⟩
set_option maxHeartbeats 4000000 in
theorem bd__law_box {k : Nat} {g__law_cell_at : FA} (O__law_cell_at : FnOk P w K mg base CX0 k Z.f__law_cell_at Z.fd__law_cell_at [("_law_script" : Str), ("_law_k" : Str)] (spA K 2 g__law_cell_at)) : ∀ (cdv : Value) (A : Around) (outer : List Env) (s : Shared) (H : Hp) (E : XK), Room k (A.deeper (envOfC "_law_box" (defScope s__law_box) s.heap.objs.size Z.f__law_box cdv)) → ∃ t, PPSs (cxOf CX0 P w K mg base NN__law_box "_law_box" (defScope s__law_box) Z.f__law_box cdv A outer s H E).nox (defBody s__law_box) t (T__law_box g__law_cell_at) :=
  fun cdv A outer s H E hr => ⟨_, (ppss_cons (pps_set (i := 2) sc__law_box.nd (ppc_callA O__law_cell_at hr (by rfl) Z.m__law_cell_at Z.F__law_cell_at.kp Z.b__law_cell_at (ppa_cons (ppe_var 0) (ppa_cons (ppe_var 1) ppa_nil))))
    (ppss_one (pps_ret (ppc_lst (ppa_cons (ppe_mul (ppe_callB call_abs cp_abs (by rfl) Z.z_abs (by decide +kernel) (ppa_cons (ppe_var 2) ppa_nil)) (ppe_callTy call_int1 cp_int1 (by rfl) Z.z_int (by decide +kernel) (ppa_cons (ppe_cmp cm_ge (ppe_callB call_abs cp_abs (by rfl) Z.z_abs (by decide +kernel) (ppa_cons (ppe_var 2) ppa_nil)) (ppe_powc 1000000000000000000) (nomark _)) ppa_nil))) (ppa_cons (ppe_add (ppe_add (ppe_mod (ppe_var 2) ppe_int) (ppe_mul ppe_int (ppe_var 1))) ppe_int) (ppa_cons ppe_int ppa_nil)))))))⟩
set_option maxHeartbeats 4000000 in
theorem bd__law_take {k : Nat} {g__law_take : FB} (O__law_take : FnOk P w K mg base CX0 k Z.f__law_take Z.fd__law_take [("_law_box_here" : Str), ("_law_size" : Str)] (spB K 2 g__law_take)) : ∀ (cdv : Value) (A : Around) (outer : List Env) (s : Shared) (H : Hp) (E : XK), Room k (A.deeper (envOfC "_law_take" (defScope s__law_take) s.heap.objs.size Z.f__law_take cdv)) → ∃ t, PPSs (cxOf CX0 P w K mg base NN__law_take "_law_take" (defScope s__law_take) Z.f__law_take cdv A outer s H E).nox (defBody s__law_take) t (T__law_take g__law_take) :=
  fun cdv A outer s H E hr => ⟨_, (ppss_cons (pps_if (ppt_cmp cm_gt (ppe_ixO 0 ppe_int) ppe_int (nomark _))
    (ppss_cons (pps_set (i := 2) sc__law_take.nd (ppc_val (ppe_mod (ppe_ixO 0 ppe_int) (ppe_var 1))))
    (ppss_cons (pps_store 0 ppe_int (ppe_div (ppe_ixO 0 ppe_int) (ppe_var 1)))
    (ppss_one (pps_ret (ppc_move 2)))))
    ppss_nil)
    (ppss_cons (pps_if (ppt_cmp cm_gt (ppe_var 1) (ppe_powc 10000000) (nomark _))
    (ppss_one (pps_ret (ppc_val (ppe_mod (ppe_add (ppe_frz (ppc_callB 0 O__law_take hr (by rfl) Z.m__law_take Z.F__law_take.kp Z.b__law_take (ppa_cons (ppe_powc 10000000) ppa_nil))) (ppe_mul (ppe_powc 10000000) (ppe_frz (ppc_callB 0 O__law_take hr (by rfl) Z.m__law_take Z.F__law_take.kp Z.b__law_take (ppa_cons (ppe_add (ppe_div (ppe_sub (ppe_var 1) ppe_int) (ppe_powc 10000000)) ppe_int) ppa_nil))))) (ppe_var 1)))))
    ppss_nil)
    (ppss_cons (pps_store 0 ppe_int (ppe_add (ppe_ixO 0 ppe_int) ppe_int))
    (ppss_cons (pps_set (i := 3) sc__law_take.nd (ppc_val (ppe_mod (ppe_mul (ppe_add (ppe_ixO 0 ppe_int) (ppe_mul ppe_int (ppe_ixO 0 ppe_int))) (ppe_add ppe_int (ppe_ixO 0 ppe_int))) ppe_int)))
    (ppss_cons (pps_set (i := 4) sc__law_take.nd (ppc_val (ppe_mod (ppe_mul (ppe_add (ppe_add (ppe_var 3) (ppe_ixO 0 ppe_int)) (ppe_div (ppe_ixO 0 ppe_int) ppe_int)) (ppe_add (ppe_mod (ppe_var 3) ppe_int) ppe_int)) ppe_int)))
    (ppss_one (pps_ret (ppc_val (ppe_mod (ppe_div (ppe_mod (ppe_add (ppe_mul (ppe_var 4) ppe_int) (ppe_var 3)) ppe_int) ppe_int) (ppe_var 1))))))))))⟩
set_option maxHeartbeats 4000000 in
theorem bd__law_same {k : Nat} {g__law_same : FA} (O__law_same : FnOk P w K mg base CX0 k Z.f__law_same Z.fd__law_same [("_law_told" : Str), ("_law_due_here" : Str)] (spA K 2 g__law_same)) : ∀ (cdv : Value) (A : Around) (outer : List Env) (s : Shared) (H : Hp) (E : XK), Room k (A.deeper (envOfC "_law_same" (defScope s__law_same) s.heap.objs.size Z.f__law_same cdv)) → ∃ t, PPSs (cxOf CX0 P w K mg base NN__law_same "_law_same" (defScope s__law_same) Z.f__law_same cdv A outer s H E).nox (defBody s__law_same) t (T__law_same g__law_same) :=
  fun cdv A outer s H E hr => ⟨_, (ppss_cons (pps_if (ppt_val (ppe_isi2 isT_list isT_tuple (by rfl) Z.z_isinstance (by rfl) Z.z_list (by rfl) Z.z_tuple (ppe_var 1)))
    (ppss_cons (pps_if (PPW.ppt (ppw_or (ppt_cmp (cm_ne (hu64 hr)) (ppe_isi isT_list (by rfl) Z.z_isinstance (by rfl) Z.z_list (ppe_var 0)) (ppe_isi isT_list (by rfl) Z.z_isinstance (by rfl) Z.z_list (ppe_var 1)) (nomark _)) (ppw_or1 (ppt_cmp (cm_ne (hu64 hr)) (ppe_isi isT_tuple (by rfl) Z.z_isinstance (by rfl) Z.z_tuple (ppe_var 0)) (ppe_isi isT_tuple (by rfl) Z.z_isinstance (by rfl) Z.z_tuple (ppe_var 1)) (nomark _)))))
    (ppss_one (pps_ret (ppc_val ppe_bl)))
    ppss_nil)
    (ppss_one (pps_ret (ppc_val (ppe_and (ppe_cmp (cm_eq (hu64 hr)) (ppe_lenO 0 (by rfl) Z.z_len) (ppe_lenO 1 (by rfl) Z.z_len) (nomark _)) (ppe_one (ppe_callB (cr_all rfl) cp_all (by rfl) Z.z_all (by decide +kernel) (ppa_cons (ppe_lcL (own := [("_law_one", 2), ("_law_two", 3)]) rfl sc__law_same.nd (ppi_z2 (by rfl) Z.z_zip (ppa_cons (ppe_var 0) (ppa_cons (ppe_var 1) ppa_nil))) (blkOk_by (N := NN__law_same) (sc := defScope s__law_same) (by decide +kernel)) (fun _ _ _ _ _ => ((ptg_tup (n := 2) rfl (ptgs_cons (ptg_name (i := 2) sc__law_same.nd) (ptgs_cons (ptg_name (i := 3) sc__law_same.nd) ptgs_nil)))).lift) (fun _ _ _ _ _ => (ppts_nil).lift) (fun _ _ _ _ _ => ((ppe_frz (ppc_callA O__law_same hr (by rfl) Z.m__law_same Z.F__law_same.kp Z.b__law_same (ppa_cons (ppe_var 2) (ppa_cons (ppe_var 3) ppa_nil))))).lift)) ppa_nil))))))))
    ppss_nil)
    (ppss_cons (pps_if (PPW.ppt (ppw_or (ppt_cmp cm_isN (ppe_var 1) ppe_non (nomark _)) (ppw_or1 (ppt_val (ppe_isi2 isT_bool isT_str (by rfl) Z.z_isinstance (by rfl) Z.z_bool (by rfl) Z.z_str (ppe_var 1))))))
    (ppss_one (pps_ret (ppc_val (ppe_and (ppe_cmp (cm_eq (hu64 hr)) (ppe_var 0) (ppe_var 1) (nomark _)) (ppe_and (ppe_cmp (cm_eq (hu64 hr)) (ppe_isi isT_bool (by rfl) Z.z_isinstance (by rfl) Z.z_bool (ppe_var 0)) (ppe_isi isT_bool (by rfl) Z.z_isinstance (by rfl) Z.z_bool (ppe_var 1)) (nomark _)) (ppe_one (ppe_cmp (cm_eq (hu64 hr)) (ppe_cmp cm_isN (ppe_var 0) ppe_non (nomark _)) (ppe_cmp cm_isN (ppe_var 1) ppe_non (nomark _)) (nomark _))))))))
    ppss_nil)
    (ppss_one (pps_ret (ppc_val (ppe_and (ppe_isi isT_int (by rfl) Z.z_isinstance (by rfl) Z.z_int (ppe_var 0)) (ppe_and (ppe_not (ppe_isi isT_bool (by rfl) Z.z_isinstance (by rfl) Z.z_bool (ppe_var 0))) (ppe_one (ppe_cmp (cm_eq (hu64 hr)) (ppe_var 0) (ppe_var 1) (nomark _))))))))))⟩
set_option maxHeartbeats 4000000 in
theorem bd__law_order {k : Nat} {g__law_take : FB} (O__law_take : FnOk P w K mg base CX0 k Z.f__law_take Z.fd__law_take [("_law_box_here" : Str), ("_law_size" : Str)] (spB K 2 g__law_take)) : ∀ (cdv : Value) (A : Around) (outer : List Env) (s : Shared) (H : Hp) (E : XK), Room k (A.deeper (envOfC "_law_order" (defScope s__law_order) s.heap.objs.size Z.f__law_order cdv)) → ∃ t, PPSs (cxOf CX0 P w K mg base NN__law_order "_law_order" (defScope s__law_order) Z.f__law_order cdv A outer s H E).nox (defBody s__law_order) t (T__law_order g__law_take) :=
  fun cdv A outer s H E hr => ⟨_, (ppss_cons (pps_parC (i := 3) (j := 4) rfl sc__law_order.nd (ppcs_cons (ppc_cat (ppe_rep (ppe_lst (ppa_cons ppe_str ppa_nil)) (ppe_var 1)) (ppe_rep (ppe_lst (ppa_cons ppe_str ppa_nil)) (ppe_var 2))) (ppcs_cons (ppc_val ppe_str) ppcs_nil)))
    (ppss_cons (pps_for PassesOwn.never rfl (ppi_range1 (by rfl) Z.z_range (ppa_cons (ppe_add (ppe_var 1) (ppe_var 2)) ppa_nil)) (ptg_name (i := 5) sc__law_order.nd)
    (ppss_one (pps_set (i := 4) sc__law_order.nd (ppc_val (ppe_add (ppe_var 4) (ppe_pop 3 (ppe_frz (ppc_callB 0 O__law_take hr (by rfl) Z.m__law_take Z.F__law_take.kp Z.b__law_take (ppa_cons (ppe_lenO 3 (by rfl) Z.z_len) ppa_nil)))))))))
    (ppss_one (pps_ret (ppc_move 4)))))⟩
set_option maxHeartbeats 4000000 in
theorem bd__law_has {k : Nat} : ∀ (cdv : Value) (A : Around) (outer : List Env) (s : Shared) (H : Hp) (E : XK), Room k (A.deeper (envOfC "_law_has" (defScope s__law_has) s.heap.objs.size Z.f__law_has cdv)) → ∃ t, PPSs (cxOf CX0 P w K mg base NN__law_has "_law_has" (defScope s__law_has) Z.f__law_has cdv A outer s H E).nox (defBody s__law_has) t (T__law_has) :=
  fun cdv A outer s H E hr => ⟨_, (ppss_cons (pps_asg (ppe_var 1) (ptg_tup (n := 3) rfl (ptgs_cons (ptg_name (i := 2) sc__law_has.nd) (ptgs_cons (ptg_name (i := 3) sc__law_has.nd) (ptgs_cons (ptg_name (i := 4) sc__law_has.nd) ptgs_nil)))))
    (ppss_cons (pps_setLcV (i := 7) (own := [("_law_k", 5), ("_law_letter", 6)]) rfl sc__law_has.nd (ppi_es (by rfl) Z.z_enumerate (ppa_cons (ppe_var 0) ppa_nil)) (blkOk_by (N := NN__law_has) (sc := defScope s__law_has) (by decide +kernel)) (fun _ _ _ _ _ => ((ptg_tup (n := 2) rfl (ptgs_cons (ptg_name (i := 5) sc__law_has.nd) (ptgs_cons (ptg_name (i := 6) sc__law_has.nd) ptgs_nil)))).lift) (fun _ _ _ _ _ => ((ppts_one (ppt_cmp (cm_eq (hu64 hr)) (ppe_var 6) ppe_str (nomark _)))).lift) (fun _ _ _ _ _ => ((ppe_var 5)).lift))
    (ppss_cons (pps_setLcV (i := 8) (own := [("_law_k", 5), ("_law_letter", 6)]) rfl sc__law_has.nd (ppi_es (by rfl) Z.z_enumerate (ppa_cons (ppe_var 0) ppa_nil)) (blkOk_by (N := NN__law_has) (sc := defScope s__law_has) (by decide +kernel)) (fun _ _ _ _ _ => ((ptg_tup (n := 2) rfl (ptgs_cons (ptg_name (i := 5) sc__law_has.nd) (ptgs_cons (ptg_name (i := 6) sc__law_has.nd) ptgs_nil)))).lift) (fun _ _ _ _ _ => ((ppts_one (ppt_cmp (cm_eq (hu64 hr)) (ppe_var 6) ppe_str (nomark _)))).lift) (fun _ _ _ _ _ => ((ppe_var 5)).lift))
    (ppss_one (pps_ret (ppc_val (ppe_cmp (cm_eq (hu64 hr)) (ppe_cmp cm_lt (ppe_ixO 7 (ppe_var 3)) (ppe_ixO 8 (ppe_var 4)) (nomark _)) (ppe_cmp (cm_eq (hu64 hr)) (ppe_var 2) ppe_str (nomark _)) (nomark _))))))))⟩
set_option maxHeartbeats 4000000 in
theorem bd__law_due {k : Nat} : ∀ (cdv : Value) (A : Around) (outer : List Env) (s : Shared) (H : Hp) (E : XK), Room k (A.deeper (envOfC "_law_due" (defScope s__law_due) s.heap.objs.size Z.f__law_due cdv)) → ∃ t, PPSs (cxOf CX0 P w K mg base NN__law_due "_law_due" (defScope s__law_due) Z.f__law_due cdv A outer s H E).nox (defBody s__law_due) t (T__law_due) :=
  fun cdv A outer s H E hr => ⟨_, (ppss_cons (pps_set (i := 1) sc__law_due.nd (ppc_lst ppa_nil))
    (ppss_cons (pps_for PassesOwn.never rfl (ppi_range2 (by rfl) Z.z_range (ppa_cons ppe_int (ppa_cons (ppe_lenO 0 (by rfl) Z.z_len) ppa_nil))) (ptg_name (i := 2) sc__law_due.nd)
    (ppss_cons (pps_par (i := 3) (j := 4) rfl sc__law_due.nd (ppa_cons (ppe_count (ppe_sliceS (ppe_var 0) ppo_none (ppo_some (ppe_var 2))) ppe_str) (ppa_cons (ppe_count (ppe_sliceS (ppe_var 0) ppo_none (ppo_some (ppe_var 2))) ppe_str) ppa_nil)))
    (ppss_cons (pps_if (ppt_cmp (cm_eq (hu64 hr)) (ppe_sliceS (ppe_var 0) (ppo_some (ppe_sub (ppe_var 2) ppe_int)) (ppo_some (ppe_add (ppe_var 2) ppe_int))) ppe_str (nomark _))
    (ppss_one (pps_append 1 (ppe_tup (ppa_cons ppe_str (ppa_cons (ppe_sub (ppe_var 3) ppe_int) (ppa_cons (ppe_var 4) ppa_nil))))))
    ppss_nil)
    (ppss_one (pps_if (ppt_cmp (cm_eq (hu64 hr)) (ppe_sliceS (ppe_var 0) (ppo_some (ppe_sub (ppe_var 2) ppe_int)) (ppo_some (ppe_add (ppe_var 2) ppe_int))) ppe_str (nomark _))
    (ppss_one (pps_append 1 (ppe_tup (ppa_cons ppe_str (ppa_cons (ppe_var 3) (ppa_cons (ppe_sub (ppe_var 4) ppe_int) ppa_nil))))))
    ppss_nil)))))
    (ppss_one (pps_ret (ppc_move 1)))))⟩
set_option maxHeartbeats 4000000 in
theorem bd__law_follows {k : Nat} : ∀ (cdv : Value) (A : Around) (outer : List Env) (s : Shared) (H : Hp) (E : XK), Room k (A.deeper (envOfC "_law_follows" (defScope s__law_follows) s.heap.objs.size Z.f__law_follows cdv)) → ∃ t, PPSs (cxOf CX0 P w K mg base NN__law_follows "_law_follows" (defScope s__law_follows) Z.f__law_follows cdv A outer s H E).nox (defBody s__law_follows) t (T__law_follows) :=
  fun cdv A outer s H E hr => ⟨_, (ppss_cons (pps_asg (ppe_var 0) (ptg_tup (n := 3) rfl (ptgs_cons (ptg_name (i := 2) sc__law_follows.nd) (ptgs_cons (ptg_name (i := 3) sc__law_follows.nd) (ptgs_cons (ptg_name (i := 4) sc__law_follows.nd) ptgs_nil)))))
    (ppss_cons (pps_for PassesOwn.never rfl (ppi_seq (ppe_var 1)) (ptg_tup (n := 3) rfl (ptgs_cons (ptg_name (i := 5) sc__law_follows.nd) (ptgs_cons (ptg_name (i := 6) sc__law_follows.nd) (ptgs_cons (ptg_name (i := 7) sc__law_follows.nd) ptgs_nil))))
    (ppss_cons (pps_if (PPW.ppt (ppw_and (ppt_chain (cm_eq (hu64 hr)) (cm_eq (hu64 hr)) (ppe_var 5) (ppe_var 2) ppe_str) (ppw_and (ppt_cmp cm_ge (ppe_var 6) (ppe_var 3) (nomark _)) (ppw_and1 (ppt_cmp cm_le (ppe_var 7) (ppe_var 4) (nomark _))))))
    (ppss_one (pps_ret (ppc_val ppe_bl)))
    ppss_nil)
    (ppss_one (pps_if (PPW.ppt (ppw_and (ppt_chain (cm_eq (hu64 hr)) (cm_eq (hu64 hr)) (ppe_var 5) (ppe_var 2) ppe_str) (ppw_and (ppt_cmp cm_le (ppe_var 6) (ppe_var 3) (nomark _)) (ppw_and1 (ppt_cmp cm_ge (ppe_var 7) (ppe_var 4) (nomark _))))))
    (ppss_one (pps_ret (ppc_val ppe_bl)))
    ppss_nil))))
    (ppss_one (pps_ret (ppc_val ppe_bl)))))⟩
set_option maxHeartbeats 4000000 in
theorem bd__law_right {k : Nat} {g_corners : FA} (O_corners : FnOk P w K mg base CX0 k Z.f_corners Z.fd_corners [("order" : Str)] (spA K 1 g_corners)) {g__law_take : FB} (O__law_take : FnOk P w K mg base CX0 k Z.f__law_take Z.fd__law_take [("_law_box_here" : Str), ("_law_size" : Str)] (spB K 2 g__law_take)) {g__law_same : FA} (O__law_same : FnOk P w K mg base CX0 k Z.f__law_same Z.fd__law_same [("_law_told" : Str), ("_law_due_here" : Str)] (spA K 2 g__law_same)) {g__law_order : FB} (O__law_order : FnOk P w K mg base CX0 k Z.f__law_order Z.fd__law_order [("_law_box_here" : Str), ("_law_cuts" : Str), ("_law_fills" : Str)] (spB K 3 g__law_order)) {g__law_has : FA} (O__law_has : FnOk P w K mg base CX0 k Z.f__law_has Z.fd__law_has [("_law_order_here" : Str), ("_law_word" : Str)] (spA K 2 g__law_has)) {g__law_due : FA} (O__law_due : FnOk P w K mg base CX0 k Z.f__law_due Z.fd__law_due [("_law_order_here" : Str)] (spA K 1 g__law_due)) {g__law_follows : FA} (O__law_follows : FnOk P w K mg base CX0 k Z.f__law_follows Z.fd__law_follows [("_law_word" : Str), ("_law_some" : Str)] (spA K 2 g__law_follows)) : ∀ (cdv : Value) (A : Around) (outer : List Env) (s : Shared) (H : Hp) (E : XK), Room k (A.deeper (envOfC "_law_right" (defScope s__law_right) s.heap.objs.size Z.f__law_right cdv)) → ∃ t, PPSs (cxOf CX0 P w K mg base NN__law_right "_law_right" (defScope s__law_right) Z.f__law_right cdv A outer s H E).nox (defBody s__law_right) t (T__law_right g_corners g__law_take g__law_same g__law_order g__law_has g__law_due g__law_follows) :=
  fun cdv A outer s H E hr => ⟨_, (ppss_cons (pps_set (i := 1) sc__law_right.nd (ppc_callB 0 O__law_order hr (by rfl) Z.m__law_order Z.F__law_order.kp Z.b__law_order (ppa_cons (ppe_frz (ppc_callB 0 O__law_take hr (by rfl) Z.m__law_take Z.F__law_take.kp Z.b__law_take (ppa_cons ppe_int ppa_nil))) (ppa_cons (ppe_frz (ppc_callB 0 O__law_take hr (by rfl) Z.m__law_take Z.F__law_take.kp Z.b__law_take (ppa_cons ppe_int ppa_nil))) ppa_nil))))
    (ppss_cons (pps_par (i := 2) (j := 3) rfl sc__law_right.nd (ppa_cons (ppe_frz (ppc_callA O__law_due hr (by rfl) Z.m__law_due Z.F__law_due.kp Z.b__law_due (ppa_cons (ppe_var 1) ppa_nil))) (ppa_cons (ppe_tup (ppa_cons (ppe_count (ppe_var 1) ppe_str) (ppa_cons (ppe_count (ppe_var 1) ppe_str) ppa_nil))) ppa_nil)))
    (ppss_cons (pps_for PassesOwn.never rfl (ppi_range1 (by rfl) Z.z_range (ppa_cons ppe_int ppa_nil)) (ptg_name (i := 4) sc__law_right.nd)
    (ppss_cons (pps_set (i := 5) sc__law_right.nd (ppc_callA O_corners hr (by rfl) Z.m_corners Z.F_corners.kp Z.b_corners (ppa_cons (ppe_var 1) ppa_nil)))
    (ppss_cons (pps_if (ppt_not (ppt_val (ppe_peek (ppe_frz (ppc_callA O__law_same hr (by rfl) Z.m__law_same Z.F__law_same.kp Z.b__law_same (ppa_cons (ppe_lst (ppa_cons (ppe_var 5) (ppa_cons (ppe_frz (ppc_callA O_corners hr (by rfl) Z.m_corners Z.F_corners.kp Z.b_corners (ppa_cons (ppe_var 1) ppa_nil))) ppa_nil))) (ppa_cons (ppe_lst (ppa_cons (ppe_var 2) (ppa_cons (ppe_var 2) ppa_nil))) ppa_nil)))))))
    (ppss_one (pps_ret (ppc_val ppe_bl)))
    ppss_nil)
    (ppss_cons (pps_reverse 5)
    (ppss_one (pps_append 5 ppe_str))))))
    (ppss_cons (pps_if (ppt_not (ppt_val (ppe_callB (cr_all rfl) cp_all (by rfl) Z.z_all (by decide +kernel) (ppa_cons (ppe_lcL (own := [("_law_word", 6)]) rfl sc__law_right.nd (ppi_seq (ppe_var 2)) (blkOk_by (N := NN__law_right) (sc := defScope s__law_right) (by decide +kernel)) (fun _ _ _ _ _ => ((ptg_name (i := 6) sc__law_right.nd)).lift) (fun _ _ _ _ _ => (ppts_nil).lift) (fun _ _ _ _ _ => ((ppe_frz (ppc_callA O__law_has hr (by rfl) Z.m__law_has Z.F__law_has.kp Z.b__law_has (ppa_cons (ppe_var 1) (ppa_cons (ppe_var 6) ppa_nil))))).lift)) ppa_nil))))
    (ppss_one (pps_ret (ppc_val ppe_bl)))
    ppss_nil)
    (ppss_cons (pps_for PassesOwn.never rfl (ppi_range1 (by rfl) Z.z_range (ppa_cons (ppe_ixO 3 ppe_int) ppa_nil)) (ptg_name (i := 7) sc__law_right.nd)
    (ppss_one (pps_for PassesOwn.never rfl (ppi_range1 (by rfl) Z.z_range (ppa_cons (ppe_ixO 3 ppe_int) ppa_nil)) (ptg_name (i := 8) sc__law_right.nd)
    (ppss_cons (pps_set (i := 6) sc__law_right.nd (ppc_val (ppe_tup (ppa_cons (ppe_ix (ppe_lst (ppa_cons ppe_str (ppa_cons ppe_str ppa_nil))) (ppe_callTy call_int1 cp_int1 (by rfl) Z.z_int (by decide +kernel) (ppa_cons (ppe_frz (ppc_callA O__law_has hr (by rfl) Z.m__law_has Z.F__law_has.kp Z.b__law_has (ppa_cons (ppe_var 1) (ppa_cons (ppe_tup (ppa_cons ppe_str (ppa_cons (ppe_var 7) (ppa_cons (ppe_var 8) ppa_nil)))) ppa_nil)))) ppa_nil))) (ppa_cons (ppe_var 7) (ppa_cons (ppe_var 8) ppa_nil))))))
    (ppss_one (pps_if (ppt_not (ppt_val (ppe_frz (ppc_callA O__law_follows hr (by rfl) Z.m__law_follows Z.F__law_follows.kp Z.b__law_follows (ppa_cons (ppe_var 6) (ppa_cons (ppe_var 2) ppa_nil))))))
    (ppss_one (pps_ret (ppc_val ppe_bl)))
    ppss_nil))))))
    (ppss_one (pps_ret (ppc_val ppe_bl))))))))⟩
set_option maxHeartbeats 4000000 in
theorem bd_law {k : Nat} {g__law_box : FA} (O__law_box : FnOk P w K mg base CX0 k Z.f__law_box Z.fd__law_box [("_law_script" : Str), ("_law_k" : Str)] (spA K 2 g__law_box)) {g__law_right : FB} (O__law_right : FnOk P w K mg base CX0 k Z.f__law_right Z.fd__law_right [("_law_box_here" : Str)] (spB K 1 g__law_right)) : ∀ (cdv : Value) (A : Around) (outer : List Env) (s : Shared) (H : Hp) (E : XK), Room k (A.deeper (envOfC "law" (defScope s_law) s.heap.objs.size Z.f_law cdv)) → ∃ t, PPSs (cxOf CX0 P w K mg base NN_law "law" (defScope s_law) Z.f_law cdv A outer s H E).nox (defBody s_law) t (T_law g__law_box g__law_right) :=
  fun cdv A outer s H E hr => ⟨_, (ppss_one (pps_ret (ppc_val (ppe_callB (cr_all rfl) cp_all (by rfl) Z.z_all (by decide +kernel) (ppa_cons (ppe_lcL (own := [("_law_k", 1)]) rfl sc_law.nd (ppi_range1 (by rfl) Z.z_range (ppa_cons (ppe_add ppe_int (ppe_callB (call_min2 rfl) cp_min2 (by rfl) Z.z_min (by decide +kernel) (ppa_cons ppe_int (ppa_cons (ppe_lenO 0 (by rfl) Z.z_len) ppa_nil)))) ppa_nil)) (blkOk_by (N := NN_law) (sc := defScope s_law) (by decide +kernel)) (fun _ _ _ _ _ => ((ptg_name (i := 1) sc_law.nd)).lift) (fun _ _ _ _ _ => (ppts_nil).lift) (fun _ _ _ _ _ => ((ppe_frz (ppc_callX O__law_right hr (by rfl) Z.m__law_right Z.F__law_right.kp Z.b__law_right (ppc_callA O__law_box hr (by rfl) Z.m__law_box Z.F__law_box.kp Z.b__law_box (ppa_cons (ppe_var 0) (ppa_cons (ppe_var 1) ppa_nil))) ppa_nil))).lift)) ppa_nil)))))⟩
end
section
variable {P : Program} {w : World} {K : PySem.W.Frag} {mg : Str → Option Value} {base : Heap} (Z : Tx K mg)
include Z
theorem ok_corner_stops : FnOk P w K mg base CX0 1 Z.f_corner_stops Z.fd_corner_stops ["order"] (spA K 1 g_corner_stops) := okA Z.F_corner_stops sc_corner_stops (bd_corner_stops Z (k := 0) ) rd_corner_stops
theorem ok_corner_at : FnOk P w K mg base CX0 1 Z.f_corner_at Z.fd_corner_at ["order", "stop"] (spA K 2 g_corner_at) := okA Z.F_corner_at sc_corner_at (bd_corner_at Z (k := 0) ) rd_corner_at
theorem ok_corners : FnOk P w K mg base CX0 2 Z.f_corners Z.fd_corners ["order"] (spA K 1 g_corners) := okA Z.F_corners sc_corners (bd_corners Z (k := 1) ((ok_corner_stops Z).mono (by decide)) ((ok_corner_at Z).mono (by decide))) rd_corners
theorem ok__law_cell_at : FnOk P w K mg base CX0 1 Z.f__law_cell_at Z.fd__law_cell_at ["_law_script", "_law_k"] (spA K 2 g__law_cell_at) := okA Z.F__law_cell_at sc__law_cell_at (bd__law_cell_at Z (k := 0) ) rd__law_cell_at
theorem ok__law_box : FnOk P w K mg base CX0 2 Z.f__law_box Z.fd__law_box ["_law_script", "_law_k"] (spA K 2 g__law_box) := okA Z.F__law_box sc__law_box (bd__law_box Z (k := 1) ((ok__law_cell_at Z).mono (by decide))) rd__law_box
theorem ok__law_take_0 : FnOk P w K mg base CX0 1 Z.f__law_take Z.fd__law_take ["_law_box_here", "_law_size"] (spB K 2 g_take0) := okB Z.F__law_take sc__law_take (bd__law_take Z (k := 0) (fnNoneB Z.F__law_take)) rd_take0
theorem ok__law_take : FnOk P w K mg base CX0 2 Z.f__law_take Z.fd__law_take ["_law_box_here", "_law_size"] (spB K 2 (g_take 100000000000000)) := okB Z.F__law_take sc__law_take (bd__law_take Z (k := 1) ((ok__law_take_0 Z).mono (by decide))) rd_take
theorem ok__law_same_0 : FnOk P w K mg base CX0 1 Z.f__law_same Z.fd__law_same ["_law_told", "_law_due_here"] (spA K 2 (gS 1)) := okA Z.F__law_same sc__law_same (bd__law_same Z (k := 0) (fnNoneA Z.F__law_same)) (rd_same 0)
theorem ok__law_same_1 : FnOk P w K mg base CX0 2 Z.f__law_same Z.fd__law_same ["_law_told", "_law_due_here"] (spA K 2 (gS 2)) := okA Z.F__law_same sc__law_same (bd__law_same Z (k := 1) ((ok__law_same_0 Z).mono (by decide))) (rd_same 1)
theorem ok__law_same_2 : FnOk P w K mg base CX0 3 Z.f__law_same Z.fd__law_same ["_law_told", "_law_due_here"] (spA K 2 (gS 3)) := okA Z.F__law_same sc__law_same (bd__law_same Z (k := 2) ((ok__law_same_1 Z).mono (by decide))) (rd_same 2)
theorem ok__law_same : FnOk P w K mg base CX0 4 Z.f__law_same Z.fd__law_same ["_law_told", "_law_due_here"] (spA K 2 (gS 4)) := okA Z.F__law_same sc__law_same (bd__law_same Z (k := 3) ((ok__law_same_2 Z).mono (by decide))) (rd_same 3)
theorem ok__law_order : FnOk P w K mg base CX0 3 Z.f__law_order Z.fd__law_order ["_law_box_here", "_law_cuts", "_law_fills"] (spB K 3 g__law_order) := okB Z.F__law_order sc__law_order (bd__law_order Z (k := 2) ((ok__law_take Z).mono (by decide))) rd__law_order
theorem ok__law_has : FnOk P w K mg base CX0 1 Z.f__law_has Z.fd__law_has ["_law_order_here", "_law_word"] (spA K 2 g__law_has) := okA Z.F__law_has sc__law_has (bd__law_has Z (k := 0) ) rd__law_has
theorem ok__law_due : FnOk P w K mg base CX0 1 Z.f__law_due Z.fd__law_due ["_law_order_here"] (spA K 1 g__law_due) := okA Z.F__law_due sc__law_due (bd__law_due Z (k := 0) ) rd__law_due
theorem ok__law_follows : FnOk P w K mg base CX0 1 Z.f__law_follows Z.fd__law_follows ["_law_word", "_law_some"] (spA K 2 g__law_follows) := okA Z.F__law_follows sc__law_follows (bd__law_follows Z (k := 0) ) rd__law_follows
theorem ok__law_right : FnOk P w K mg base CX0 5 Z.f__law_right Z.fd__law_right ["_law_box_here"] (spB K 1 g__law_right) := okB Z.F__law_right sc__law_right (bd__law_right Z (k := 4) ((ok_corners Z).mono (by decide)) ((ok__law_take Z).mono (by decide)) ((ok__law_same Z).mono (by decide)) ((ok__law_order Z).mono (by decide)) ((ok__law_has Z).mono (by decide)) ((ok__law_due Z).mono (by decide)) ((ok__law_follows Z).mono (by decide))) rd__law_right
theorem ok_law : FnOk P w K mg base CX0 6 Z.f_law Z.fd_law ["_law_script"] (spA K 1 g_law) := okA Z.F_law sc_law (bd_law Z (k := 5) ((ok__law_box Z).mono (by decide)) ((ok__law_right Z).mono (by decide))) rd_law
end
set_option maxHeartbeats 4000000 in
theorem all_mk {l : PySem.W.OpenLaw} {w : World} {K : PySem.W.Frag} {h : Heap} {mg : Str → Option Value} {fa : Addr} (X : K.In h) (G : h.Ns mainGlobals mg) (hfa : mg "law" = some (.ref fa)) {f0 : Addr} {od0 an0 : Option Addr} {sl0 : Array (Option Value)} {oc0 kV0 dc0 pm0 cd0 ct0 : Value} {f1 : Addr} {od1 an1 : Option Addr} {sl1 : Array (Option Value)} {oc1 kV1 dc1 pm1 cd1 ct1 : Value} {f2 : Addr} {od2 an2 : Option Addr} {sl2 : Array (Option Value)} {oc2 kV2 dc2 pm2 cd2 ct2 : Value} {f3 : Addr} {od3 an3 : Option Addr} {sl3 : Array (Option Value)} {oc3 kV3 dc3 pm3 cd3 ct3 : Value} {f4 : Addr} {od4 an4 : Option Addr} {sl4 : Array (Option Value)} {oc4 kV4 dc4 pm4 cd4 ct4 : Value} {f5 : Addr} {od5 an5 : Option Addr} {sl5 : Array (Option Value)} {oc5 kV5 dc5 pm5 cd5 ct5 : Value} {f6 : Addr} {od6 an6 : Option Addr} {sl6 : Array (Option Value)} {oc6 kV6 dc6 pm6 cd6 ct6 : Value} {f7 : Addr} {od7 an7 : Option Addr} {sl7 : Array (Option Value)} {oc7 kV7 dc7 pm7 cd7 ct7 : Value} {f8 : Addr} {od8 an8 : Option Addr} {sl8 : Array (Option Value)} {oc8 kV8 dc8 pm8 cd8 ct8 : Value} {f9 : Addr} {od9 an9 : Option Addr} {sl9 : Array (Option Value)} {oc9 kV9 dc9 pm9 cd9 ct9 : Value} {f10 : Addr} {od10 an10 : Option Addr} {sl10 : Array (Option Value)} {oc10 kV10 dc10 pm10 cd10 ct10 : Value} {f11 : Addr} {od11 an11 : Option Addr} {sl11 : Array (Option Value)} {oc11 kV11 dc11 pm11 cd11 ct11 : Value} {f12 : Addr} {od12 an12 : Option Addr} {sl12 : Array (Option Value)} {oc12 kV12 dc12 pm12 cd12 ct12 : Value}
    (a0 : PySem.W.nsIn K mainGlobals "corner_stops" = some (some (.ref f0))) (l0 : K.lookup f0 = some ⟨oc0, od0, .func (PySem.W.fnOf "corner_stops" "corner_stops" (defArgs s_corner_stops) (defBody s_corner_stops) (defScope s_corner_stops) .none kV0 dc0 pm0 an0 cd0 ct0), sl0⟩) (c0 : PySem.W.codeIn K cd0 "corner_stops" = true) (k0 : PySem.W.keepIn K (.ref f0) = true)
    (a1 : PySem.W.nsIn K mainGlobals "corner_at" = some (some (.ref f1))) (l1 : K.lookup f1 = some ⟨oc1, od1, .func (PySem.W.fnOf "corner_at" "corner_at" (defArgs s_corner_at) (defBody s_corner_at) (defScope s_corner_at) .none kV1 dc1 pm1 an1 cd1 ct1), sl1⟩) (c1 : PySem.W.codeIn K cd1 "corner_at" = true) (k1 : PySem.W.keepIn K (.ref f1) = true)
    (a2 : PySem.W.nsIn K mainGlobals "corners" = some (some (.ref f2))) (l2 : K.lookup f2 = some ⟨oc2, od2, .func (PySem.W.fnOf "corners" "corners" (defArgs s_corners) (defBody s_corners) (defScope s_corners) .none kV2 dc2 pm2 an2 cd2 ct2), sl2⟩) (c2 : PySem.W.codeIn K cd2 "corners" = true) (k2 : PySem.W.keepIn K (.ref f2) = true)
    (a3 : PySem.W.nsIn K mainGlobals "_law_cell_at" = some (some (.ref f3))) (l3 : K.lookup f3 = some ⟨oc3, od3, .func (PySem.W.fnOf "_law_cell_at" "_law_cell_at" (defArgs s__law_cell_at) (defBody s__law_cell_at) (defScope s__law_cell_at) .none kV3 dc3 pm3 an3 cd3 ct3), sl3⟩) (c3 : PySem.W.codeIn K cd3 "_law_cell_at" = true) (k3 : PySem.W.keepIn K (.ref f3) = true)
    (a4 : PySem.W.nsIn K mainGlobals "_law_box" = some (some (.ref f4))) (l4 : K.lookup f4 = some ⟨oc4, od4, .func (PySem.W.fnOf "_law_box" "_law_box" (defArgs s__law_box) (defBody s__law_box) (defScope s__law_box) .none kV4 dc4 pm4 an4 cd4 ct4), sl4⟩) (c4 : PySem.W.codeIn K cd4 "_law_box" = true) (k4 : PySem.W.keepIn K (.ref f4) = true)
    (a5 : PySem.W.nsIn K mainGlobals "_law_take" = some (some (.ref f5))) (l5 : K.lookup f5 = some ⟨oc5, od5, .func (PySem.W.fnOf "_law_take" "_law_take" (defArgs s__law_take) (defBody s__law_take) (defScope s__law_take) .none kV5 dc5 pm5 an5 cd5 ct5), sl5⟩) (c5 : PySem.W.codeIn K cd5 "_law_take" = true) (k5 : PySem.W.keepIn K (.ref f5) = true)
    (a6 : PySem.W.nsIn K mainGlobals "_law_same" = some (some (.ref f6))) (l6 : K.lookup f6 = some ⟨oc6, od6, .func (PySem.W.fnOf "_law_same" "_law_same" (defArgs s__law_same) (defBody s__law_same) (defScope s__law_same) .none kV6 dc6 pm6 an6 cd6 ct6), sl6⟩) (c6 : PySem.W.codeIn K cd6 "_law_same" = true) (k6 : PySem.W.keepIn K (.ref f6) = true)
    (a7 : PySem.W.nsIn K mainGlobals "_law_order" = some (some (.ref f7))) (l7 : K.lookup f7 = some ⟨oc7, od7, .func (PySem.W.fnOf "_law_order" "_law_order" (defArgs s__law_order) (defBody s__law_order) (defScope s__law_order) .none kV7 dc7 pm7 an7 cd7 ct7), sl7⟩) (c7 : PySem.W.codeIn K cd7 "_law_order" = true) (k7 : PySem.W.keepIn K (.ref f7) = true)
    (a8 : PySem.W.nsIn K mainGlobals "_law_has" = some (some (.ref f8))) (l8 : K.lookup f8 = some ⟨oc8, od8, .func (PySem.W.fnOf "_law_has" "_law_has" (defArgs s__law_has) (defBody s__law_has) (defScope s__law_has) .none kV8 dc8 pm8 an8 cd8 ct8), sl8⟩) (c8 : PySem.W.codeIn K cd8 "_law_has" = true) (k8 : PySem.W.keepIn K (.ref f8) = true)
    (a9 : PySem.W.nsIn K mainGlobals "_law_due" = some (some (.ref f9))) (l9 : K.lookup f9 = some ⟨oc9, od9, .func (PySem.W.fnOf "_law_due" "_law_due" (defArgs s__law_due) (defBody s__law_due) (defScope s__law_due) .none kV9 dc9 pm9 an9 cd9 ct9), sl9⟩) (c9 : PySem.W.codeIn K cd9 "_law_due" = true) (k9 : PySem.W.keepIn K (.ref f9) = true)
    (a10 : PySem.W.nsIn K mainGlobals "_law_follows" = some (some (.ref f10))) (l10 : K.lookup f10 = some ⟨oc10, od10, .func (PySem.W.fnOf "_law_follows" "_law_follows" (defArgs s__law_follows) (defBody s__law_follows) (defScope s__law_follows) .none kV10 dc10 pm10 an10 cd10 ct10), sl10⟩) (c10 : PySem.W.codeIn K cd10 "_law_follows" = true) (k10 : PySem.W.keepIn K (.ref f10) = true)
    (a11 : PySem.W.nsIn K mainGlobals "_law_right" = some (some (.ref f11))) (l11 : K.lookup f11 = some ⟨oc11, od11, .func (PySem.W.fnOf "_law_right" "_law_right" (defArgs s__law_right) (defBody s__law_right) (defScope s__law_right) .none kV11 dc11 pm11 an11 cd11 ct11), sl11⟩) (c11 : PySem.W.codeIn K cd11 "_law_right" = true) (k11 : PySem.W.keepIn K (.ref f11) = true)
    (a12 : PySem.W.nsIn K mainGlobals "law" = some (some (.ref f12))) (l12 : K.lookup f12 = some ⟨oc12, od12, .func (PySem.W.fnOf "law" "law" (defArgs s_law) (defBody s_law) (defScope s_law) .none kV12 dc12 pm12 an12 cd12 ct12), sl12⟩) (c12 : PySem.W.codeIn K cd12 "law" = true) (k12 : PySem.W.keepIn K (.ref f12) = true)
    (z0 : PySem.W.nsIn K mainGlobals "abs" = some none)
    (z1 : PySem.W.nsIn K mainGlobals "all" = some none)
    (z2 : PySem.W.nsIn K mainGlobals "bool" = some none)
    (z3 : PySem.W.nsIn K mainGlobals "enumerate" = some none)
    (z4 : PySem.W.nsIn K mainGlobals "int" = some none)
    (z5 : PySem.W.nsIn K mainGlobals "isinstance" = some none)
    (z6 : PySem.W.nsIn K mainGlobals "len" = some none)
    (z7 : PySem.W.nsIn K mainGlobals "list" = some none)
    (z8 : PySem.W.nsIn K mainGlobals "min" = some none)
    (z9 : PySem.W.nsIn K mainGlobals "range" = some none)
    (z10 : PySem.W.nsIn K mainGlobals "str" = some none)
    (z11 : PySem.W.nsIn K mainGlobals "tuple" = some none)
    (z12 : PySem.W.nsIn K mainGlobals "zip" = some none) :
    ∃ fd : FuncData, (∀ (s : Shared) (v : Value), BindsTo s fd ⟨[v], []⟩ [("_law_script", v)]) ∧ ∀ base : Heap, K.In base → base.Ns mainGlobals mg → FnOk l.prog w K mg base CX0 6 fa fd ["_law_script"] (spA K 1 g_law) := by
  have e := hfa.symm.trans (PySem.W.mg_of X G a12)
  cases e
  exact ⟨PySem.W.fnOf "law" "law" (defArgs s_law) (defBody s_law) (defScope s_law) .none kV12 dc12 pm12 an12 cd12 ct12, fun s v => .of_eq rfl, fun base _ _ => ok_law { f_corner_stops := _, fd_corner_stops := _, F_corner_stops := fun_mk (st := s_corner_stops) l0 c0 k0, m_corner_stops := PySem.W.mg_of X G a0, b_corner_stops := (fun_mk (st := s_corner_stops) l0 c0 k0).binds (ps := ["order"]) (fun _ _ _ _ _ _ us hl => match us, hl with | [_], _ => rfl), f_corner_at := _, fd_corner_at := _, F_corner_at := fun_mk (st := s_corner_at) l1 c1 k1, m_corner_at := PySem.W.mg_of X G a1, b_corner_at := (fun_mk (st := s_corner_at) l1 c1 k1).binds (ps := ["order", "stop"]) (fun _ _ _ _ _ _ us hl => match us, hl with | [_, _], _ => rfl), f_corners := _, fd_corners := _, F_corners := fun_mk (st := s_corners) l2 c2 k2, m_corners := PySem.W.mg_of X G a2, b_corners := (fun_mk (st := s_corners) l2 c2 k2).binds (ps := ["order"]) (fun _ _ _ _ _ _ us hl => match us, hl with | [_], _ => rfl), f__law_cell_at := _, fd__law_cell_at := _, F__law_cell_at := fun_mk (st := s__law_cell_at) l3 c3 k3, m__law_cell_at := PySem.W.mg_of X G a3, b__law_cell_at := (fun_mk (st := s__law_cell_at) l3 c3 k3).binds (ps := ["_law_script", "_law_k"]) (fun _ _ _ _ _ _ us hl => match us, hl with | [_, _], _ => rfl), f__law_box := _, fd__law_box := _, F__law_box := fun_mk (st := s__law_box) l4 c4 k4, m__law_box := PySem.W.mg_of X G a4, b__law_box := (fun_mk (st := s__law_box) l4 c4 k4).binds (ps := ["_law_script", "_law_k"]) (fun _ _ _ _ _ _ us hl => match us, hl with | [_, _], _ => rfl), f__law_take := _, fd__law_take := _, F__law_take := fun_mk (st := s__law_take) l5 c5 k5, m__law_take := PySem.W.mg_of X G a5, b__law_take := (fun_mk (st := s__law_take) l5 c5 k5).binds (ps := ["_law_box_here", "_law_size"]) (fun _ _ _ _ _ _ us hl => match us, hl with | [_, _], _ => rfl), f__law_same := _, fd__law_same := _, F__law_same := fun_mk (st := s__law_same) l6 c6 k6, m__law_same := PySem.W.mg_of X G a6, b__law_same := (fun_mk (st := s__law_same) l6 c6 k6).binds (ps := ["_law_told", "_law_due_here"]) (fun _ _ _ _ _ _ us hl => match us, hl with | [_, _], _ => rfl), f__law_order := _, fd__law_order := _, F__law_order := fun_mk (st := s__law_order) l7 c7 k7, m__law_order := PySem.W.mg_of X G a7, b__law_order := (fun_mk (st := s__law_order) l7 c7 k7).binds (ps := ["_law_box_here", "_law_cuts", "_law_fills"]) (fun _ _ _ _ _ _ us hl => match us, hl with | [_, _, _], _ => rfl), f__law_has := _, fd__law_has := _, F__law_has := fun_mk (st := s__law_has) l8 c8 k8, m__law_has := PySem.W.mg_of X G a8, b__law_has := (fun_mk (st := s__law_has) l8 c8 k8).binds (ps := ["_law_order_here", "_law_word"]) (fun _ _ _ _ _ _ us hl => match us, hl with | [_, _], _ => rfl), f__law_due := _, fd__law_due := _, F__law_due := fun_mk (st := s__law_due) l9 c9 k9, m__law_due := PySem.W.mg_of X G a9, b__law_due := (fun_mk (st := s__law_due) l9 c9 k9).binds (ps := ["_law_order_here"]) (fun _ _ _ _ _ _ us hl => match us, hl with | [_], _ => rfl), f__law_follows := _, fd__law_follows := _, F__law_follows := fun_mk (st := s__law_follows) l10 c10 k10, m__law_follows := PySem.W.mg_of X G a10, b__law_follows := (fun_mk (st := s__law_follows) l10 c10 k10).binds (ps := ["_law_word", "_law_some"]) (fun _ _ _ _ _ _ us hl => match us, hl with | [_, _], _ => rfl), f__law_right := _, fd__law_right := _, F__law_right := fun_mk (st := s__law_right) l11 c11 k11, m__law_right := PySem.W.mg_of X G a11, b__law_right := (fun_mk (st := s__law_right) l11 c11 k11).binds (ps := ["_law_box_here"]) (fun _ _ _ _ _ _ us hl => match us, hl with | [_], _ => rfl), f_law := _, fd_law := _, F_law := fun_mk (st := s_law) l12 c12 k12, m_law := PySem.W.mg_of X G a12, b_law := (fun_mk (st := s_law) l12 c12 k12).binds (ps := ["_law_script"]) (fun _ _ _ _ _ _ us hl => match us, hl with | [_], _ => rfl), z_abs := PySem.W.mg_none_of X G z0, z_all := PySem.W.mg_none_of X G z1, z_bool := PySem.W.mg_none_of X G z2, z_enumerate := PySem.W.mg_none_of X G z3, z_int := PySem.W.mg_none_of X G z4, z_isinstance := PySem.W.mg_none_of X G z5, z_len := PySem.W.mg_none_of X G z6, z_list := PySem.W.mg_none_of X G z7, z_min := PySem.W.mg_none_of X G z8, z_range := PySem.W.mg_none_of X G z9, z_str := PySem.W.mg_none_of X G z10, z_tuple := PySem.W.mg_none_of X G z11, z_zip := PySem.W.mg_none_of X G z12 }⟩
theorem law_sp (K : PySem.W.Frag) (H : Hp) (a : Addr) (ns : List Int) (hl : ns.length ≤ 63) (_ : Only H) (hS : SqL K H a (ns.map V.int)) : spA K 1 g_law [.ref a] H (fun v _ => v = .bl true) fun _ _ _ => False := by
  refine ⟨H, [.scr ns], fun c => c = .val (.bl true), rfl, .refl H, .cons (.scr hS) .nil, ⟨ns, rfl, hl, rfl⟩, fun v c F' H' u S e => ?_⟩
  subst e
  obtain ⟨v', h1, h2⟩ := S.val 0 (.bl true) rfl
  cases h1
  exact h2.blInv
end Pl
open PySem PySem.W PyProof.Rows
set_option maxHeartbeats 0 in
theorem PySem.Challenge.cw_dunebooks_k42_corners_of_orders_holds : PySem.Challenge.rw_dunebooks_k42_corners_of_orders.Holds := by
  w_on; o_law; k_head; (case hw => w_witness2)
  k_fill
  refine L2.walk_ofK (l := PySem.Challenge.rw_dunebooks_k42_corners_of_orders) (n := 63) (k := 6) (x := "_law_script") (CX := L2.CX0) (sp := fun K => Pl.spA K 1 Pl.g_law) rfl (by decide) rfl ⟨rfl, by decide, by decide⟩ (fun w h Y => PySem.W.kIn_of Y) ?F Pl.law_sp (fun _ _ _ _ h => h)
  case F =>
    intro w mg fa h KX G hmg
    refine' Pl.all_mk KX G hmg ?a0 ?l0 ?c0 ?k0 ?a1 ?l1 ?c1 ?k1 ?a2 ?l2 ?c2 ?k2 ?a3 ?l3 ?c3 ?k3 ?a4 ?l4 ?c4 ?k4 ?a5 ?l5 ?c5 ?k5 ?a6 ?l6 ?c6 ?k6 ?a7 ?l7 ?c7 ?k7 ?a8 ?l8 ?c8 ?k8 ?a9 ?l9 ?c9 ?k9 ?a10 ?l10 ?c10 ?k10 ?a11 ?l11 ?c11 ?k11 ?a12 ?l12 ?c12 ?k12 ?z0 ?z1 ?z2 ?z3 ?z4 ?z5 ?z6 ?z7 ?z8 ?z9 ?z10 ?z11 ?z12
    (case a0 => k_is); (case l0 => k_is); (case c0 => k_is); (case k0 => k_is); (case a1 => k_is); (case l1 => k_is); (case c1 => k_is); (case k1 => k_is); (case a2 => k_is); (case l2 => k_is); (case c2 => k_is); (case k2 => k_is); (case a3 => k_is); (case l3 => k_is); (case c3 => k_is); (case k3 => k_is); (case a4 => k_is); (case l4 => k_is); (case c4 => k_is); (case k4 => k_is); (case a5 => k_is); (case l5 => k_is); (case c5 => k_is); (case k5 => k_is); (case a6 => k_is); (case l6 => k_is); (case c6 => k_is); (case k6 => k_is); (case a7 => k_is); (case l7 => k_is); (case c7 => k_is); (case k7 => k_is); (case a8 => k_is); (case l8 => k_is); (case c8 => k_is); (case k8 => k_is); (case a9 => k_is); (case l9 => k_is); (case c9 => k_is); (case k9 => k_is); (case a10 => k_is); (case l10 => k_is); (case c10 => k_is); (case k10 => k_is); (case a11 => k_is); (case l11 => k_is); (case c11 => k_is); (case k11 => k_is); (case a12 => k_is); (case l12 => k_is); (case c12 => k_is); (case k12 => k_is); (case z0 => k_is); (case z1 => k_is); (case z2 => k_is); (case z3 => k_is); (case z4 => k_is); (case z5 => k_is); (case z6 => k_is); (case z7 => k_is); (case z8 => k_is); (case z9 => k_is); (case z10 => k_is); (case z11 => k_is); (case z12 => k_is)
