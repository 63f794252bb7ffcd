import PyProof.Rows.All
import Wide.All
import OpenK.AllK
import Wide.FinOn
import HandS.ForMost
import HandS.ForExc
import HandS.Zip
import HandS.IsInst
import HandS.Wide
import HandS.Flow
import HandS.More
import HandS.Deep
import HandS.TupAny
import HandS.Conv
import HandS.Style
import HandS.Strs
import KE.GoesMore
import KE.KDictZip
import KE.KDictSum
import HandS.SortOrd
import KE.GoesEnum
import KE.KRevSl
import HandS.Ends
import HandS.Steps
import HandS.CallLocal
import HandS.DictComp
import HandS.Walk
import HandS.Rev
import PyProof.CollectStr
import PyProof.AutoSeq1
import HandS.SortKw
import PyProof.WalkInts
import PyProof.MinMaxWalk
import HandS.SortRule
import PyProof.SumWalk
import PyProof.DictWalks
import PyProof.Draws
import PyProof.EnumMake
import PyProof.EnumFor
import KE.LtSeq
import PySem.Challenge.RW_twonames_k42_all_alone_of_all_parts
set_option Elab.async false
set_option linter.all false
set_option maxRecDepth 100000
set_option maxHeartbeats 1000000
set_option autoImplicit false
namespace TN
open PySem PySem.Spec PyProof.Rows L2
abbrev D := PyData



def TupX (K : PySem.W.Frag) (H : Hp) (a : Addr) (xs : List V) : Prop := (∃ o : Obj, H a = some (.frz o (.tup xs)) ∧ o.dict = none) ∨
  ∃ (o : Obj) (its : Array Value) (n : Nat), K.lookup a = some o ∧ o.cls = .type "tuple" ∧ o.dict = none ∧ o.data = .seq its n ∧ its.size ≤ sizeLine ∧ Vals xs its.toList
theorem TupX.sq {K : PySem.W.Frag} {H : Hp} {a : Addr} {xs : List V} (h : TupX K H a xs) : SqT K H a xs := by
  rcases h with ⟨o, h, _⟩ | ⟨o, its, n, h1, h2, _, h3, h4, h5⟩
  · exact .inl (.inr ⟨o, h⟩)
  · exact .inr ⟨o, its, n, h1, h2, h3, h4, h5⟩
theorem tupS {K : PySem.W.Frag} {G G' : Hp} {a : Addr} {xs : List V} (e : Same G G') (h : TupX K G a xs) : TupX K G' a xs := by
  rcases h with ⟨o, h, d⟩ | h
  · exact .inl ⟨o, e _ _ h, d⟩
  · exact .inr h
def keyD : Key → D
  | .inl i => .int i
  | .inr x => .str x
mutual

inductive Dq (K : PySem.W.Frag) (H : Hp) : V → D → Prop
  | non : Dq K H .non .none
  | bl (b : Bool) : Dq K H (.bl b) (.bool b)
  | int (i : Int) : Dq K H (.int i) (.int i)
  | str (x : Str) : Dq K H (.str x) (.str x)
  | lst {a : Addr} {xs : List V} {ds : List D} : SqL K H a xs → DqAll K H xs ds → Dq K H (.ref a) (.list ds)
  | tup {a : Addr} {xs : List V} {ds : List D} : TupX K H a xs → DqAll K H xs ds → Dq K H (.ref a) (.tuple ds)
  | dct {a : Addr} {u : Obj} {ks : List (Key × V)} {kvs : List (D × D)} : H a = some (.frz u (.dK ks)) → DqKs K H ks kvs → Dq K H (.ref a) (.dict kvs)
inductive DqAll (K : PySem.W.Frag) (H : Hp) : List V → List D → Prop
  | nil : DqAll K H [] []
  | cons {v : V} {vs : List V} {d : D} {ds : List D} : Dq K H v d → DqAll K H vs ds → DqAll K H (v :: vs) (d :: ds)
inductive DqKs (K : PySem.W.Frag) (H : Hp) : List (Key × V) → List (D × D) → Prop
  | nil : DqKs K H [] []
  | cons {k : Key} {v : V} {vs : List (Key × V)} {d : D} {ds : List (D × D)} : Dq K H v d → DqKs K H vs ds → DqKs K H ((k, v) :: vs) ((keyD k, d) :: ds)
end
mutual
theorem Dq.dp {K : PySem.W.Frag} {H : Hp} : ∀ {d : D} {v : V}, Dq K H v d → d.hasDict = false → Dp K H v d
  | .none, _, h, _ => by cases h; exact .non
  | .bool _, _, h, _ => by cases h; exact .bl _
  | .int _, _, h, _ => by cases h; exact .int _
  | .str _, _, h, _ => by cases h; exact .str _
  | .list ds, _, h, n => by
    cases h with
    | lst s a => exact .lst s (DqAll.dp a (by simpa only [PyData.hasDict] using n))
  | .tuple ds, _, h, n => by
    cases h with
    | tup s a => exact .tup s.sq (DqAll.dp a (by simpa only [PyData.hasDict] using n))
  | .dict _, _, h, n => by simp only [PyData.hasDict] at n; cases n
theorem DqAll.dp {K : PySem.W.Frag} {H : Hp} : ∀ {ds : List D} {vs : List V}, DqAll K H vs ds → PyData.hasDictAll ds = false → DpAll K H vs ds
  | [], _, h, _ => by cases h; exact .nil
  | d :: ds, _, h, n => by
    have n : (d.hasDict || PyData.hasDictAll ds) = false := by simpa only [PyData.hasDictAll] using n
    rw [Bool.or_eq_false_iff] at n
    cases h with
    | cons a b => exact .cons (Dq.dp a n.1) (DqAll.dp b n.2)
end
theorem noDict_shaped {d : D} (h : SeqAt.shaped d = true) : d.hasDict = false := PyData.hasDict_of_canLay d (SeqAt.canLay_of_shaped h)
theorem rdS {K : PySem.W.Frag} {G G' : Hp} {a : Addr} {xs : List V} (e : Same G G') (h : SqL K G a xs) : SqL K G' a xs := by
  rcases h with (h | ⟨u, h⟩) | h
  · exact .inl (.inl (e _ _ h))
  · exact .inl (.inr ⟨u, e _ _ h⟩)
  · exact .inr h
theorem sqU {K : PySem.W.Frag} {G : Hp} {a : Addr} {xs : List V} (h : G a = some (.lst xs)) : SqL K G a xs := .inl (.inl h)
mutual
theorem dpS {K : PySem.W.Frag} {G G' : Hp} (e : Same G G') : ∀ {d : D} {v : V}, Dq K G v d → Dq K G' v d
  | _, _, .non => .non
  | _, _, .bl _ => .bl _
  | _, _, .int _ => .int _
  | _, _, .str _ => .str _
  | _, _, .lst s a => .lst (rdS e s) (dpsS e a)
  | _, _, .tup s a => .tup (tupS e s) (dpsS e a)
  | _, _, .dct s a => .dct (e _ _ s) (dpkS e a)
theorem dpsS {K : PySem.W.Frag} {G G' : Hp} (e : Same G G') : ∀ {ds : List D} {vs : List V}, DqAll K G vs ds → DqAll K G' vs ds
  | _, _, .nil => .nil
  | _, _, .cons a b => .cons (dpS e a) (dpsS e b)
theorem dpkS {K : PySem.W.Frag} {G G' : Hp} (e : Same G G') : ∀ {ds : List (D × D)} {vs : List (Key × V)}, DqKs K G vs ds → DqKs K G' vs ds
  | _, _, .nil => .nil
  | _, _, .cons a b => .cons (dpS e a) (dpkS e b)
end
theorem dps_len {K : PySem.W.Frag} {G : Hp} : ∀ {ds : List D} {vs : List V}, DqAll K G vs ds → vs.length = ds.length
  | [], _, h => by cases h; rfl
  | d :: ds, _, h => by
    cases h with
    | cons a b => simp [dps_len b]
theorem dps_get {K : PySem.W.Frag} {G : Hp} : ∀ {ds : List D} {vs : List V} {i : Nat} {v : V}, DqAll K G vs ds → vs[i]? = some v → ∃ d, ds[i]? = some d ∧ Dq K G v d
  | [], _, i, v, h, e => by cases h; simp at e
  | d :: ds, _, i, v, h, e => by
    cases h with
    | cons a b =>
      cases i with
      | zero => simp at e; subst e; exact ⟨d, rfl, a⟩
      | succ i => simp at e; obtain ⟨d', h1, h2⟩ := dps_get b e; exact ⟨d', by simpa using h1, h2⟩
theorem dps_of {K : PySem.W.Frag} {G : Hp} : ∀ {ds : List D} {vs : List V} {i : Nat} {d : D}, DqAll K G vs ds → ds[i]? = some d → ∃ v, vs[i]? = some v ∧ Dq K G v d
  | [], _, i, v, h, e => by simp at e
  | d :: ds, _, i, v, h, e => by
    cases h with
    | cons a b =>
      cases i with
      | zero => simp at e; subst e; exact ⟨_, rfl, a⟩
      | succ i => simp at e; obtain ⟨d', h1, h2⟩ := dps_of b e; exact ⟨d', by simpa using h1, h2⟩
theorem dps_app {K : PySem.W.Frag} {G : Hp} : ∀ {ds es : List D} {vs ws : List V}, DqAll K G vs ds → DqAll K G ws es → DqAll K G (vs ++ ws) (ds ++ es)
  | [], _, _, _, h, k => by cases h; exact k
  | d :: ds, _, _, _, h, k => by
    cases h with
    | cons a b => exact .cons a (dps_app b k)
theorem dps_take {K : PySem.W.Frag} {G : Hp} : ∀ {ds : List D} {vs : List V} (n : Nat), DqAll K G vs ds → DqAll K G (vs.take n) (ds.take n)
  | _, _, 0, _ => by simpa using DqAll.nil
  | [], _, n + 1, h => by cases h; exact .nil
  | d :: ds, _, n + 1, h => by
    cases h with
    | cons a b => exact .cons a (dps_take n b)
theorem dps_drop {K : PySem.W.Frag} {G : Hp} : ∀ {ds : List D} {vs : List V} (n : Nat), DqAll K G vs ds → DqAll K G (vs.drop n) (ds.drop n)
  | _, _, 0, h => by simpa using h
  | [], _, n + 1, h => by cases h; exact .nil
  | d :: ds, _, n + 1, h => by
    cases h with
    | cons a b => exact dps_drop n b
theorem dps_rev {K : PySem.W.Frag} {G : Hp} : ∀ {ds : List D} {vs : List V}, DqAll K G vs ds → DqAll K G vs.reverse ds.reverse
  | [], _, h => by cases h; exact .nil
  | d :: ds, _, h => by
    cases h with
    | cons a b =>
      rw [List.reverse_cons, List.reverse_cons]
      exact dps_app (dps_rev b) (.cons a .nil)
theorem dps_set {K : PySem.W.Frag} {G : Hp} {v : V} {d : D} (h : Dq K G v d) : ∀ {ds : List D} {vs : List V} (i : Nat), DqAll K G vs ds → DqAll K G (vs.set i v) (ds.set i d)
  | [], _, i, k => by cases k; simpa using DqAll.nil
  | e :: ds, _, i, k => by
    cases k with
    | cons a b =>
      cases i with
      | zero => exact .cons h b
      | succ i => exact .cons a (dps_set h i b)
theorem same_upd {H : Hp} {p : Addr} {o : HO} (free : H p = none) : Same H (upd H p o) := fun b x e => by
  rw [upd_ne (ne_of_none e free)]; exact e



inductive Pt where
  | sh (d : D)
  | ow (xs : List D)
inductive Sl where
  | no
  | sh (d : D)
  | ow (xs : List D)
  | fn (f : Addr)
  | od (kvs : List (Key × D))
  | lk (a : Addr) (u : Obj) (ks : List (Key × V)) (kvs : List (Key × D))
  | tp (ps : List Pt)


structure C0 where
  H : Hp
  G : Hp
  B : List (Nat × Addr)
  bor : List Nat

inductive KsQ (K : PySem.W.Frag) (G : Hp) : List (Key × V) → List (Key × D) → Prop
  | nil : KsQ K G [] []
  | cons {k : Key} {v : V} {d : D} {ks : List (Key × V)} {kvs : List (Key × D)} : Dq K G v d → KsQ K G ks kvs → KsQ K G ((k, v) :: ks) ((k, d) :: kvs)
theorem ksS {K : PySem.W.Frag} {G G' : Hp} (e : Same G G') : ∀ {ks : List (Key × V)} {kvs : List (Key × D)}, KsQ K G ks kvs → KsQ K G' ks kvs
  | _, _, .nil => .nil
  | _, _, .cons a b => .cons (dpS e a) (ksS e b)
def PtOk (K : PySem.W.Frag) (c : C0) (G H : Hp) (v : V) : Pt → Prop
  | .sh d => Dq K G v d
  | .ow xs => ∃ a vs, v = .ref a ∧ H a = some (.lst vs) ∧ DqAll K G vs xs ∧ G a = none ∧ c.H a = none
def PtsOk (K : PySem.W.Frag) (c : C0) (G H : Hp) (vs : List V) (ps : List Pt) : Prop := vs.length = ps.length ∧ ∀ (k : Nat) (v : V) (p : Pt), vs[k]? = some v → ps[k]? = some p → PtOk K c G H v p
def OwAt (vs : List V) (ps : List Pt) (k : Nat) (b : Addr) : Prop := vs[k]? = some (.ref b) ∧ ∃ xs, ps[k]? = some (.ow xs)
def Apart (vs : List V) (ps : List Pt) : Prop := ∀ j k b, j ≠ k → OwAt vs ps j b → OwAt vs ps k b → False

def SlOk (K : PySem.W.Frag) (c : C0) (G H : Hp) (i : Nat) (o : Option (Option V)) : Sl → Prop
  | .no => True
  | .fn f => o = some (some (.ref f))
  | .sh d => ∃ v, o = some (some v) ∧ Dq K G v d
  | .ow xs => ∃ a vs, o = some (some (.ref a)) ∧ H a = some (.lst vs) ∧ DqAll K G vs xs ∧ G a = none ∧ (c.H a = none ∨ (i, a) ∈ c.B)
  | .od kvs => ∃ a ks, o = some (some (.ref a)) ∧ H a = some (.dK ks) ∧ KsQ K G ks kvs ∧ G a = none ∧ c.H a = none
  | .lk a u ks kvs => o = some (some (.ref a)) ∧ H a = some (.frz u (.dK ks)) ∧ KsQ K G ks kvs ∧ G a = none ∧ c.H a = none
  | .tp ps => ∃ a u vs, o = some (some (.ref a)) ∧ G a = some (.frz u (.tup vs)) ∧ u.dict = none ∧ PtsOk K c G H vs ps ∧ Apart vs ps

def Owns (G : Hp) (s : Sl) (o : Option (Option V)) (b : Addr) : Prop := match s with
  | .ow _ => o = some (some (.ref b))
  | .od _ => o = some (some (.ref b))
  | .lk _ _ _ _ => o = some (some (.ref b))
  | .tp ps => ∃ a u vs k, o = some (some (.ref a)) ∧ G a = some (.frz u (.tup vs)) ∧ OwAt vs ps k b
  | _ => False
theorem refI {a b : Addr} {o : Option (Option V)} (h : o = some (some (.ref a))) (h' : o = some (some (.ref b))) : a = b := by
  rw [h] at h'
  injection h' with h'; injection h' with h'; injection h'
section
variable {K : PySem.W.Frag} {c c' : C0} {G G' H H' : Hp} {i : Nat} {o : Option (Option V)} {s : Sl} {b : Addr}
theorem own_at (ok : SlOk K c G H i o s) (h : Owns G s o b) : (∃ u, H b = some u) ∧ G b = none ∧ (c.H b = none ∨ (i, b) ∈ c.B) := by
  cases s with
  | no => exact h.elim
  | sh d => exact h.elim
  | fn f => exact h.elim
  | ow xs =>
    obtain ⟨a, vs, e1, e2, _, e4, e5⟩ := ok
    cases refI e1 h
    exact ⟨⟨_, e2⟩, e4, e5⟩
  | od kvs =>
    obtain ⟨a, vs, e1, e2, _, e4, e5⟩ := ok
    cases refI e1 h
    exact ⟨⟨_, e2⟩, e4, .inl e5⟩
  | lk a u ks kvs =>
    obtain ⟨e1, e2, _, e4, e5⟩ := ok
    cases refI e1 h
    exact ⟨⟨_, e2⟩, e4, .inl e5⟩
  | tp ps =>
    obtain ⟨a, u, vs, e1, e2, _, ⟨el, ep⟩, _⟩ := ok
    obtain ⟨a', u', vs', k, f1, f2, f3, xs, f4⟩ := h
    cases refI e1 f1
    rw [e2] at f2
    injection f2 with f2; injection f2 with _ f2; injection f2 with f2
    subst f2
    obtain ⟨a2, ws, g1, g2, g3, g4, g5⟩ := ep k _ _ f3 f4
    injection g1 with g1
    subst g1
    exact ⟨⟨_, g2⟩, g4, .inl g5⟩
theorem own_back (g : Same G G') (ok : SlOk K c G H i o s) (h : Owns G' s o b) : Owns G s o b := by
  cases s with
  | tp ps =>
    obtain ⟨a, u, vs, e1, e2, _⟩ := ok
    obtain ⟨a', u', vs', k, f1, f2, f3⟩ := h
    cases refI e1 f1
    rw [g _ _ e2] at f2
    injection f2 with f2; injection f2 with f0 f2; injection f2 with f2
    subst f2
    exact ⟨a, u, vs, k, e1, e2, f3⟩
  | _ => exact h
theorem SlOk.move (ok : SlOk K c G H i o s) (g : Same G G') (h : ∀ b u, Owns G s o b → H b = some u → H' b = some u ∧ G' b = none ∧ (c.H b = none → c'.H b = none)) (hB : ∀ b, (i, b) ∈ c.B → (i, b) ∈ c'.B) : SlOk K c' G' H' i o s := by
  cases s with
  | no => trivial
  | sh d => obtain ⟨v, e1, e2⟩ := ok; exact ⟨v, e1, dpS g e2⟩
  | fn f => exact ok
  | ow xs =>
    obtain ⟨a, vs, e1, e2, e3, e4, e5⟩ := ok
    obtain ⟨h1, h2, h3⟩ := h a _ e1 e2
    exact ⟨a, vs, e1, h1, dpsS g e3, h2, e5.imp h3 (hB a)⟩
  | od kvs =>
    obtain ⟨a, vs, e1, e2, e3, e4, e5⟩ := ok
    obtain ⟨h1, h2, h3⟩ := h a _ e1 e2
    exact ⟨a, vs, e1, h1, ksS g e3, h2, h3 e5⟩
  | lk a u ks kvs =>
    obtain ⟨e1, e2, e3, e4, e5⟩ := ok
    obtain ⟨h1, h2, h3⟩ := h a _ e1 e2
    exact ⟨e1, h1, ksS g e3, h2, h3 e5⟩
  | tp ps =>
    obtain ⟨a, u, vs, e1, e2, e3, ⟨e4, e5⟩, e6⟩ := ok
    refine ⟨a, u, vs, e1, g _ _ e2, e3, ⟨e4, fun k v p hv hp => ?_⟩, e6⟩
    have q := e5 k v p hv hp
    cases p with
    | sh d => exact dpS g q
    | ow xs =>
      obtain ⟨a2, ws, g1, g2, g3, g4, g5⟩ := q
      subst g1
      obtain ⟨h1, h2, h3⟩ := h a2 _ ⟨a, u, vs, k, e1, e2, hv, xs, hp⟩ g2
      exact ⟨a2, ws, rfl, h1, dpsS g g3, h2, h3 g5⟩
end
structure Rel (K : PySem.W.Frag) (c : C0) (G : Hp) (σ : L2.St) (H : Hp) (ρ : List Sl) : Prop where
  sub : Same G H
  fr : ∀ a o, c.H a = some o → (∀ i, (i, a) ∉ c.B) → H a = some o
  gh : ∀ a, c.H a ≠ none → c.G a = none → G a = none
  len : σ.length = ρ.length
  sl : ∀ (i : Nat) (s : Sl), ρ[i]? = some s → SlOk K c G H i (σ[i]?) s
  sepO : ∀ (i j : Nat) (s t : Sl) (b : Addr), i ≠ j → ρ[i]? = some s → ρ[j]? = some t → Owns G s (σ[i]?) b → Owns G t (σ[j]?) b → False
  bd : ∀ (i : Nat) (a : Addr), (i, a) ∈ c.B → σ[i]? = some (some (.ref a)) ∧ ∃ xs, ρ[i]? = some (.ow xs)
  bs : ∀ (i : Nat) (a : Addr), (i, a) ∈ c.B → i ∈ c.bor


def MineO (c : C0) (G : Hp) (σ : L2.St) (H : Hp) (ρ : List Sl) (p : Addr) (o : HO) : Prop :=
  H p = some o ∧ G p = none ∧ c.H p = none ∧ ∀ (j : Nat) (s : Sl), ρ[j]? = some s → ¬ Owns G s (σ[j]?) p
abbrev Mine (c : C0) (G : Hp) (σ : L2.St) (H : Hp) (ρ : List Sl) (a : Addr) (vs : List V) : Prop := MineO c G σ H ρ a (.lst vs)

section
variable {K : PySem.W.Frag} {c c' : C0} {G G' : Hp} {σ : L2.St} {H H' : Hp} {ρ : List Sl}
theorem Rel.live (R : Rel K c G σ H ρ) {a : Addr} (h : H a = none) : c.H a = none := by
  cases e : c.H a with
  | none => rfl
  | some o =>
    by_cases q : ∀ i, (i, a) ∉ c.B
    · rw [R.fr a o e q] at h; cases h
    · have ⟨i, hi⟩ : ∃ i, (i, a) ∈ c.B := Classical.byContradiction fun z => q fun i hi => z ⟨i, hi⟩
      obtain ⟨e1, xs, e2⟩ := R.bd i a hi
      obtain ⟨b, vs, e3, e4, _⟩ := R.sl i _ e2
      cases refI e1 e3
      rw [e4] at h; cases h
theorem Rel.owAt (R : Rel K c G σ H ρ) {i : Nat} {xs : List D} (h : ρ[i]? = some (.ow xs)) :
    ∃ a vs, σ[i]? = some (some (.ref a)) ∧ H a = some (.lst vs) ∧ DqAll K G vs xs ∧ G a = none ∧ (c.H a = none ∨ (i, a) ∈ c.B) := R.sl i _ h
theorem Rel.odAt (R : Rel K c G σ H ρ) {i : Nat} {xs : List (Key × D)} (h : ρ[i]? = some (.od xs)) :
    ∃ a ks, σ[i]? = some (some (.ref a)) ∧ H a = some (.dK ks) ∧ KsQ K G ks xs ∧ G a = none ∧ c.H a = none := R.sl i _ h
theorem Rel.lkAt (R : Rel K c G σ H ρ) {i : Nat} {a : Addr} {u : Obj} {ks : List (Key × V)} {xs : List (Key × D)} (h : ρ[i]? = some (.lk a u ks xs)) :
    σ[i]? = some (some (.ref a)) ∧ H a = some (.frz u (.dK ks)) ∧ KsQ K G ks xs ∧ G a = none ∧ c.H a = none := R.sl i _ h
theorem Rel.tpAt (R : Rel K c G σ H ρ) {i : Nat} {ps : List Pt} (h : ρ[i]? = some (.tp ps)) :
    ∃ a u vs, σ[i]? = some (some (.ref a)) ∧ G a = some (.frz u (.tup vs)) ∧ u.dict = none ∧ PtsOk K c G H vs ps ∧ Apart vs ps := R.sl i _ h
theorem Rel.shAt (R : Rel K c G σ H ρ) {i : Nat} {d : D} (h : ρ[i]? = some (.sh d)) : ∃ v, σ[i]? = some (some v) ∧ Dq K G v d := R.sl i _ h
theorem Rel.sep (R : Rel K c G σ H ρ) (i j : Nat) (xs ys : List D) (a : Addr) (n : i ≠ j) (h : ρ[i]? = some (.ow xs)) (h' : ρ[j]? = some (.ow ys)) (e : σ[i]? = some (some (.ref a))) (e' : σ[j]? = some (some (.ref a))) : False :=
  R.sepO i j _ _ a n h h' e e'
theorem Rel.own (R : Rel K c G σ H ρ) {i : Nat} {s : Sl} {b : Addr} (h : ρ[i]? = some s) (o : Owns G s (σ[i]?) b) : (∃ u, H b = some u) ∧ G b = none ∧ (c.H b = none ∨ (i, b) ∈ c.B) := own_at (R.sl i s h) o

theorem Rel.move (R : Rel K c G σ H ρ) (sub : Same G' H') (fr : ∀ a o, c'.H a = some o → (∀ i, (i, a) ∉ c'.B) → H' a = some o) (gh : ∀ a, c'.H a ≠ none → c'.G a = none → G' a = none) (g : Same G G') (hB : c'.B = c.B) (hb : c'.bor = c.bor)
    (h : ∀ (b : Addr) (u : HO) (i : Nat) (s : Sl), ρ[i]? = some s → Owns G s (σ[i]?) b → H b = some u → H' b = some u ∧ G' b = none ∧ (c.H b = none → c'.H b = none)) : Rel K c' G' σ H' ρ :=
  ⟨sub, fr, gh, R.len, fun i s e => (R.sl i s e).move g (fun b u ob eb => h b u i s e ob eb) fun b z => hB ▸ z,
   fun i j s t b n e1 e2 o1 o2 => R.sepO i j s t b n e1 e2 (own_back g (R.sl i s e1) o1) (own_back g (R.sl j t e2) o2), fun i a z => R.bd i a (hB ▸ z), fun i a z => hb ▸ R.bs i a (hB ▸ z)⟩

theorem Rel.ext (R : Rel K c G σ H ρ) (h1 : Same H H') (h2 : Same G G') (h3 : Same G' H') (h4 : ∀ a, H a ≠ none → G a = none → G' a = none) : Rel K c G' σ H' ρ :=
  R.move h3 (fun a o e q => h1 _ _ (R.fr a o e q)) (fun a e q => h4 a (fun z => e (R.live z)) (R.gh a e q)) h2 rfl rfl fun b u i s e ob eb => ⟨h1 _ _ eb, h4 b (by rw [eb]; simp) (R.own e ob).2.1, id⟩

theorem Rel.rewr (R : Rel K c G σ H ρ) {i : Nat} {s s' : Sl} (hs : ρ[i]? = some s) (g : Same G G') (sub : Same G' H') (nG : ∀ b, H b ≠ none → G b = none → G' b = none)
    (far : ∀ b u, ¬ Owns G s (σ[i]?) b → H b = some u → H' b = some u) (ok : SlOk K c G' H' i (σ[i]?) s') (od : ∀ b, Owns G' s' (σ[i]?) b → Owns G s (σ[i]?) b) (bo : (∃ xs, s = .ow xs) → ∃ ys, s' = .ow ys) : Rel K c G' σ H' (ρ.set i s') := by
  have hi : i < ρ.length := (List.getElem?_eq_some_iff.mp hs).1
  have lift : ∀ {m : Nat} {t : Sl} {b : Addr}, (ρ.set i s')[m]? = some t → Owns G' t (σ[m]?) b → ∃ t', ρ[m]? = some t' ∧ Owns G t' (σ[m]?) b := fun {m t b} e ob => by
    by_cases hm : m = i
    · subst hm
      rw [List.getElem?_set_self hi] at e
      injection e with e; subst e
      exact ⟨s, hs, od b ob⟩
    · rw [List.getElem?_set_ne (Ne.symm hm)] at e
      exact ⟨t, e, own_back g (R.sl m t e) ob⟩
  refine ⟨sub, fun a o e q => ?_, fun a e q => nG a (fun z => e (R.live z)) (R.gh a e q), by simpa using R.len, fun j t e => ?_, fun j k t u b n e1 e2 o1 o2 => ?_, fun j a z => ?_, R.bs⟩
  · refine far a o (fun ob => ?_) (R.fr a o e q)
    rcases (R.own hs ob).2.2 with z | z
    · rw [z] at e; cases e
    · exact q i z
  · by_cases hj : j = i
    · subst hj
      rw [List.getElem?_set_self hi] at e
      injection e with e; subst e
      exact ok
    · rw [List.getElem?_set_ne (Ne.symm hj)] at e
      exact (R.sl j t e).move g (fun b u ob eb => ⟨far b u (fun oi => R.sepO j i _ _ b hj e hs ob oi) eb, nG b (by rw [eb]; simp) (R.own e ob).2.1, id⟩) fun _ z => z
  · obtain ⟨t', f1, f2⟩ := lift e1 o1
    obtain ⟨u', f3, f4⟩ := lift e2 o2
    exact R.sepO j k t' u' b n f1 f3 f2 f4
  · obtain ⟨f1, xs, f2⟩ := R.bd j a z
    refine ⟨f1, ?_⟩
    by_cases hj : j = i
    · subst hj
      rw [hs] at f2
      injection f2 with f2
      obtain ⟨ys, ey⟩ := bo ⟨xs, f2⟩
      subst ey
      exact ⟨ys, by rw [List.getElem?_set_self hi]⟩
    · exact ⟨xs, by rw [List.getElem?_set_ne (Ne.symm hj)]; exact f2⟩

theorem Rel.change (R : Rel K c G σ H ρ) {i : Nat} {xs ys : List D} {a : Addr} {ws : List V} (h : ρ[i]? = some (.ow xs)) (ha : σ[i]? = some (some (.ref a))) (hw : DqAll K G ws ys) :
    Rel K c G σ (upd H a (.lst ws)) (ρ.set i (.ow ys)) := by
  obtain ⟨b, vs, e1, e2, e3, e4, e5⟩ := R.owAt h
  cases refI ha e1
  refine R.rewr h (Same.refl _) (fun b o e => by rw [upd_ne (fun z => by subst z; rw [e4] at e; cases e)]; exact R.sub _ _ e) (fun _ _ z => z) (fun b u n e => by rw [upd_ne (fun z => n (by subst z; exact ha))]; exact e)
    ⟨a, ws, ha, upd_same, hw, e4, e5⟩ (fun b z => z) fun _ => ⟨ys, rfl⟩

theorem Rel.changeD (R : Rel K c G σ H ρ) {i : Nat} {xs ys : List (Key × D)} {a : Addr} {ws : List (Key × V)} (h : ρ[i]? = some (.od xs)) (ha : σ[i]? = some (some (.ref a))) (hw : KsQ K G ws ys) :
    Rel K c G σ (upd H a (.dK ws)) (ρ.set i (.od ys)) := by
  obtain ⟨b, vs, e1, e2, e3, e4, e5⟩ := R.odAt h
  cases refI ha e1
  refine R.rewr h (Same.refl _) (fun b o e => by rw [upd_ne (fun z => by subst z; rw [e4] at e; cases e)]; exact R.sub _ _ e) (fun _ _ z => z) (fun b u n e => by rw [upd_ne (fun z => n (by subst z; exact ha))]; exact e)
    ⟨a, ws, ha, upd_same, hw, e4, e5⟩ (fun b z => z) fun ⟨_, z⟩ => by cases z

theorem Rel.lock (R : Rel K c G σ H ρ) {i : Nat} {kvs : List (Key × D)} {a : Addr} {ks : List (Key × V)} (u : Obj) (h : ρ[i]? = some (.od kvs)) (ha : σ[i]? = some (some (.ref a))) (hH : H a = some (.dK ks)) :
    Rel K c G σ (upd H a (.frz u (.dK ks))) (ρ.set i (.lk a u ks kvs)) := by
  obtain ⟨b, vs, e1, e2, e3, e4, e5⟩ := R.odAt h
  cases refI ha e1
  rw [hH] at e2; injection e2 with e2; injection e2 with e2; subst e2
  refine R.rewr h (Same.refl _) (fun b o e => by rw [upd_ne (fun z => by subst z; rw [e4] at e; cases e)]; exact R.sub _ _ e) (fun _ _ z => z) (fun b u n e => by rw [upd_ne (fun z => n (by subst z; exact ha))]; exact e)
    ⟨ha, upd_same, e3, e4, e5⟩ (fun b z => z) fun ⟨_, z⟩ => by cases z
theorem Rel.unlock (R : Rel K c G σ H ρ) {i : Nat} {kvs : List (Key × D)} {a : Addr} {ks : List (Key × V)} {u : Obj} (h : ρ[i]? = some (.lk a u ks kvs)) :
    H a = some (.frz u (.dK ks)) ∧ Rel K c G σ (upd H a (.dK ks)) (ρ.set i (.od kvs)) := by
  obtain ⟨ha, e2, e3, e4, e5⟩ := R.lkAt h
  refine ⟨e2, R.rewr h (Same.refl _) (fun b o e => by rw [upd_ne (fun z => by subst z; rw [e4] at e; cases e)]; exact R.sub _ _ e) (fun _ _ z => z) (fun b u n e => by rw [upd_ne (fun z => n (by subst z; exact ha))]; exact e)
    ⟨a, ks, ha, upd_same, e3, e4, e5⟩ (fun b z => z) fun ⟨_, z⟩ => by cases z⟩

theorem Rel.put (R : Rel K c G σ H ρ) {i : Nat} {o : Option V} {s : Sl} (hB : ∀ a, (i, a) ∉ c.B) (ok : SlOk K c G H i (some o) s) (fresh : ∀ j t b, j ≠ i → ρ[j]? = some t → Owns G t (σ[j]?) b → Owns G s (some o) b → False) : Rel K c G (σ.set i o) H (ρ.set i s) := by
  refine ⟨R.sub, R.fr, R.gh, by simpa using R.len, fun j t e => ?_, fun j k t u b n e1 e2 o1 o2 => ?_, fun j b hj => ?_, R.bs⟩
  · by_cases hj : j = i
    · subst hj
      by_cases hi : j < ρ.length
      · rw [List.getElem?_set_self hi] at e
        injection e with e; subst e
        rw [List.getElem?_set_self (by rw [R.len]; exact hi)]; exact ok
      · rw [List.getElem?_eq_none (by simp; omega)] at e; cases e
    · rw [List.getElem?_set_ne (Ne.symm hj)] at e ⊢
      exact R.sl j t e
  · have get : ∀ {m : Nat} {t : Sl}, (ρ.set i s)[m]? = some t → Owns G t ((σ.set i o)[m]?) b → (m = i ∧ Owns G s (some o) b) ∨ (m ≠ i ∧ ρ[m]? = some t ∧ Owns G t (σ[m]?) b) := fun {m t} e ob => by
      by_cases hm : m = i
      · subst hm
        by_cases hi : m < ρ.length
        · rw [List.getElem?_set_self hi] at e
          injection e with e; subst e
          rw [List.getElem?_set_self (by rw [R.len]; exact hi)] at ob
          exact .inl ⟨rfl, ob⟩
        · rw [List.getElem?_eq_none (by simp; omega)] at e; cases e
      · rw [List.getElem?_set_ne (Ne.symm hm)] at e ob
        exact .inr ⟨hm, e, ob⟩
    rcases get e1 o1 with ⟨h1, p1⟩ | ⟨h1, p1, p2⟩
    · rcases get e2 o2 with ⟨h2, _⟩ | ⟨h2, q1, q2⟩
      · exact n (h1.trans h2.symm)
      · exact fresh k u b h2 q1 q2 p1
    · rcases get e2 o2 with ⟨h2, q1⟩ | ⟨h2, q1, q2⟩
      · exact fresh j t b h1 p1 p2 q1
      · exact R.sepO j k t u b n p1 q1 p2 q2
  · have : j ≠ i := fun z => by subst z; exact hB b hj
    rw [List.getElem?_set_ne (Ne.symm this), List.getElem?_set_ne (Ne.symm this)]
    exact R.bd j b hj

theorem Rel.store (R : Rel K c G σ H ρ) {i : Nat} {v : V} {d : D} (hB : ∀ a, (i, a) ∉ c.B) (hd : Dq K G v d) : Rel K c G (σ.set i (some v)) H (ρ.set i (.sh d)) :=
  R.put hB ⟨v, rfl, hd⟩ fun _ _ _ _ _ _ z => z.elim

theorem Rel.storeO (R : Rel K c G σ H ρ) {i : Nat} {a : Addr} {vs : List V} {xs : List D} (hB : ∀ a, (i, a) ∉ c.B) (m : Mine c G σ H ρ a vs) (hd : DqAll K G vs xs) : Rel K c G (σ.set i (some (.ref a))) H (ρ.set i (.ow xs)) :=
  R.put hB ⟨a, vs, rfl, m.1, hd, m.2.1, .inl m.2.2.1⟩ fun j t b _ e o1 o2 => by
    cases refI (rfl : some (some (V.ref a)) = _) o2
    exact m.2.2.2 j t e o1

theorem Rel.storeD (R : Rel K c G σ H ρ) {i : Nat} {a : Addr} {vs : List (Key × V)} {xs : List (Key × D)} (hB : ∀ a, (i, a) ∉ c.B) (m : MineO c G σ H ρ a (.dK vs)) (hd : KsQ K G vs xs) : Rel K c G (σ.set i (some (.ref a))) H (ρ.set i (.od xs)) :=
  R.put hB ⟨a, vs, rfl, m.1, hd, m.2.1, m.2.2.1⟩ fun j t b _ e o1 o2 => by
    cases refI (rfl : some (some (V.ref a)) = _) o2
    exact m.2.2.2 j t e o1

theorem Rel.forget (R : Rel K c G σ H ρ) {i : Nat} (hB : ∀ a, (i, a) ∉ c.B) (o : Option V) : Rel K c G (σ.set i o) H (ρ.set i .no) :=
  R.put hB trivial fun _ _ _ _ _ _ z => z.elim
theorem set_back {α : Type} {l : List α} {i : Nat} {x : α} (h : l[i]? = some x) : l.set i x = l := by
  apply List.ext_getElem?
  intro j
  by_cases hj : j = i
  · subst hj
    rw [List.getElem?_set_self (List.getElem?_eq_some_iff.mp h).1, h]
  · rw [List.getElem?_set_ne (Ne.symm hj)]

theorem Rel.keep (R : Rel K c G σ H ρ) {a : Addr} {o : HO} (m : MineO c G σ H ρ a o) : Same G (upd G a o) ∧ Rel K c (upd G a o) σ H ρ := by
  obtain ⟨m1, m2, m3, m4⟩ := m
  refine ⟨same_upd m2, R.move (fun b u e => ?_) R.fr (fun b q1 q2 => ?_) (same_upd m2) rfl rfl fun b u i s e ob eb => ⟨eb, ?_, id⟩⟩
  · by_cases hb : b = a
    · subst hb; rw [upd_same] at e; injection e with e; rw [← e]; exact m1
    · rw [upd_ne hb] at e; exact R.sub _ _ e
  · rw [upd_ne (fun z => by subst z; exact q1 m3)]; exact R.gh b q1 q2
  · rw [upd_ne (fun z => by subst z; exact m4 i s e ob)]; exact (R.own e ob).2.1

theorem Rel.others (R : Rel K c G σ H ρ) {i : Nat} {s : Sl} {b : Addr} (h : ρ[i]? = some s) (ob : Owns G s (σ[i]?) b) : ∀ (j : Nat) (t : Sl), (ρ.set i .no)[j]? = some t → ¬ Owns G t (σ[j]?) b := fun j t e oj => by
  by_cases hj : j = i
  · subst hj
    rw [List.getElem?_set_self (List.getElem?_eq_some_iff.mp h).1] at e
    injection e with e; subst e; exact oj
  · rw [List.getElem?_set_ne (Ne.symm hj)] at e
    exact R.sepO j i t s b hj e h oj ob
theorem Rel.drop (R : Rel K c G σ H ρ) {i : Nat} {s : Sl} {o : Option V} (h : ρ[i]? = some s) (e : σ[i]? = some o) (hB : ∀ a, (i, a) ∉ c.B) : Rel K c G σ H (ρ.set i .no) := by
  have := R.forget hB o
  rw [set_back e] at this
  exact this

end
end TN
set_option Elab.async false
set_option linter.all false
set_option maxRecDepth 100000
set_option maxHeartbeats 1000000
set_option autoImplicit false
namespace TN
open PySem PySem.Spec PyProof.Rows L2
structure Grow (G H G' H' : Hp) : Prop where
  h : Same H H'
  g : Same G G'
  s : Same G' H'
  n : ∀ a, H a ≠ none → G a = none → G' a = none
theorem Grow.refl {G H : Hp} (s : Same G H) : Grow G H G H := ⟨Same.refl _, Same.refl _, s, fun _ _ h => h⟩
theorem Grow.trans {G H G1 H1 G2 H2 : Hp} (a : Grow G H G1 H1) (b : Grow G1 H1 G2 H2) : Grow G H G2 H2 :=
  ⟨a.h.trans b.h, a.g.trans b.g, b.s, fun x h1 h2 => b.n x (fun z => h1 (a.h.free z)) (a.n x h1 h2)⟩
theorem Rel.grow {K : PySem.W.Frag} {c : C0} {G G' : Hp} {σ : L2.St} {H H' : Hp} {ρ : List Sl} (R : Rel K c G σ H ρ) (g : Grow G H G' H') : Rel K c G' σ H' ρ := R.ext g.h g.g g.s g.n

theorem grow_new {G H : Hp} {p : Addr} {o : HO} (s : Same G H) (hp : H p = none) : Grow G H (upd G p o) (upd H p o) := by
  have gp : G p = none := s.free hp
  refine ⟨same_upd hp, same_upd gp, fun b u e => ?_, fun a h1 h2 => ?_⟩
  · by_cases hb : b = p
    · subst hb; rw [upd_same] at e ⊢; exact e
    · rw [upd_ne hb] at e ⊢; exact s _ _ e
  · rw [upd_ne (fun z : a = p => h1 (by rw [z]; exact hp))]; exact h2

theorem grow_own {G H : Hp} {p : Addr} {o : HO} (s : Same G H) (hp : H p = none) : Grow G H G (upd H p o) :=
  ⟨same_upd hp, Same.refl _, s.trans (same_upd hp), fun _ _ h => h⟩


def DpM (K : PySem.W.Frag) (G H : Hp) (v : V) (d : D) : Prop := Dq K G v d ∨ ∃ a vs ds, v = .ref a ∧ d = .list ds ∧ SqL K H a vs ∧ DqAll K G vs ds
theorem DpM.now {K : PySem.W.Frag} {G H : Hp} {v : V} {d : D} (s : Same G H) (h : DpM K G H v d) : Dq K H v d := by
  rcases h with h | ⟨a, vs, ds, rfl, rfl, h1, h2⟩
  · exact dpS s h
  · exact .lst h1 (dpsS s h2)
theorem DpM.grow {K : PySem.W.Frag} {G H G' H' : Hp} {v : V} {d : D} (g : Grow G H G' H') (h : DpM K G H v d) : DpM K G' H' v d := by
  rcases h with h | ⟨a, vs, ds, rfl, rfl, h1, h2⟩
  · exact .inl (dpS g.g h)
  · exact .inr ⟨a, vs, ds, rfl, rfl, rdS g.h h1, dpsS g.g h2⟩

theorem DpM.list {K : PySem.W.Frag} {G H : Hp} {v : V} {ds : List D} (s : Same G H) (h : DpM K G H v (.list ds)) : ∃ a vs, v = .ref a ∧ SqL K H a vs ∧ DqAll K G vs ds := by
  rcases h with h | ⟨a, vs, es, rfl, e, h1, h2⟩
  · cases h with
    | lst h1 h2 => exact ⟨_, _, rfl, rdS s h1, h2⟩
  · injection e with e; subst e; exact ⟨a, vs, rfl, h1, h2⟩
theorem DpM.tup {K : PySem.W.Frag} {G H : Hp} {v : V} {ds : List D} (s : Same G H) (h : DpM K G H v (.tuple ds)) : ∃ a vs, v = .ref a ∧ SqT K H a vs ∧ DqAll K G vs ds := by
  rcases h with h | ⟨a, vs, es, rfl, e, h1, h2⟩
  · cases h with
    | tup h1 h2 => exact ⟨_, _, rfl, (tupS s h1).sq, h2⟩
  · cases e
theorem DpM.tupX {K : PySem.W.Frag} {G H : Hp} {v : V} {ds : List D} (s : Same G H) (h : DpM K G H v (.tuple ds)) : ∃ a vs, v = .ref a ∧ TupX K H a vs ∧ DqAll K G vs ds := by
  rcases h with h | ⟨a, vs, es, rfl, e, h1, h2⟩
  · cases h with
    | tup h1 h2 => exact ⟨_, _, rfl, tupS s h1, h2⟩
  · cases e
theorem DpM.int {K : PySem.W.Frag} {G H : Hp} {v : V} {i : Int} (h : DpM K G H v (.int i)) : v = .int i := by
  rcases h with h | ⟨_, _, _, _, e, _⟩
  · cases h; rfl
  · cases e
theorem DpM.str {K : PySem.W.Frag} {G H : Hp} {v : V} {x : Str} (h : DpM K G H v (.str x)) : v = .str x := by
  rcases h with h | ⟨_, _, _, _, e, _⟩
  · cases h; rfl
  · cases e
theorem DpM.bl {K : PySem.W.Frag} {G H : Hp} {v : V} {b : Bool} (h : DpM K G H v (.bool b)) : v = .bl b := by
  rcases h with h | ⟨_, _, _, _, e, _⟩
  · cases h; rfl
  · cases e
theorem DpM.non {K : PySem.W.Frag} {G H : Hp} {v : V} (h : DpM K G H v .none) : v = .non := by
  rcases h with h | ⟨_, _, _, _, e, _⟩
  · cases h; rfl
  · cases e



def tFrz (t : TE) : TE := fun σ H Q => t σ H fun v H1 => ∃ a ks, v = .ref a ∧ H1 a = some (.dK ks) ∧ ∀ u, Q v (upd H1 a (.frz u (.dK ks)))
theorem pe_frz {X : Cx} {e : Expr} {t : TE} (h : PE X e t) : PE X e (tFrz t) := by
  refine ⟨fun pins s σ H Q I hw => ?_⟩
  refine thn (h.run pins s σ H _ I hw) fun v s1 ⟨x, H1, I1, r, a, ks, e1, e2, q⟩ => ?_
  obtain ⟨od, I2⟩ := I1.lock e2 trivial
  exact ⟨x, _, I2, r, q od⟩
abbrev FE := List Sl → Option D
abbrev TDE := List Sl → (D → List Sl → Prop) → Prop
abbrev TDL := List Sl → (List D → List Sl → Prop) → Prop
abbrev TDT := List Sl → (Bool → List Sl → Prop) → Prop

def LM (K : PySem.W.Frag) (bor : List Nat) (tH : TE) (f : FE) : Prop :=
  ∀ ⦃c : C0⦄ ⦃G : Hp⦄ ⦃σ : L2.St⦄ ⦃H : Hp⦄ ⦃ρ : List Sl⦄ ⦃d : D⦄ ⦃Q : VK⦄, c.bor = bor → Rel K c G σ H ρ → f ρ = some d → (∀ v G' H', Grow G H G' H' → DpM K G' H' v d → Q v H') → tH σ H Q
def LP (K : PySem.W.Frag) (bor : List Nat) (tH : TE) (f : FE) : Prop :=
  ∀ ⦃c : C0⦄ ⦃G : Hp⦄ ⦃σ : L2.St⦄ ⦃H : Hp⦄ ⦃ρ : List Sl⦄ ⦃d : D⦄ ⦃Q : VK⦄, c.bor = bor → Rel K c G σ H ρ → f ρ = some d → (∀ v G' H', Grow G H G' H' → Dq K G' v d → Q v H') → tH σ H Q
def LE (K : PySem.W.Frag) (bor : List Nat) (tH : TE) (t : TDE) : Prop :=
  ∀ ⦃c : C0⦄ ⦃G : Hp⦄ ⦃σ : L2.St⦄ ⦃H : Hp⦄ ⦃ρ : List Sl⦄ ⦃Qd : D → List Sl → Prop⦄ ⦃Q : VK⦄, c.bor = bor → Rel K c G σ H ρ → t ρ Qd →
    (∀ v H' G' ρ' d, Same G G' → Rel K c G' σ H' ρ' → Dq K G' v d → Qd d ρ' → Q v H') → tH σ H Q
def LL (K : PySem.W.Frag) (bor : List Nat) (tH : TE) (t : TDL) : Prop :=
  ∀ ⦃c : C0⦄ ⦃G : Hp⦄ ⦃σ : L2.St⦄ ⦃H : Hp⦄ ⦃ρ : List Sl⦄ ⦃Qd : List D → List Sl → Prop⦄ ⦃Q : VK⦄, c.bor = bor → Rel K c G σ H ρ → t ρ Qd →
    (∀ a vs H' G' ρ' ds, Same G G' → Rel K c G' σ H' ρ' → Mine c G' σ H' ρ' a vs → DqAll K G' vs ds → Qd ds ρ' → Q (.ref a) H') → tH σ H Q
def LT (K : PySem.W.Frag) (bor : List Nat) (tH : TT) (t : TDT) : Prop :=
  ∀ ⦃c : C0⦄ ⦃G : Hp⦄ ⦃σ : L2.St⦄ ⦃H : Hp⦄ ⦃ρ : List Sl⦄ ⦃Qd : Bool → List Sl → Prop⦄ ⦃Q : Bool → Hp → Prop⦄, c.bor = bor → Rel K c G σ H ρ → t ρ Qd →
    (∀ b H' G' ρ', Same G G' → Rel K c G' σ H' ρ' → Qd b ρ' → Q b H') → tH σ H Q

def LB (K : PySem.W.Frag) (bor : List Nat) (tH : TT) (f : List Sl → Option Bool) : Prop :=
  ∀ ⦃c : C0⦄ ⦃G : Hp⦄ ⦃σ : L2.St⦄ ⦃H : Hp⦄ ⦃ρ : List Sl⦄ ⦃b : Bool⦄ ⦃Q : Bool → Hp → Prop⦄, c.bor = bor → Rel K c G σ H ρ → f ρ = some b → (∀ G' H', Grow G H G' H' → Q b H') → tH σ H Q

def dP (f : FE) : TDE := fun ρ Q => ∃ d, f ρ = some d ∧ Q d ρ
def dB (f : List Sl → Option Bool) : TDT := fun ρ Q => ∃ b, f ρ = some b ∧ Q b ρ

section
variable {K : PySem.W.Frag} {bor : List Nat} {tH ta tb : TE} {f g : FE} {A B : TDE}
theorem LP.m (h : LP K bor tH f) : LM K bor tH f := fun {_ _ _ _ _ _ _} hc R e k => h hc R e fun v G' H' g d => k v G' H' g (.inl d)
theorem LP.e (h : LP K bor tH f) : LE K bor tH (dP f) := fun {_ _ _ _ _ _ _} hc R ⟨d, e, q⟩ k => h hc R e fun v G' H' g dp => k v H' G' _ d g.g (R.grow g) dp q
def dKeep (t : TDL) : TDE := fun ρ Q => t ρ fun ds ρ' => Q (.list ds) ρ'

theorem LL.e {t : TDL} (h : LL K bor tH t) : LE K bor tH (dKeep t) := fun {_ _ _ _ _ _ _} hc R q k =>
  h hc R q fun a vs H' G' ρ' ds s R' m dp qd => by
    obtain ⟨sm, R2⟩ := R'.keep m
    exact k _ _ (upd G' a (.lst vs)) ρ' _ (s.trans sm) R2 (.lst (sqU upd_same) (dpsS sm dp)) qd


def fVar (i : Nat) : FE := fun ρ => match ρ[i]? with
  | some (.sh d) => some d
  | _ => none

def fPeek (i : Nat) : FE := fun ρ => match ρ[i]? with
  | some (.sh d) => some d
  | some (.ow xs) => some (.list xs)
  | _ => none

def dVar (i : Nat) : TDE := fun ρ Q => match ρ[i]? with
  | some (.sh d) => Q d ρ
  | some (.ow xs) => Q (.list xs) (ρ.set i (.sh (.list xs)))
  | _ => False
theorem lp_var {i : Nat} : LP K bor (tVar i) (fVar i) := fun {c G σ H ρ d Q} hc R e k => by
  unfold fVar at e
  split at e
  · rename_i d' h
    injection e with e; subst e
    obtain ⟨v, e1, e2⟩ := R.shAt h
    exact ⟨v, e1, k v G H (.refl R.sub) e2⟩
  · cases e
theorem lm_peek {i : Nat} : LM K bor (tVar i) (fPeek i) := fun {c G σ H ρ d Q} hc R e k => by
  unfold fPeek at e
  split at e
  · rename_i d' h
    injection e with e; subst e
    obtain ⟨v, e1, e2⟩ := R.shAt h
    exact ⟨v, e1, k v G H (.refl R.sub) (.inl e2)⟩
  · rename_i xs h
    injection e with e; subst e
    obtain ⟨a, vs, e1, e2, e3, e4, e5⟩ := R.owAt h
    exact ⟨_, e1, k _ G H (.refl R.sub) (.inr ⟨a, vs, xs, rfl, rfl, sqU e2, e3⟩)⟩
  · cases e
def fC (d : D) : FE := fun _ => some d
theorem lp_int {i : Int} : LP K bor (tC (.int i)) (fC (.int i)) := fun {c G σ H ρ d Q} hc R e k => by
  injection e with e; subst e; exact k _ G H (.refl R.sub) (.int i)
theorem lp_str {i : Str} : LP K bor (tC (.str i)) (fC (.str i)) := fun {c G σ H ρ d Q} hc R e k => by
  injection e with e; subst e; exact k _ G H (.refl R.sub) (.str i)
theorem lp_bl {i : Bool} : LP K bor (tC (.bl i)) (fC (.bool i)) := fun {c G σ H ρ d Q} hc R e k => by
  injection e with e; subst e; exact k _ G H (.refl R.sub) (.bl i)
theorem lp_non : LP K bor (tC .non) (fC .none) := fun {c G σ H ρ d Q} hc R e k => by
  injection e with e; subst e; exact k _ G H (.refl R.sub) .non


abbrev F2 := D → D → Option D

def RB (K : PySem.W.Frag) (r : R2) (o : F2) : Prop :=
  ∀ ⦃G H : Hp⦄ ⦃v w : V⦄ ⦃d e z : D⦄ ⦃Q : VK⦄, Same G H → DpM K G H v d → DpM K G H w e → o d e = some z → (∀ u G' H', Grow G H G' H' → Dq K G' u z → Q u H') → r v w H Q
def f2 (o : F2) (f g : FE) : FE := fun ρ => match f ρ, g ρ with
  | some d, some e => o d e
  | _, _ => none
def d2 (o : F2) (A B : TDE) : TDE := fun ρ Q => A ρ fun d ρ1 => B ρ1 fun e ρ2 => ∃ z, o d e = some z ∧ Q z ρ2
theorem lp_op {r : R2} {o : F2} (ha : LM K bor ta f) (hb : LM K bor tb g) (hr : RB K r o) : LP K bor (tOp r ta tb) (f2 o f g) := fun {c G σ H ρ d Q} hc R e k => by
  unfold f2 at e
  split at e
  · rename_i d1 d2 e1 e2
    exact ha hc R e1 fun v G1 H1 g1 p1 => hb hc (R.grow g1) e2 fun w G2 H2 g2 p2 => hr g2.s (p1.grow g2) p2 e fun u G3 H3 g3 p3 => k u G3 H3 (g1.trans (g2.trans g3)) p3
  · cases e
theorem le_op {r : R2} {o : F2} (ha : LE K bor ta A) (hb : LE K bor tb B) (hr : RB K r o) : LE K bor (tOp r ta tb) (d2 o A B) := fun {c G σ H ρ Qd Q} hc R q k =>
  ha hc R q fun v H1 G1 ρ1 d s1 R1 p1 q1 => hb hc R1 q1 fun w H2 G2 ρ2 e s2 R2 p2 ⟨z, e3, q2⟩ => hr R2.sub (.inl (dpS s2 p1)) (.inl p2) e3 fun u G3 H3 g3 p3 =>
    k u H3 G3 ρ2 z (s1.trans (s2.trans g3.g)) (R2.grow g3) p3 q2

def d2V (o : F2) (i : Nat) (B : TDE) : TDE := fun ρ Q => (fPeek i ρ).isSome = true ∧ B ρ fun e ρ2 => ∃ d z, fPeek i ρ2 = some d ∧ o d e = some z ∧ Q z ρ2
abbrev F1 := D → Option D
def RU1 (K : PySem.W.Frag) (r : V → Hp → VK → Prop) (o : F1) : Prop :=
  ∀ ⦃G H : Hp⦄ ⦃v : V⦄ ⦃d z : D⦄ ⦃Q : VK⦄, Same G H → DpM K G H v d → o d = some z → (∀ u G' H', Grow G H G' H' → Dq K G' u z → Q u H') → r v H Q
def f1 (o : F1) (f : FE) : FE := fun ρ => match f ρ with
  | some d => o d
  | _ => none
def d1 (o : F1) (A : TDE) : TDE := fun ρ Q => A ρ fun d ρ1 => ∃ z, o d = some z ∧ Q z ρ1
theorem lp_un {r : V → Hp → VK → Prop} {o : F1} (ha : LM K bor ta f) (hr : RU1 K r o) : LP K bor (tUn r ta) (f1 o f) := fun {c G σ H ρ d Q} hc R e k => by
  unfold f1 at e
  split at e
  · rename_i d1 e1
    exact ha hc R e1 fun v G1 H1 g1 p1 => hr g1.s p1 e fun u G3 H3 g3 p3 => k u G3 H3 (g1.trans g3) p3
  · cases e
abbrev FA := List Sl → Option (List D)
abbrev TDA := List Sl → (List D → List Sl → Prop) → Prop
def LPs (K : PySem.W.Frag) (bor : List Nat) (tH : TA) (f : FA) : Prop :=
  ∀ ⦃c : C0⦄ ⦃G : Hp⦄ ⦃σ : L2.St⦄ ⦃H : Hp⦄ ⦃ρ : List Sl⦄ ⦃ds : List D⦄ ⦃Q : List V → Hp → Prop⦄, c.bor = bor → Rel K c G σ H ρ → f ρ = some ds → (∀ vs G' H', Grow G H G' H' → DqAll K G' vs ds → Q vs H') → tH σ H Q
def LMs (K : PySem.W.Frag) (bor : List Nat) (tH : TA) (f : FA) : Prop :=
  ∀ ⦃c : C0⦄ ⦃G : Hp⦄ ⦃σ : L2.St⦄ ⦃H : Hp⦄ ⦃ρ : List Sl⦄ ⦃ds : List D⦄ ⦃Q : List V → Hp → Prop⦄, c.bor = bor → Rel K c G σ H ρ → f ρ = some ds → (∀ vs G' H', Grow G H G' H' → Paired (DpM K G' H') vs ds → Q vs H') → tH σ H Q
def LEs (K : PySem.W.Frag) (bor : List Nat) (tH : TA) (t : TDA) : Prop :=
  ∀ ⦃c : C0⦄ ⦃G : Hp⦄ ⦃σ : L2.St⦄ ⦃H : Hp⦄ ⦃ρ : List Sl⦄ ⦃Qd : List D → List Sl → Prop⦄ ⦃Q : List V → Hp → Prop⦄, c.bor = bor → Rel K c G σ H ρ → t ρ Qd →
    (∀ vs H' G' ρ' ds, Same G G' → Rel K c G' σ H' ρ' → DqAll K G' vs ds → Qd ds ρ' → Q vs H') → tH σ H Q
def fNil : FA := fun _ => some []
def fCons (f : FE) (r : FA) : FA := fun ρ => match f ρ, r ρ with
  | some d, some ds => some (d :: ds)
  | _, _ => none
def dNil : TDA := fun ρ Q => Q [] ρ
def dCons (A : TDE) (R : TDA) : TDA := fun ρ Q => A ρ fun d ρ1 => R ρ1 fun ds ρ2 => Q (d :: ds) ρ2
theorem lms_nil : LMs K bor tNil fNil := fun {c G σ H ρ ds Q} hc R e k => by
  injection e with e; subst e; exact k _ G H (.refl R.sub) .nil
theorem lms_cons {tr : TA} {r : FA} (h : LM K bor tH f) (hr : LMs K bor tr r) : LMs K bor (tCons tH tr) (fCons f r) := fun {c G σ H ρ ds Q} hc R e k => by
  unfold fCons at e
  split at e
  · rename_i d1 ds1 e1 e2
    injection e with e; subst e
    exact h hc R e1 fun v G1 H1 g1 p1 => hr hc (R.grow g1) e2 fun vs G2 H2 g2 p2 => k _ G2 H2 (g1.trans g2) (.cons (p1.grow g2) p2)
  · cases e
theorem les_nil : LEs K bor tNil dNil := fun {c G σ H ρ Qd Q} hc R q k => k _ H G ρ _ (Same.refl _) R .nil q
theorem les_cons {tr : TA} {r : TDA} (h : LE K bor tH A) (hr : LEs K bor tr r) : LEs K bor (tCons tH tr) (dCons A r) := fun {c G σ H ρ Qd Q} hc R q k =>
  h hc R q fun v H1 G1 ρ1 d s1 R1 p1 q1 => hr hc R1 q1 fun vs H2 G2 ρ2 ds s2 R2 p2 q2 => k _ H2 G2 ρ2 _ (s1.trans s2) R2 (.cons (dpS s2 p1) p2) q2
theorem LPs.e {tr : TA} {r : FA} (h : LPs K bor tr r) : LEs K bor tr (fun ρ Q => ∃ ds, r ρ = some ds ∧ Q ds ρ) := fun {_ _ _ _ _ _ _} hc R ⟨d, e, q⟩ k => h hc R e fun v G' H' g dp => k v H' G' _ d g.g (R.grow g) dp q



def tTupX (t : TA) : TE := fun σ H Q => t σ H fun xs H1 => xs.length ≤ sizeLine ∧ ∀ (p : Addr) (o : Obj), o.dict = none → H1 p = none → Q (.ref p) (upd H1 p (.frz o (.tup xs)))
def dTup (r : TDA) : TDE := fun ρ Q => r ρ fun ds ρ1 => ds.length ≤ 100000 ∧ Q (.tuple ds) ρ1
def dLst (r : TDA) : TDL := fun ρ Q => r ρ fun ds ρ1 => ds.length ≤ 100000 ∧ Q ds ρ1
theorem le_tup {tr : TA} {r : TDA} (h : LEs K bor tr r) : LE K bor (tTupX tr) (dTup r) := fun {c G σ H ρ Qd Q} hc R q k =>
  h hc R q fun vs H1 G1 ρ1 ds s1 R1 p1 ⟨hl, q1⟩ => ⟨by rw [dps_len p1]; exact Nat.le_trans hl (by decide), fun p o hd hp => by
    have g2 := grow_new (o := .frz o (.tup vs)) R1.sub hp
    exact k _ _ _ _ _ (s1.trans g2.g) (R1.grow g2) (.tup (.inl ⟨o, upd_same, hd⟩) (dpsS g2.g p1)) q1⟩
theorem mineO_new {c : C0} {G : Hp} {σ : L2.St} {H : Hp} {ρ : List Sl} (R : Rel K c G σ H ρ) {p : Addr} {o : HO} (hp : H p = none) : MineO c G σ (upd H p o) ρ p o :=
  ⟨upd_same, R.sub.free hp, R.live hp, fun j s e z => by
    obtain ⟨⟨u, e1⟩, _⟩ := R.own e z
    rw [hp] at e1; cases e1⟩
theorem mine_new {c : C0} {G : Hp} {σ : L2.St} {H : Hp} {ρ : List Sl} (R : Rel K c G σ H ρ) {p : Addr} {vs : List V} (hp : H p = none) : Mine c G σ (upd H p (.lst vs)) ρ p vs := mineO_new R hp
theorem ll_lst {tr : TA} {r : TDA} (h : LEs K bor tr r) : LL K bor (tLst tr) (dLst r) := fun {c G σ H ρ Qd Q} hc R q k =>
  h hc R q fun vs H1 G1 ρ1 ds s1 R1 p1 ⟨hl, q1⟩ => ⟨by rw [dps_len p1]; exact Nat.le_trans hl (by decide), fun p hp =>
    k p vs _ G1 ρ1 ds s1 (R1.grow (grow_own R1.sub hp)) (mine_new R1 hp) p1 q1⟩
end
end TN
set_option Elab.async false
set_option linter.all false
set_option maxRecDepth 100000
set_option maxHeartbeats 1000000
set_option autoImplicit false
namespace TN
open PySem PySem.Spec PyProof.Rows L2
section
variable {X : Cx}
theorem opOr {f : Value → Value → Sem Value} {r r' : R2} (h : OpR X f r) (h' : OpR X f r') : OpR X f (fun x y H Q => r x y H Q ∨ r' x y H Q) := by
  intro pins s σ H x y v u Q I rx ry q
  rcases q with q | q
  · exact h pins s σ H x y v u Q I rx ry q
  · exact h' pins s σ H x y v u Q I rx ry q
theorem rdL {K : PySem.W.Frag} {H : Hp} {a : Addr} {xs : List V} (h : SqL K H a xs) : SqL K H a xs := h

def rCatR (K : PySem.W.Frag) : R2 := fun x y H Q => ∃ l b xs zs, x = .ref l ∧ y = .ref b ∧ SqL K H l xs ∧ SqL K H b zs ∧ xs.length + zs.length ≤ sizeLine ∧ ∀ p, H p = none → Q (.ref p) (upd H p (.lst (xs ++ zs)))
theorem op_catR : OpR X (binaryOp .Add) (rCatR X.K) := by
  intro pins s σ H x y v u Q I rx ry h
  obtain ⟨l, b, xs, zs, rfl, rfl, hH, hB, hz, q⟩ := h
  cases rx
  cases ry
  obtain ⟨i1, r1, ⟨⟨c1, d1, t1, s1⟩, n1, e1, k1, f1, g1⟩, z1⟩ := I.list hH
  obtain ⟨i2, r2, ⟨⟨c2, d2, t2, s2⟩, n2, e2, k2, f2, g2⟩, z2⟩ := I.list hB
  simp only at k1 g1 k2 g2
  subst k1 g1 k2 g2
  have l1 := r1.length
  have l2 := r2.length
  refine concat_meets ⟨_, e1, rfl⟩ ⟨_, e2, rfl⟩ noFill_list_add seq_list_add PySem.F.slot_list_add PySem.F.entry_list_add (PySem.F.args_list_add_2 _ _)
    (list_addW l b i1.toArray i2.toArray n1 n2 d1 d2 s1 s2 (by simp only [List.size_toArray]; omega)) ⟨e1, e2, ?_⟩
  rw [show i1.toArray ++ i2.toArray = (i1 ++ i2).toArray by simp]
  exact ⟨.ref _, _, I.lnew (t' := s.toks) (r1.append r2) (by rw [List.length_append]; exact hz), rfl, q _ I.fresh⟩

theorem tup_laid {pins : List (Addr × Obj)} {σ : L2.St} {H : Hp} {s : Shared} {xs : List V} {its : List Value} (I : Inv X pins σ H s) (r : Vals xs its) (hz : xs.length ≤ sizeLine) :
    Inv X pins σ (upd H s.heap.objs.size (.frz { cls := .type "tuple", data := .seq its.toArray } (.tup xs))) { s with heap := s.heap.push { cls := .type "tuple", data := .seq its.toArray } } :=
  I.laid (t' := s.toks) (fun _ _ q => Heap.get?_push_of_some _ q) (Nat.le_refl _) ⟨Heap.get?_push_size _ rfl, hz, its, r, IsTup.new _ _⟩
theorem pe_tupX {es : List Expr} {t : TA} {n : Nat} {pos : Pos} (h : PA X es t) : PE X (.Tuple es n pos) (tTupX t) := by
  constructor
  intro pins s σ H Q I hq
  apply wpAny_Tuple_spliced
  apply thn (h.run pos pins s σ H _ I hq)
  rintro us s1 ⟨xs, H1, I1, r, z, q⟩
  refine ⟨by rw [← r.length]; exact z, ?_⟩
  exact ⟨.ref s1.heap.objs.size, _, tup_laid I1 r z, rfl, q _ _ rfl (I1.hok.fresh (Nat.le_refl _))⟩

def rCatX (K : PySem.W.Frag) : R2 := fun x y H Q => ∃ a b xs ys, x = .ref a ∧ y = .ref b ∧ SqT K H a xs ∧ SqT K H b ys ∧ xs.length + ys.length ≤ sizeLine ∧
  (xs = [] → Q (.ref b) H) ∧ (xs ≠ [] → ys = [] → Q (.ref a) H) ∧ (xs ≠ [] → ys ≠ [] → ∀ (p : Addr) (o : Obj), o.dict = none → H p = none → Q (.ref p) (upd H p (.frz o (.tup (xs ++ ys)))))
theorem op_catX : OpR X (binaryOp .Add) (rCatX X.K) := by
  intro pins s σ H x y v u Q I rx ry h
  obtain ⟨a, b, xs, ys, rfl, rfl, ha, hb, hz, q0, q1, q2⟩ := h
  cases rx
  cases ry
  obtain ⟨i1, r1, p1, _⟩ := I.tuple ha
  obtain ⟨i2, r2, p2, _⟩ := I.tuple hb
  by_cases hx : xs = []
  · subst hx
    cases r1
    exact cat_tup0 p1 p2 ⟨.ref b, H, I, rfl, q0 rfl⟩
  · have n1 : i1 ≠ [] := fun z => hx (r1.nil_iff.mp z)
    have l1 := r1.length
    have l2 := r2.length
    apply HT.cat_tup p1 p2 n1
    · intro z
      exact ⟨.ref a, H, I, rfl, q1 hx (r2.nil_iff.mp z)⟩
    · intro z
      have big : (xs ++ ys).length ≤ sizeLine := by rw [List.length_append]; exact hz
      exact ⟨.ref s.heap.objs.size, _, tup_laid I (r1.append r2) big, rfl, q2 hx (fun e => z (r2.nil_iff.mpr e)) _ _ rfl (I.hok.fresh (Nat.le_refl _))⟩
    · omega

def CPowB (i j : Int) : Prop := 0 ≤ j ∧ j ≤ 1000 ∧ i.natAbs < 2 ^ 1024
theorem op_powB : OpR X (binaryOp .Pow) (rI CPowB fun i j => .int (i ^ j.toNat)) := by
  intro pins s σ H x y v u Q I rx ry h
  obtain ⟨i, j, rfl, rfl, ⟨h1, h2, h3⟩, q⟩ := h
  obtain ⟨t, rfl⟩ := rx
  obtain ⟨t', rfl⟩ := ry
  refine PyProof.Rows.pow_int h1 ?_ ⟨.int _, H, I.tok _, ⟨_, rfl⟩, q⟩
  have b : Builtin.Int.intBits i ≤ 1024 := by
    have b0 : Builtin.Int.intBits i ≤ i.natAbs.log2 + 1 := by
      unfold Builtin.Int.intBits
      split <;> omega
    have b1 : i.natAbs.log2 < 1024 := PySem.Flt.log2_lt_of (by decide) h3
    omega
  have e : (2 : Int) ^ 27 = 134217728 := by decide
  rw [e]
  have : (Builtin.Int.intBits i : Int) * j ≤ 1024 * 1000 := Int.mul_le_mul (by omega) h2 h1 (by decide)
  omega
end
section
variable {K : PySem.W.Frag} {bor : List Nat}
theorem rb_I {C : Int → Int → Prop} {g : Int → Int → V} {o : F2} (h : ∀ d e z, o d e = some z → ∃ i j, d = .int i ∧ e = .int j ∧ C i j ∧ ((∃ k, g i j = .int k ∧ z = .int k) ∨ ∃ k, g i j = .bl k ∧ z = .bool k)) : RB K (rI C g) o :=
  fun {G H v w d e z Q} s p1 p2 e1 k => by
    obtain ⟨i, j, rfl, rfl, hc, hz⟩ := h d e z e1
    cases p1.int
    cases p2.int
    refine ⟨i, j, rfl, rfl, hc, ?_⟩
    rcases hz with ⟨n, e2, rfl⟩ | ⟨n, e2, rfl⟩
    · rw [e2]; exact k _ G H (.refl s) (.int n)
    · rw [e2]; exact k _ G H (.refl s) (.bl n)
theorem rb_I0 {g : Int → Int → V} {o : F2} (h : ∀ d e z, o d e = some z → ∃ i j, d = .int i ∧ e = .int j ∧ ((∃ k, g i j = .int k ∧ z = .int k) ∨ ∃ k, g i j = .bl k ∧ z = .bool k)) : RB K (rI0 g) o :=
  fun {G H v w d e z Q} s p1 p2 e1 k => by
    obtain ⟨i, j, rfl, rfl, hz⟩ := h d e z e1
    cases p1.int
    cases p2.int
    refine ⟨i, j, rfl, rfl, ?_⟩
    rcases hz with ⟨n, e2, rfl⟩ | ⟨n, e2, rfl⟩
    · rw [e2]; exact k _ G H (.refl s) (.int n)
    · rw [e2]; exact k _ G H (.refl s) (.bl n)
def oSub : F2 := fun d e => match d, e with
  | .int i, .int j => some (.int (i - j))
  | _, _ => none
theorem rb_sub : RB K (rI0 fun i j => .int (i - j)) oSub := rb_I0 fun d e z h => by
  unfold oSub at h; split at h
  · rename_i i j; injection h with h; exact ⟨i, j, rfl, rfl, .inl ⟨_, rfl, h.symm⟩⟩
  · cases h
def oMul : F2 := fun d e => match d, e with
  | .int i, .int j => if (-18446744073709551616 < i ∧ i < 18446744073709551616) ∨ (-18446744073709551616 < j ∧ j < 18446744073709551616) then some (.int (i * j)) else none
  | _, _ => none
theorem rb_mul : RB K (rI CMul fun i j => .int (i * j)) oMul := rb_I fun d e z h => by
  unfold oMul at h; split at h
  · rename_i i j
    split at h
    · rename_i hc
      injection h with h; exact ⟨i, j, rfl, rfl, by unfold CMul; simpa using hc, .inl ⟨_, rfl, h.symm⟩⟩
    · cases h
  · cases h
def oPow : F2 := fun d e => match d, e with
  | .int i, .int j => if 0 ≤ j ∧ j ≤ 1000 ∧ i.natAbs < 2 ^ 1024 then some (.int (i ^ j.toNat)) else none
  | _, _ => none
theorem rb_pow : RB K (rI CPowB fun i j => .int (i ^ j.toNat)) oPow := rb_I fun d e z h => by
  unfold oPow at h; split at h
  · rename_i i j
    split at h
    · rename_i hc
      injection h with h; exact ⟨i, j, rfl, rfl, hc, .inl ⟨_, rfl, h.symm⟩⟩
    · cases h
  · cases h
def oMod : F2 := fun d e => match d, e with
  | .int i, .int j => if 0 < j then some (.int (i % j)) else none
  | _, _ => none
theorem rb_mod : RB K (rI (fun _ j => 0 < j) fun i j => .int (i % j)) oMod := rb_I fun d e z h => by
  unfold oMod at h; split at h
  · rename_i i j
    split at h
    · rename_i hc
      injection h with h; exact ⟨i, j, rfl, rfl, hc, .inl ⟨_, rfl, h.symm⟩⟩
    · cases h
  · cases h
def oDiv : F2 := fun d e => match d, e with
  | .int i, .int j => if 0 < j ∧ j < 1073741824 then some (.int (i / j)) else none
  | _, _ => none
theorem rb_div : RB K (rI CDiv fun i j => .int (i / j)) oDiv := rb_I fun d e z h => by
  unfold oDiv at h; split at h
  · rename_i i j
    split at h
    · rename_i hc
      injection h with h; exact ⟨i, j, rfl, rfl, hc, .inl ⟨_, rfl, h.symm⟩⟩
    · cases h
  · cases h
def oNeg : F1 := fun d => match d with
  | .int i => some (.int (-i))
  | _ => none
theorem ru_neg : RU1 K (rU fun i => .int (-i)) oNeg := fun {G H v d z Q} s p e k => by
  unfold oNeg at e; split at e
  · rename_i i
    injection e with e; subst e
    cases p.int
    exact ⟨i, rfl, k _ G H (.refl s) (.int _)⟩
  · cases e


abbrev rAddU (K : PySem.W.Frag) : R2 := fun x y H Q => (rI0 fun i j => .int (i + j)) x y H Q ∨ ((fun x y H Q => ∃ i j, x = V.str i ∧ y = V.str j ∧ i.length + j.length ≤ sizeLine ∧ Q (V.str (i ++ j)) H) x y H Q ∨ (rCatR K x y H Q ∨ rCatX K x y H Q))
theorem op_addU {X : Cx} : OpR X (binaryOp .Add) (rAddU X.K) := opOr op_add (opOr op_add_str (opOr op_catR op_catX))
def oAdd : F2 := fun d e => match d, e with
  | .int i, .int j => some (.int (i + j))
  | .str a, .str b => if a.length + b.length ≤ 16777216 then some (.str (a ++ b)) else none
  | .list a, .list b => if a.length + b.length ≤ 100000 then some (.list (a ++ b)) else none
  | .tuple a, .tuple b => if a.length + b.length ≤ 100000 then some (.tuple (a ++ b)) else none
  | _, _ => none
theorem rb_add : RB K (rAddU K) oAdd := fun {G H v w d e z Q} s p1 p2 e1 k => by
  unfold oAdd at e1
  split at e1
  · rename_i i j
    injection e1 with e1; subst e1
    cases p1.int; cases p2.int
    exact .inl ⟨i, j, rfl, rfl, k _ G H (.refl s) (.int _)⟩
  · rename_i a b
    split at e1
    · rename_i hl
      injection e1 with e1; subst e1
      cases p1.str; cases p2.str
      exact .inr (.inl ⟨a, b, rfl, rfl, Nat.le_trans hl (by decide), k _ G H (.refl s) (.str _)⟩)
    · cases e1
  · rename_i a b
    split at e1
    · rename_i hl
      injection e1 with e1; subst e1
      obtain ⟨x, vs, rfl, h1, h2⟩ := p1.list s
      obtain ⟨y, ws, rfl, h3, h4⟩ := p2.list s
      refine .inr (.inr (.inl ⟨x, y, vs, ws, rfl, rfl, h1, h3, by rw [dps_len h2, dps_len h4]; exact Nat.le_trans hl (by decide), fun p hp => ?_⟩))
      have g := grow_new (o := .lst (vs ++ ws)) s hp
      exact k _ _ _ g (.lst (sqU upd_same) (dpsS g.g (dps_app h2 h4)))
    · cases e1
  · rename_i a b
    split at e1
    · rename_i hl
      injection e1 with e1; subst e1
      obtain ⟨x, vs, rfl, h1, h2⟩ := p1.tup s
      obtain ⟨y, ws, rfl, h3, h4⟩ := p2.tup s
      refine .inr (.inr (.inr ⟨x, y, vs, ws, rfl, rfl, h1, h3, by rw [dps_len h2, dps_len h4]; exact Nat.le_trans hl (by decide), fun hv => ?_, fun hv hw => ?_, fun hv hw p o hd hp => ?_⟩))
      · subst hv
        cases h2
        rcases p2 with p2 | ⟨_, _, _, _, e, _⟩
        · exact k _ G H (.refl s) p2
        · cases e
      · subst hw
        cases h4
        rcases p1 with p1 | ⟨_, _, _, _, e, _⟩
        · rw [List.append_nil] at k; exact k _ G H (.refl s) p1
        · cases e
      · have g := grow_new (o := .frz o (.tup (vs ++ ws))) s hp
        exact k _ _ _ g (.tup (.inl ⟨o, upd_same, hd⟩) (dpsS g.g (dps_app h2 h4)))
    · cases e1
  · cases e1


def oEq : F2 := fun d e => if SeqAt.shaped d = true ∧ SeqAt.shaped e = true then some (.bool (PyData.eqv d e)) else none
def oNe : F2 := fun d e => if SeqAt.shaped d = true ∧ SeqAt.shaped e = true then some (.bool (!PyData.eqv d e)) else none
theorem rb_eq : RB K (rEqD K) oEq := fun {G H v w d e z Q} s p1 p2 e1 k => by
  unfold oEq at e1; split at e1
  · rename_i h
    injection e1 with e1; subst e1
    exact ⟨d, e, (p1.now s).dp (noDict_shaped h.1), (p2.now s).dp (noDict_shaped h.2), h.1, h.2, k _ G H (.refl s) (.bl _)⟩
  · cases e1
theorem rb_ne : RB K (rNeD K) oNe := fun {G H v w d e z Q} s p1 p2 e1 k => by
  unfold oNe at e1; split at e1
  · rename_i h
    injection e1 with e1; subst e1
    exact ⟨d, e, (p1.now s).dp (noDict_shaped h.1), (p2.now s).dp (noDict_shaped h.2), h.1, h.2, k _ G H (.refl s) (.bl _)⟩
  · cases e1


theorem atI_dq {G : Hp} {vs : List V} {ds : List D} {i : Int} {d : D} (h : DqAll K G vs ds) (e : atI ds i = some d) : ∃ v, atI vs i = some v ∧ Dq K G v d := by
  unfold atI at e ⊢
  rw [dps_len h]
  cases q : ixN ds.length i with
  | none => rw [q] at e; cases e
  | some j =>
    rw [q] at e
    obtain ⟨v, e1, e2⟩ := dps_of h e
    exact ⟨v, e1, e2⟩
def oIx : F2 := fun d e => match d, e with
  | .list xs, .int i => atI xs i
  | .tuple xs, .int i => atI xs i
  | .str z, .int i => if z.length ≤ 100000 then (atI z.cps.toList i).map fun c => .str ⟨#[c]⟩ else none
  | _, _ => none
theorem rb_ix : RB K (rIx K) oIx := fun {G H v w d e z Q} s p1 p2 e1 k => by
  unfold oIx at e1
  split at e1
  · rename_i xs i
    obtain ⟨a, vs, rfl, h1, h2⟩ := p1.list s
    cases p2.int
    obtain ⟨u, f1, f2⟩ := atI_dq h2 e1
    exact .inl ⟨a, vs, i, u, rfl, rfl, rdL h1, f1, k _ G H (.refl s) f2⟩
  · rename_i xs i
    obtain ⟨a, vs, rfl, h1, h2⟩ := p1.tup s
    cases p2.int
    obtain ⟨u, f1, f2⟩ := atI_dq h2 e1
    exact .inr (.inl ⟨a, vs, i, u, rfl, rfl, h1, f1, k _ G H (.refl s) f2⟩)
  · rename_i x i
    split at e1
    · rename_i hl
      cases p1.str
      cases p2.int
      cases q : atI x.cps.toList i with
      | none => rw [q] at e1; cases e1
      | some c =>
        rw [q] at e1
        injection e1 with e1; subst e1
        exact .inr (.inr ⟨x, i, c, rfl, rfl, Nat.le_trans hl (by decide), q, k _ G H (.refl s) (.str _)⟩)
    · cases e1
  · cases e1
end
end TN
set_option Elab.async false
set_option linter.all false
set_option maxRecDepth 100000
set_option maxHeartbeats 1000000
set_option autoImplicit false
namespace TN
open PySem PySem.Spec PyProof.Rows L2
structure DEnds where
  nx : List Sl → Prop
  rt : Sl → List Sl → Prop
  bk : List Sl → Prop := fun _ => False
  ct : List Sl → Prop := fun _ => False
abbrev TDS := DEnds → List Sl → Prop


def RtOk (K : PySem.W.Frag) (c : C0) (G : Hp) (H : Hp) (v : V) : Sl → Prop
  | .no => False
  | .fn _ => False
  | .lk _ _ _ _ => False
  | .od kvs => ∃ a ks, v = .ref a ∧ H a = some (.dK ks) ∧ G a = none ∧ c.H a = none ∧ KsQ K G ks kvs
  | .tp ps => ∃ a u vs, v = .ref a ∧ G a = some (.frz u (.tup vs)) ∧ u.dict = none ∧ PtsOk K c G H vs ps ∧ Apart vs ps
  | .sh d => Dq K G v d
  | .ow xs => ∃ a vs, v = .ref a ∧ H a = some (.lst vs) ∧ G a = none ∧ c.H a = none ∧ DqAll K G vs xs
structure Links (K : PySem.W.Frag) (c : C0) (G : Hp) (E : DEnds) (D : Ends) : Prop where
  nx : ∀ {G' : Hp} {σ' : L2.St} {H' : Hp} {ρ' : List Sl}, Same G G' → Rel K c G' σ' H' ρ' → E.nx ρ' → D.nx σ' H'
  rt : ∀ {G' : Hp} {σ' : L2.St} {H' : Hp} {ρ' : List Sl} {v : V} {r : Sl}, Same G G' → Rel K c G' σ' H' ρ' → RtOk K c G' H' v r → E.rt r ρ' → D.rt v H'
  bk : ∀ {G' : Hp} {σ' : L2.St} {H' : Hp} {ρ' : List Sl}, Same G G' → Rel K c G' σ' H' ρ' → E.bk ρ' → D.bk σ' H'
  ct : ∀ {G' : Hp} {σ' : L2.St} {H' : Hp} {ρ' : List Sl}, Same G G' → Rel K c G' σ' H' ρ' → E.ct ρ' → D.ct σ' H'
theorem Links.mono {K : PySem.W.Frag} {c : C0} {G G' : Hp} {E : DEnds} {D : Ends} (l : Links K c G E D) (s : Same G G') : Links K c G' E D :=
  ⟨fun t => l.nx (s.trans t), fun t => l.rt (s.trans t), fun t => l.bk (s.trans t), fun t => l.ct (s.trans t)⟩
def LS (K : PySem.W.Frag) (bor : List Nat) (tH : TS) (t : TDS) : Prop :=
  ∀ ⦃c : C0⦄ ⦃G : Hp⦄ ⦃σ : L2.St⦄ ⦃H : Hp⦄ ⦃ρ : List Sl⦄ ⦃E : DEnds⦄ ⦃D : Ends⦄, c.bor = bor → Rel K c G σ H ρ → t E ρ → Links K c G E D → tH D σ H

section
variable {K : PySem.W.Frag} {bor : List Nat} {te : TE} {A B : TDE} {t u : TS} {S T : TDS}
def sSeq (S T : TDS) : TDS := fun E ρ => S { E with nx := T E } ρ
theorem ls_seq (h1 : LS K bor t S) (h2 : LS K bor u T) : LS K bor (tSeq t u) (sSeq S T) := fun {c G σ H ρ E D} hc R q l =>
  h1 (D := { D with nx := u D }) hc R q ⟨fun s R' q' => h2 hc R' q' (l.mono s), fun s => l.rt s, fun s => l.bk s, fun s => l.ct s⟩
def sNext : TDS := fun E ρ => E.nx ρ
theorem ls_next : LS K bor tNext sNext := fun {c G σ H ρ E D} hc R q l => l.nx (Same.refl _) R q
def sNever : TDS := fun _ _ => False
theorem ls_never : LS K bor tNever sNever := fun {c G σ H ρ E D} hc R q l => q.elim
def sDrop (A : TDE) : TDS := fun E ρ => A ρ fun _ ρ1 => E.nx ρ1
theorem ls_drop (h : LE K bor te A) : LS K bor (tDrop te) (sDrop A) := fun {c G σ H ρ E D} hc R q l =>
  h hc R q fun v H' G' ρ' d s R' _ q' => l.nx s R' q'
def sRet (A : TDE) : TDS := fun E ρ => A ρ fun d ρ1 => E.rt (.sh d) ρ1
theorem ls_ret (h : LE K bor te A) : LS K bor (tRet te) (sRet A) := fun {c G σ H ρ E D} hc R q l =>
  h hc R q fun v H' G' ρ' d s R' p q' => l.rt s R' (r := .sh d) p q'
def sRetL (A : TDL) : TDS := fun E ρ => A ρ fun d ρ1 => E.rt (.ow d) ρ1
theorem ls_retL {A : TDL} (h : LL K bor te A) : LS K bor (tRet te) (sRetL A) := fun {c G σ H ρ E D} hc R q l =>
  h hc R q fun a vs H' G' ρ' ds s R' m p q' => l.rt s R' (r := .ow ds) ⟨a, vs, rfl, m.1, m.2.1, m.2.2.1, p⟩ q'
def sRetN : TDS := fun E ρ => E.rt (.sh .none) ρ
def sIf (C : TDT) (S T : TDS) : TDS := fun E ρ => C ρ fun b ρ1 => (b = true → S E ρ1) ∧ (b = false → T E ρ1)
theorem ls_if {tc : TT} {C : TDT} (hc' : LT K bor tc C) (h1 : LS K bor t S) (h2 : LS K bor u T) : LS K bor (tIfS tc t u) (sIf C S T) := fun {c G σ H ρ E D} hc R q l =>
  hc' hc R q fun b H' G' ρ' s R' ⟨q1, q2⟩ => by
    cases b with
    | true => exact iteT (h1 hc R' (q1 rfl) (l.mono s))
    | false => exact iteF (h2 hc R' (q2 rfl) (l.mono s))


abbrev TDG := D → List Sl → (List Sl → Prop) → Prop
def LG (K : PySem.W.Frag) (bor : List Nat) (g : TG) (tg : TDG) : Prop :=
  ∀ ⦃c : C0⦄ ⦃G : Hp⦄ ⦃σ : L2.St⦄ ⦃H : Hp⦄ ⦃ρ : List Sl⦄ ⦃v : V⦄ ⦃d : D⦄ ⦃Qd : List Sl → Prop⦄ ⦃Q : L2.St → Hp → Prop⦄, c.bor = bor → Rel K c G σ H ρ → Dq K G v d → tg d ρ Qd →
    (∀ σ' ρ', Rel K c G σ' H ρ' → Qd ρ' → Q σ' H) → g v σ H Q
def LGs (K : PySem.W.Frag) (bor : List Nat) (g : TGs) (tg : List D → List Sl → (List Sl → Prop) → Prop) : Prop :=
  ∀ ⦃c : C0⦄ ⦃G : Hp⦄ ⦃σ : L2.St⦄ ⦃H : Hp⦄ ⦃ρ : List Sl⦄ ⦃vs : List V⦄ ⦃ds : List D⦄ ⦃Qd : List Sl → Prop⦄ ⦃Q : L2.St → Hp → Prop⦄, c.bor = bor → Rel K c G σ H ρ → DqAll K G vs ds → tg ds ρ Qd →
    (∀ σ' ρ', Rel K c G σ' H ρ' → Qd ρ' → Q σ' H) → g vs σ H Q
def tgN (i : Nat) : TDG := fun d ρ Q => Q (ρ.set i (.sh d))
theorem lg_name {i : Nat} (hi : i ∉ bor) : LG K bor (gName i) (tgN i) := fun {c G σ H ρ v d Qd Q} hc R p q k =>
  k _ _ (R.store (fun a z => hi (hc ▸ R.bs _ _ z)) p) q
def tgNil : List D → List Sl → (List Sl → Prop) → Prop := fun ds ρ Q => ds = [] ∧ Q ρ
def tgCons (g : TDG) (r : List D → List Sl → (List Sl → Prop) → Prop) : List D → List Sl → (List Sl → Prop) → Prop := fun ds ρ Q => ∃ d es, ds = d :: es ∧ g d ρ fun ρ1 => r es ρ1 Q
theorem lgs_nil : LGs K bor gNil tgNil := fun {c G σ H ρ vs ds Qd Q} hc R p ⟨e, q⟩ k => by
  subst e; cases p; exact ⟨rfl, k σ ρ R q⟩
theorem lgs_cons {g : TG} {gr : TGs} {tg : TDG} {tr : List D → List Sl → (List Sl → Prop) → Prop} (h1 : LG K bor g tg) (h2 : LGs K bor gr tr) : LGs K bor (gCons g gr) (tgCons tg tr) :=
  fun {c G σ H ρ vs ds Qd Q} hc R p ⟨d, es, e, q⟩ k => by
    subst e
    cases p with
    | cons a b => exact ⟨_, _, rfl, h1 hc R a q fun σ1 ρ1 R1 q1 => h2 hc R1 b q1 k⟩
def tgTup (n : Nat) (r : List D → List Sl → (List Sl → Prop) → Prop) : TDG := fun d ρ Q => ∃ ds, d = .tuple ds ∧ ds.length = n ∧ r ds ρ Q
theorem lg_tup {n : Nat} {gr : TGs} {tr : List D → List Sl → (List Sl → Prop) → Prop} (h : LGs K bor gr tr) : LG K bor (gTup K n gr) (tgTup n tr) := fun {c G σ H ρ v d Qd Q} hc R p ⟨ds, e, hl, q⟩ k => by
  subst e
  cases p with
  | tup s a => exact ⟨_, _, rfl, (tupS R.sub s).sq, by rw [dps_len a]; exact hl, h hc R a q k⟩
def sAsg (A : TDE) (g : TDG) : TDS := fun E ρ => A ρ fun d ρ1 => g d ρ1 E.nx
theorem ls_asg {g : TG} {tg : TDG} (h : LE K bor te A) (hg : LG K bor g tg) : LS K bor (tAsg te g) (sAsg A tg) := fun {c G σ H ρ E D} hc R q l =>
  h hc R q fun v H' G' ρ' d s R' p q' => hg hc R' p q' fun σ2 ρ2 R2 q2 => l.nx s R2 q2
def sAsgL (A : TDL) (i : Nat) : TDS := fun E ρ => A ρ fun ds ρ1 => E.nx (ρ1.set i (.ow ds))
theorem ls_asgL {i : Nat} {A : TDL} (hi : i ∉ bor) (h : LL K bor te A) : LS K bor (tAsg te (gName i)) (sAsgL A i) := fun {c G σ H ρ E D} hc R q l =>
  h hc R q fun a vs H' G' ρ' ds s R' m p q' => l.nx s (R'.storeO (fun a z => hi (hc ▸ R'.bs _ _ z)) m p) q'


def ownL (j : Nat) (ρ : List Sl) : Option (List D) := match ρ[j]? with
  | some (.ow xs) => some xs
  | _ => none

def plainAt (j : Nat) (ρ : List Sl) : Bool := match ρ[j]? with
  | some (.ow _) => false
  | some (.od _) => false
  | some (.lk _ _ _ _) => false
  | some (.tp _) => false
  | _ => true
theorem plain_at {j : Nat} {ρ : List Sl} {s : Sl} (h : plainAt j ρ = true) (e : ρ[j]? = some s) {G : Hp} {o : Option (Option V)} {b : Addr} : ¬ Owns G s o b := by
  unfold plainAt at h
  rw [e] at h
  cases s <;> first | exact id | cases h
theorem ownL_some {j : Nat} {ρ : List Sl} {xs : List D} (h : ownL j ρ = some xs) : ρ[j]? = some (.ow xs) := by
  unfold ownL at h
  split at h
  · rename_i ys e; injection h with h; subst h; exact e
  · cases h
theorem ow_val {c : C0} {G : Hp} {σ : L2.St} {H : Hp} {ρ : List Sl} {j : Nat} (R : Rel K c G σ H ρ) (h : (ownL j ρ).isSome = true) : ∃ a, σ[j]? = some (some (.ref a)) ∧ ∃ vs, H a = some (.lst vs) := by
  obtain ⟨xs, e⟩ := Option.isSome_iff_exists.mp h
  obtain ⟨a, vs, e1, e2, _⟩ := R.owAt (ownL_some e)
  exact ⟨a, e1, vs, e2⟩
theorem ow_at {c : C0} {G : Hp} {σ : L2.St} {H : Hp} {ρ : List Sl} {j : Nat} {xs : List D} {a : Addr} (R : Rel K c G σ H ρ) (h : ownL j ρ = some xs) (ha : σ[j]? = some (some (.ref a))) : ∃ vs, H a = some (.lst vs) ∧ DqAll K G vs xs := by
  obtain ⟨b, vs, e1, e2, e3, _⟩ := R.owAt (ownL_some h)
  rw [ha] at e1
  injection e1 with e1; injection e1 with e1; injection e1 with e1; subst e1
  exact ⟨vs, e2, e3⟩
theorem sz5 {n : Nat} (h : n < 100000) : n < sizeLine := Nat.lt_of_lt_of_le h (by decide)
theorem tyL {H : Hp} {a : Addr} {vs : List V} (h : H a = some (.lst vs)) : tyV K "list" (.ref a) H := .inl ⟨rfl, _, SqL.of h⟩

def dAppend (j : Nat) (A : TDE) : TDE := fun ρ Q => (ownL j ρ).isSome = true ∧ A ρ fun d ρ1 => ∃ xs, ownL j ρ1 = some xs ∧ xs.length < 100000 ∧ Q .none (ρ1.set j (.ow (xs ++ [d])))
theorem le_append {j : Nat} (h : LE K bor te A) : LE K bor (tBM K "list" rAppend (tVar j) (tCons te tNil)) (dAppend j A) := fun {c G σ H ρ Qd Q} hc R ⟨q0, q⟩ k => by
  obtain ⟨a, e1, vs0, e2⟩ := ow_val R q0
  refine ⟨_, e1, tyL e2, h hc R q fun v H1 G1 ρ1 d s R1 p1 ⟨xs, f1, f2, q1⟩ => ?_⟩
  obtain ⟨vs, f3, f4⟩ := ow_at R1 f1 e1
  refine ⟨a, vs, v, rfl, rfl, f3, sz5 (by rw [dps_len f4]; exact f2), k _ _ G1 _ .none s ?_ .non q1⟩
  exact R1.change (ownL_some f1) e1 (dps_app f4 (.cons p1 .nil))

abbrev rInsH : V → List V → Hp → VK → Prop := fun x vs H Q => ∃ (l : Addr) (xs : List V) (i : Int) (y : V), x = .ref l ∧ vs = [.int i, y] ∧ H l = some (.lst xs) ∧ xs.length < sizeLine ∧ 0 ≤ i ∧ i < 2 ^ 63 ∧
  Q .non (upd H l (.lst (xs.take i.toNat ++ [y] ++ xs.drop i.toNat)))
def dInsert (j : Nat) (A B : TDE) : TDE := fun ρ Q => (ownL j ρ).isSome = true ∧ A ρ fun i ρ1 => B ρ1 fun d ρ2 => ∃ xs n, ownL j ρ2 = some xs ∧ xs.length < 100000 ∧ i = .int n ∧ 0 ≤ n ∧ n < 2 ^ 63 ∧
  Q .none (ρ2.set j (.ow (xs.take n.toNat ++ d :: xs.drop n.toNat)))
theorem le_insert {j : Nat} {ti : TE} (hi : LE K bor ti A) (h : LE K bor te B) : LE K bor (tBM K "list" rInsH (tVar j) (tCons ti (tCons te tNil))) (dInsert j A B) := fun {c G σ H ρ Qd Q} hc R ⟨q0, q⟩ k => by
  obtain ⟨a, e1, vs0, e2⟩ := ow_val R q0
  refine ⟨_, e1, tyL e2, hi hc R q fun iv H0 G0 ρ0 id s0 R0 p0 q' => h hc R0 q' fun v H1 G1 ρ1 d s R1 p1 ⟨xs, n, f1, f2, f0, n0, n1, q1⟩ => ?_⟩
  subst f0
  cases p0
  obtain ⟨vs, f3, f4⟩ := ow_at R1 f1 e1
  refine ⟨a, vs, n, v, rfl, rfl, f3, sz5 (by rw [dps_len f4]; exact f2), n0, n1, k _ _ G1 _ .none (s0.trans s) ?_ .non q1⟩
  have pz := dps_app (dps_app (dps_take n.toNat f4) (.cons p1 .nil)) (dps_drop n.toNat f4)
  have ez : xs.take n.toNat ++ [d] ++ xs.drop n.toNat = xs.take n.toNat ++ d :: xs.drop n.toNat := by simp
  rw [ez] at pz
  exact R1.change (ownL_some f1) e1 pz
theorem dps_erase {G : Hp} : ∀ {ds : List D} {vs : List V} (k : Nat), DqAll K G vs ds → DqAll K G (vs.eraseIdx k) (ds.eraseIdx k)
  | [], _, k, h => by cases h; simpa using DqAll.nil
  | d :: ds, _, k, h => by
    cases h with
    | cons a b =>
      cases k with
      | zero => exact b
      | succ k => exact .cons a (dps_erase k b)

def dPopAt (j : Nat) (A : TDE) : TDE := fun ρ Q => (ownL j ρ).isSome = true ∧ A ρ fun i ρ1 => ∃ xs n k d, ownL j ρ1 = some xs ∧ xs.length ≤ 100000 ∧ i = .int n ∧ ixN xs.length n = some k ∧ xs[k]? = some d ∧ Q d (ρ1.set j (.ow (xs.eraseIdx k)))
theorem le_popAt {j : Nat} (h : LE K bor te A) : LE K bor (tBM K "list" rPopAt (tVar j) (tCons te tNil)) (dPopAt j A) := fun {c G σ H ρ Qd Q} hc R ⟨q0, q⟩ k => by
  obtain ⟨a, e1, vs0, e2⟩ := ow_val R q0
  refine ⟨_, e1, tyL e2, h hc R q fun v H1 G1 ρ1 d s R1 p1 ⟨xs, n, m, y, f1, f2, f0, f5, f6, q1⟩ => ?_⟩
  subst f0
  cases p1
  obtain ⟨vs, f3, f4⟩ := ow_at R1 f1 e1
  obtain ⟨g1, g2, g3, g4⟩ := ixN_seq f5
  obtain ⟨v, f7, f8⟩ := dps_of f4 f6
  refine ⟨a, vs, n, m, v, rfl, rfl, f3, by omega, by omega, by rw [dps_len f4]; exact g1, f7, k _ _ G1 _ y s ?_ f8 q1⟩
  exact R1.change (ownL_some f1) e1 (dps_erase _ f4)

def sStore (j : Nat) (A B : TDE) : TDS := fun E ρ => A ρ fun d ρ1 => (ownL j ρ1).isSome = true ∧ B ρ1 fun i ρ2 => ∃ xs n k, ownL j ρ2 = some xs ∧ i = .int n ∧ ixN xs.length n = some k ∧ E.nx (ρ2.set j (.ow (xs.set k d)))
theorem ls_store {j : Nat} {ti : TE} (h : LE K bor te A) (hi : LE K bor ti B) : LS K bor (tAsg te (gSub (tVar j) ti rSetL)) (sStore j A B) := fun {c G σ H ρ E D} hc R q l =>
  h hc R q fun v H1 G1 ρ1 d s1 R1 p1 ⟨q0, q1⟩ => by
    obtain ⟨a, e1, vs0, e2⟩ := ow_val R1 q0
    refine ⟨_, e1, hi hc R1 q1 fun w H2 G2 ρ2 i s2 R2 p2 ⟨xs, n, m, f1, f2, f3, q2⟩ => ?_⟩
    subst f2
    cases p2
    obtain ⟨vs, f5, f4⟩ := ow_at R2 f1 e1
    refine ⟨a, vs, n, m, rfl, rfl, f5, by rw [dps_len f4]; exact f3, l.nx (s1.trans s2) (R2.change (ownL_some f1) e1 (dps_set (dpS s2 p1) m f4)) q2⟩

def dReverse (j : Nat) : TDE := fun ρ Q => ∃ xs, ownL j ρ = some xs ∧ Q .none (ρ.set j (.ow xs.reverse))


def forD (g : TDG) (B : TDS) (E : DEnds) : List D → List Sl → Prop
  | [], ρ => E.nx ρ
  | d :: ds, ρ => g d ρ fun ρ1 => B { E with nx := forD g B E ds, ct := forD g B E ds, bk := E.nx } ρ1
theorem for_links {c : C0} {G0 G : Hp} {E : DEnds} {D : Ends} {W : List Sl → Prop} {N : L2.St → Hp → Prop} (l : Links K c G E D) (hN : ∀ {G' σ' H' ρ'}, Same G G' → Rel K c G' σ' H' ρ' → W ρ' → N σ' H') :
    Links K c G { E with nx := W, ct := W, bk := E.nx } { D with nx := N, ct := N, bk := D.nx } :=
  ⟨fun s R q => hN s R q, fun s => l.rt s, fun s R q => l.nx s R q, fun s R q => hN s R q⟩
def sForL (A : TDE) (g : TDG) (B : TDS) : TDS := fun E ρ => A ρ fun d ρ1 => ∃ ds, d = .list ds ∧ forD g B E ds ρ1
def sForT (A : TDE) (g : TDG) (B : TDS) : TDS := fun E ρ => A ρ fun d ρ1 => ∃ ds, d = .tuple ds ∧ forD g B E ds ρ1
theorem ls_forT {tl : TE} {g : TG} {tg : TDG} (h : LE K bor tl A) (hg : LG K bor g tg) (hb : LS K bor t S) : LS K bor (tFor (iTup K tl) g t) (sForT A tg S) := fun {c G σ H ρ E D} hc R q l =>
  h hc R q fun v H1 G1 ρ1 d s1 R1 p1 ⟨ds, e, q1⟩ => by
    subst e
    cases p1 with
    | @tup a xs _ h1 h2 =>
      refine ⟨a, rfl, ⟨xs, (tupS R1.sub h1).sq⟩, for_tup (K := K) (a := a) (xs := xs) (fun i σ' H' => ∃ G' ρ', Same G1 G' ∧ Rel K c G' σ' H' ρ' ∧ forD tg S E (ds.drop i) ρ') ⟨G1, ρ1, Same.refl _, R1, q1⟩ ?_ ?_ ?_⟩
      · rintro i σ' H' _ ⟨G', ρ', s, R', _⟩
        exact (tupS (s.trans R'.sub) h1).sq
      · rintro i x σ' H' hx ⟨G', ρ', s, R', q'⟩
        obtain ⟨d, hd, p⟩ := dps_get h2 hx
        have hi : i < ds.length := (List.getElem?_eq_some_iff.mp hd).1
        have ed : ds.drop i = d :: ds.drop (i + 1) := by
          rw [List.drop_eq_getElem_cons hi]
          have := (List.getElem?_eq_some_iff.mp hd).2
          rw [this]
        rw [ed] at q'
        refine hg hc R' (dpS s p) q' fun σ2 ρ2 R2 q2 => ?_
        exact hb hc R2 q2 (for_links (G0 := G) (l.mono (s1.trans s)) fun s3 R3 q3 => ⟨_, _, s.trans s3, R3, q3⟩)
      · rintro σ' H' ⟨G', ρ', s, R', q'⟩
        rw [dps_len h2, List.drop_length] at q'
        exact l.nx (s1.trans s) R' q'
def rangeD (lo : Int) (n : Nat) : List D := (List.range n).map fun (k : Nat) => PyData.int (lo + k)
theorem rangeD_get {lo : Int} {n i : Nat} (h : i < n) : (rangeD lo n)[i]? = some (.int (lo + i)) := by
  unfold rangeD
  rw [List.getElem?_map, List.getElem?_range h]
  rfl
theorem rangeD_drop {lo : Int} {n i : Nat} (h : i < n) : (rangeD lo n).drop i = .int (lo + i) :: (rangeD lo n).drop (i + 1) := by
  obtain ⟨hl, e⟩ := List.getElem?_eq_some_iff.mp (rangeD_get (lo := lo) h)
  rw [List.drop_eq_getElem_cons hl, e]
def sForR (A : TDA) (g : TDG) (B : TDS) : TDS := fun E ρ => A ρ fun vs ρ1 => ∃ j, vs = [.int j] ∧ j < 2 ^ 62 ∧ -(2 ^ 62) ≤ j ∧ forD g B E (rangeD 0 j.toNat) ρ1
theorem ls_forR {ta : TA} {g : TG} {tg : TDG} {A : TDA} (h : LEs K bor ta A) (hg : LG K bor g tg) (hb : LS K bor t S) : LS K bor (tFor (iRng1 ta) g t) (sForR A tg S) := fun {c G σ H ρ E D} hc R q l =>
  h hc R q fun vs H1 G1 ρ1 ds s1 R1 p1 ⟨j, e, j1, j2, q1⟩ => by
    subst e
    cases p1 with
    | cons a b =>
      cases a
      cases b
      refine ⟨j, rfl, j2, j1, for_range (lo := 0) (n := j.toNat) (fun i σ' H' => ∃ G' ρ', Same G1 G' ∧ Rel K c G' σ' H' ρ' ∧ forD tg S E ((rangeD 0 j.toNat).drop i) ρ') ⟨G1, ρ1, Same.refl _, R1, q1⟩ ?_ ?_⟩
      · rintro i σ' H' hi ⟨G', ρ', s, R', q'⟩
        rw [rangeD_drop hi] at q'
        refine hg hc R' (.int _) q' fun σ2 ρ2 R2 q2 => ?_
        exact hb hc R2 q2 (for_links (G0 := G) (l.mono (s1.trans s)) fun s3 R3 q3 => ⟨_, _, s.trans s3, R3, q3⟩)
      · rintro σ' H' ⟨G', ρ', s, R', q'⟩
        rw [List.drop_of_length_le (by unfold rangeD; simp)] at q'
        exact l.nx (s1.trans s) R' q'
def sForR2 (A : TDA) (g : TDG) (B : TDS) : TDS := fun E ρ => A ρ fun vs ρ1 => ∃ i j, vs = [.int i, .int j] ∧ (-(2 ^ 62) ≤ i ∧ i < 2 ^ 62 ∧ -(2 ^ 62) ≤ j ∧ j < 2 ^ 62) ∧ forD g B E (rangeD i (j - i).toNat) ρ1
def whileD (C : TDT) (B : TDS) (E : DEnds) : Nat → List Sl → Prop
  | 0, _ => False
  | n + 1, ρ => C ρ fun b ρ1 => (b = true → B { E with nx := whileD C B E n, ct := whileD C B E n, bk := E.nx } ρ1) ∧ (b = false → E.nx ρ1)
def sWhile (C : TDT) (B : TDS) : TDS := fun E ρ => ∃ n, whileD C B E n ρ
theorem ls_while {tc : TT} {C : TDT} (hC : LT K bor tc C) (hb : LS K bor t S) : LS K bor (tWhile tc t) (sWhile C S) := fun {c G σ H ρ E D} hc R ⟨n, q⟩ l => by
  refine ⟨fun m σ' H' => ∃ G' ρ', Same G G' ∧ Rel K c G' σ' H' ρ' ∧ whileD C S E m ρ', ⟨n, G, ρ, Same.refl _, R, q⟩, ?_⟩
  rintro m σ' H' ⟨G', ρ', s, R', q'⟩
  cases m with
  | zero => exact q'.elim
  | succ m =>
    refine hC hc R' q' fun b H2 G2 ρ2 s2 R2 ⟨q1, q2⟩ => ?_
    cases b with
    | true =>
      refine iteT ⟨fun σ3 H3 => ∃ G3 ρ3, Same G G3 ∧ Rel K c G3 σ3 H3 ρ3 ∧ whileD C S E m ρ3, fun σ3 H3 w => ⟨m, Nat.lt_succ_self _, w⟩, ?_⟩
      exact hb hc R2 (q1 rfl) (for_links (G0 := G) (l.mono (s.trans s2)) fun s3 R3 q3 => ⟨_, _, (s.trans s2).trans s3, R3, q3⟩)
    | false => exact iteF (l.nx (s.trans s2) R2 (q2 rfl))


theorem LB.g {tc : TT} {f : List Sl → Option Bool} (h : LB K bor tc f) : LT K bor tc (dB f) := fun {_ _ _ _ _ _ _} hc R ⟨b, e, q⟩ k => h hc R e fun G' H' g => k b H' G' _ g.g (R.grow g) q
def asBool (f : FE) : List Sl → Option Bool := fun ρ => match f ρ with
  | some (.bool b) => some b
  | _ => none
theorem lb_test {f : FE} (h : LM K bor te f) : LB K bor (tTest te) (asBool f) := fun {c G σ H ρ b Q} hc R e k => by
  unfold asBool at e
  split at e
  · rename_i b' e1
    injection e with e; subst e
    exact h hc R e1 fun v G' H' g p => ⟨b', p.bl, k G' H' g⟩
  · cases e
theorem lb_B {f : FE} (h : LM K bor te f) : LB K bor (tB te) (asBool f) := lb_test h
def dTest (A : TDE) : TDT := fun ρ Q => A ρ fun d ρ1 => ∃ b, d = .bool b ∧ Q b ρ1
theorem lt_test (h : LE K bor te A) : LT K bor (tTest te) (dTest A) := fun {c G σ H ρ Qd Q} hc R q k =>
  h hc R q fun v H' G' ρ' d s R' p ⟨b, e, q'⟩ => by
    subst e; cases p; exact ⟨b, rfl, k b H' G' ρ' s R' q'⟩
theorem lt_B (h : LE K bor te A) : LT K bor (tB te) (dTest A) := lt_test h
variable {tc td : TT} {C C' : TDT} {b1 b2 : List Sl → Option Bool}
def dAnd (C C' : TDT) : TDT := fun ρ Q => C ρ fun b ρ1 => (b = true → C' ρ1 Q) ∧ (b = false → Q false ρ1)
def dOr (C C' : TDT) : TDT := fun ρ Q => C ρ fun b ρ1 => (b = true → Q true ρ1) ∧ (b = false → C' ρ1 Q)
theorem lt_or (h1 : LT K bor tc C) (h2 : LT K bor td C') : LT K bor (tOr tc td) (dOr C C') := fun {c G σ H ρ Qd Q} hc R q k =>
  h1 hc R q fun b H1 G1 ρ1 s1 R1 ⟨q1, q2⟩ => by
    cases b with
    | true => exact iteT (k true H1 G1 ρ1 s1 R1 (q1 rfl))
    | false => exact iteF (h2 hc R1 (q2 rfl) fun b H2 G2 ρ2 s2 R2 q' => k b H2 G2 ρ2 (s1.trans s2) R2 q')
def dNot (C : TDT) : TDT := fun ρ Q => C ρ fun b ρ1 => Q (!b) ρ1
theorem lt_not (h1 : LT K bor tc C) : LT K bor (tNot tc) (dNot C) := fun {c G σ H ρ Qd Q} hc R q k => h1 hc R q fun b H1 G1 ρ1 s1 R1 q' => k (!b) H1 G1 ρ1 s1 R1 q'
def bAnd (f g : List Sl → Option Bool) : List Sl → Option Bool := fun ρ => match f ρ with
  | some true => g ρ
  | some false => some false
  | none => none
def bOr (f g : List Sl → Option Bool) : List Sl → Option Bool := fun ρ => match f ρ with
  | some true => some true
  | some false => g ρ
  | none => none
theorem lb_or (h1 : LB K bor tc b1) (h2 : LB K bor td b2) : LB K bor (tOr tc td) (bOr b1 b2) := fun {c G σ H ρ b Q} hc R e k => by
  unfold bOr at e
  split at e
  · rename_i e1
    injection e with e; subst e
    exact h1 hc R e1 fun G1 H1 g1 => iteT (k G1 H1 g1)
  · rename_i e1
    exact h1 hc R e1 fun G1 H1 g1 => iteF (h2 hc (R.grow g1) e fun G2 H2 g2 => k G2 H2 (g1.trans g2))
  · cases e
def bNot (f : List Sl → Option Bool) : List Sl → Option Bool := fun ρ => (f ρ).map (!·)
theorem lb_not (h1 : LB K bor tc b1) : LB K bor (tNot tc) (bNot b1) := fun {c G σ H ρ b Q} hc R e k => by
  unfold bNot at e
  cases e1 : b1 ρ with
  | none => rw [e1] at e; cases e
  | some b' =>
    rw [e1] at e
    injection e with e; subst e
    exact h1 hc R e1 fun G1 H1 g1 => k G1 H1 g1

variable {ta tb : TE} {f g : FE}
def fAndV (f g : FE) : FE := fun ρ => match f ρ with
  | some (.bool true) => g ρ
  | some (.bool false) => some (.bool false)
  | _ => none
theorem lp_andV (h1 : LM K bor ta f) (h2 : LP K bor tb g) : LP K bor (tAndV ta tb) (fAndV f g) := fun {c G σ H ρ d Q} hc R e k => by
  unfold fAndV at e
  split at e
  · rename_i e1
    exact h1 hc R e1 fun v G1 H1 g1 p1 => ⟨true, p1.bl, iteT (h2 hc (R.grow g1) e fun u G2 H2 g2 p2 => k u G2 H2 (g1.trans g2) p2)⟩
  · rename_i e1
    injection e with e; subst e
    exact h1 hc R e1 fun v G1 H1 g1 p1 => ⟨false, p1.bl, iteF (k _ G1 H1 g1 (.bl _))⟩
  · cases e
def fOrV (f g : FE) : FE := fun ρ => match f ρ with
  | some (.bool true) => some (.bool true)
  | some (.bool false) => g ρ
  | _ => none
def fNotV (f : FE) : FE := fun ρ => match f ρ with
  | some (.bool b) => some (.bool (!b))
  | _ => none
def dIfE (C : TDT) (A B : TDE) : TDE := fun ρ Q => C ρ fun b ρ1 => (b = true → A ρ1 Q) ∧ (b = false → B ρ1 Q)
def fIfE (b : List Sl → Option Bool) (f g : FE) : FE := fun ρ => match b ρ with
  | some true => f ρ
  | some false => g ρ
  | none => none
end
end TN
set_option Elab.async false
set_option linter.all false
set_option maxRecDepth 100000
set_option maxHeartbeats 1000000
set_option autoImplicit false
namespace TN
open PySem PySem.Spec PyProof.Rows L2
structure FnG (P : Program) (w : World) (K : PySem.W.Frag) (mg : Str → Option Value) (base : Heap) (CX : CXT) (k : Nat) (f : Addr) (fd : FuncData) (ps : List Str) (sp : Sp) : Prop where
  count : ∀ vs H Q E, sp vs H Q E → vs.length = ps.length
  go : ∀ (A : Around) (outer : List Env) (s : Shared) (H : Hp) (args : Args) (us : List Value) (vs : List V) (Q : VK) (E : XK), A.guards = some [] → Room k A → Env0 P w K mg base A outer s H →
    BindsTo s fd args (ps.zip us) → Vals vs us → sp vs H Q E → codeAny (model P w) A (.call (.ref f) args) (CR CX outer P w H s Q E) s

section
variable {P : Program} {w : World} {K : PySem.W.Frag} {mg : Str → Option Value} {base : Heap} {CX : CXT} {k : Nat} {f : Addr} {fd : FuncData} {ps : List Str} {sp : Sp}
theorem FnG.up {j : Nat} (F : FnG P w K mg base CX j f fd ps sp) (h : j ≤ k) : FnG P w K mg base CX k f fd ps sp :=
  ⟨F.count, fun A o s H a us vs Q E hg hr => F.go A o s H a us vs Q E hg (hr.mono h)⟩
theorem fnG_body {x qual : Str} {st : Stmt} {N : List Str} (F : Fun K x qual st f fd) (S : FnScope N ps (defScope st)) (hn : ∀ vs H Q E, sp vs H Q E → vs.length = ps.length)
    (body : ∀ (cdv : Value) (A : Around) (outer : List Env) (s : Shared) (H : Hp) (vs : List V) (Q : VK) (E : XK), A.guards = some [] → Room k (A.deeper (envOfC qual (defScope st) s.heap.objs.size f cdv)) → sp vs H Q E →
      ∃ t, PSs (cxOf CX P w K mg base N qual (defScope st) f cdv A outer s H E) (defBody st) t ∧ t { nx := fun _ H' => Q .non H', rt := Q } (L2.start N vs) H) :
    FnG P w K mg base CX (k + 1) f fd ps sp := by
  obtain ⟨oc, od, kV, doc, pm, an, cdv, ct, osl, hfd, hlk, hcode⟩ := F.ex
  subst hfd
  constructor
  · exact hn
  · intro A outer s H args us vs Q E hg hr he hb hv hs
    have count := hn vs H Q E hs
    have stays : ∀ b o, base.get? b = some o → s.heap.get? b = some o := fun b o e => (he.bs b o e).1
    have hK : K.In s.heap := he.mod.kin.keeps stays
    have hlim : s.heap.NoLimit := he.mod.nolimit.keeps stays
    have kinds : ∀ y ∈ ps.zip us, (defScope st).names.lookup y.1 = some .local ∨
        ((defScope st).names.lookup y.1 = some .cell ∧ ((cellsFrom (s.heap.objs.size + 1) (defScope st).names []).lookup y.1).isSome = true) := by
      rintro ⟨y, u⟩ hy
      rcases S.par y (List.of_mem_zip hy).1 with h | h
      · exact Or.inl h
      · exact Or.inr ⟨h, PySem.W.cellsFrom_some _ _ _ (Or.inl h)⟩
    apply codeAny_call_function hr.depth (hK _ _ hlk) rfl S.co S.gen rfl (PySem.W.codeRec_of hK hcode)
    apply hb
    apply wpAny_newFunctionEnv_cells S.kind kinds
    intro env eenv s1 x1
    subst eenv
    refine And.intro (hlim.keeps x1.toInCall.keep) (codeAny_func ?_)
    obtain ⟨t, ht, hq⟩ := body cdv A outer s H vs Q E hg (hr.deeper _) hs
    have I0 := inv_start (CX := CX) (E := E) (mg := mg) (K := K) S hr.hd he count hv x1
    apply wpAny_mono (ht.run [] s1 (L2.start N vs) H _ I0 hq)
    · intro fl s' hfl
      cases fl with
      | next =>
        obtain ⟨σ', H', J, q⟩ := hfl
        exact ⟨.non, H', J.os, J.bare, J.base, J.hok, rfl, q⟩
      | ret u =>
        obtain ⟨v, σ', H', J, rv, q⟩ := hfl
        exact ⟨v, H', J.os, J.bare, J.base, J.hok, rv, q⟩
      | brk => exact hfl.elim fun _ z => z.elim fun _ z => z.2.elim
      | cont => exact hfl.elim fun _ z => z.elim fun _ z => z.2.elim
    · exact fun e s' z => z
end
section
variable {X : Cx} {CX : CXT} {k : Nat} {f : Addr} {fd : FuncData} {ps ks : List Str} {sp : Sp} {E : XK} {x : Str} {p pos : Pos} {e : Expr} {es : List Expr} {t tk : TA} {kws : List Keyword}
theorem callG {pins : List (Addr × Obj)} {σ : L2.St} {H : Hp} {s : Shared} {Q : VK} {us : List Value} {vs : List V} {args : Args} (F : FnG X.prog X.w X.K X.mg X.base CX k f fd ps sp) (hg : X.A.guards = some []) (hr : Room k X.A) (hx : Passes CX X E)
    (I : Inv X pins σ H s) (hb : BindsTo s fd args (ps.zip us)) (r : Vals vs us) (h : sp vs H Q E) : codeAny (model X.prog X.w) X.A (.call (.ref f) args) (fun r s' => match r with
      | .ok (.ret v) => EP X pins σ Q v s'
      | .ok _ => False
      | .error e => X.xe e s') s := by
  refine codeAny_mono (F.go X.A X.stack s H args us vs Q E hg hr I.env0 hb r h) fun res s' hq => ?_
  cases res with
  | error e => exact hx pins σ H s e s' I hq
  | ok fl =>
    cases fl with
    | ret u => exact I.after hq
    | next => exact False.elim hq
    | brk => exact False.elim hq
    | cont => exact False.elim hq
theorem runG {pins : List (Addr × Obj)} {σ : L2.St} {H : Hp} {s : Shared} {Q : VK} {us : List Value} {vs : List V} (F : FnG X.prog X.w X.K X.mg X.base CX k f fd ps sp) (hg : X.A.guards = some []) (hr : Room k X.A) (hb : Binds X.K fd ps []) (hx : Passes CX X E)
    (I : Inv X pins σ H s) (r : Vals vs us) (h : sp vs H Q E) : wpAny (model X.prog X.w) X.A (call (.ref f) us) (EP X pins σ Q) X.xe s := by
  have hl : us.length = ps.length := by rw [← r.length]; exact F.count _ _ _ _ h
  have hb' := hb s us I.kIn (by simpa using hl)
  rw [List.append_nil] at hb'
  refine wpAny_call (codeAny_mono (callG F hg hr hx I hb' r h) fun res s' hq => ?_)
  cases res with
  | error e => exact hq
  | ok fl => cases fl <;> first | exact hq | exact hq.elim
theorem peG_call (F : FnG X.prog X.w X.K X.mg X.base CX k f fd ps sp) (hg : X.A.guards = some []) (hr : Room k X.A) (hgl : Gl X x) (hm : X.mg x = some (.ref f)) (hk : PySem.W.keepIn X.K (.ref f) = true) (hb : Binds X.K fd ps []) (hx : Passes CX X E)
    (ha : PA X (e :: es) t) (hdb : (x == ("__debug__" : Str)) = false := by decide) (he : starEach (e :: es) X.env = (false, eval e X.env) :: starEach es X.env := by rfl) (hpl : (backTo pos (starEach es X.env)).any (·.1) = false := by rfl) :
    PE X (.Call (.Name x p) (e :: es) [] pos) (tCall sp [] E t) := by
  constructor
  intro pins s σ H Q I h
  apply wpAny_Call_Name_kw
  apply ld_glob I hgl hm _ hdb
  apply PySem.W.callWith_K (h₀ := X.base) I.ok.mod.kin hk _ he hpl
  apply thn (ha.run pos pins s σ H _ I h)
  rintro us s1 ⟨vs, H1, I1, r, q⟩
  rw [List.append_nil] at q
  exact ⟨I1.kIn, runG F hg hr hb hx I1 r q⟩

structure KOnly (K : PySem.W.Frag) (fd : FuncData) (ps ks : List Str) (g : List Value → List Value) (gV : List V → List V) : Prop where
  to : ∀ (s : Shared) (ws : List Value), K.In s.heap → (g ws).length = ps.length → BindsTo s fd ⟨[], ks.zip ws⟩ (ps.zip (g ws))
  rel : ∀ {zs : List V} {ws : List Value}, Vals zs ws → Vals (gV zs) (g ws)
end
def sp0 (K : PySem.W.Frag) (sem : List D → (Sl → Prop) → Prop) : Sp := fun vs H Q _ => ∃ (G : Hp) (ds : List D) (Qd : Sl → Prop), Same G H ∧ DqAll K G vs ds ∧ sem ds Qd ∧
  ∀ v G' H' r, Grow G H G' H' → RtOk K ⟨H, G, [], []⟩ G' H' v r → Qd r → Q v H'

structure GrowAt (a : Addr) (G H G' H' : Hp) : Prop where
  h : ∀ b o, b ≠ a → H b = some o → H' b = some o
  g : Same G G'
  s : Same G' H'
  n : ∀ b, H b ≠ none → G b = none → G' b = none

def spB (K : PySem.W.Frag) (sem : List D → List D → (Sl → List D → Prop) → Prop) : Sp := fun vs H Q _ => ∃ (G : Hp) (a : Addr) (ws : List V) (xs : List D) (vr : List V) (ds : List D) (Qd : Sl → List D → Prop),
  vs = .ref a :: vr ∧ Same G H ∧ H a = some (.lst ws) ∧ G a = none ∧ DqAll K G ws xs ∧ DqAll K G vr ds ∧ sem xs ds Qd ∧
  ∀ v G' H' r ws' xs', GrowAt a G H G' H' → H' a = some (.lst ws') → DqAll K G' ws' xs' → RtOk K ⟨H, G, [(0, a)], [0]⟩ G' H' v r → Qd r xs' → Q v H'

section
variable {P : Program} {w : World} {K : PySem.W.Frag} {mg : Str → Option Value} {base : Heap} {k : Nat} {f : Addr} {fd : FuncData} {ps : List Str}
def start0 (n : Nat) (ds : List D) : List Sl := ds.map .sh ++ List.replicate (n - ds.length) .no
theorem rel_start {N : List Str} {G H : Hp} {vs : List V} {ds : List D} (s : Same G H) (p : DqAll K G vs ds) : Rel K ⟨H, G, [], []⟩ G (L2.start N vs) H (start0 N.length ds) := by
  have hl := dps_len p
  have shp : ∀ (i : Nat) (sl : Sl), (start0 N.length ds)[i]? = some sl → (∃ d, ds[i]? = some d ∧ sl = .sh d) ∨ sl = .no := fun i sl e => by
    unfold start0 at e
    by_cases hi : i < ds.length
    · rw [List.getElem?_append_left (by simpa using hi), List.getElem?_map] at e
      cases q : ds[i]? with
      | none => rw [q] at e; cases e
      | some d => rw [q] at e; injection e with e; exact .inl ⟨d, rfl, e.symm⟩
    · rw [List.getElem?_append_right (by simpa using hi), List.getElem?_replicate] at e
      split at e
      · injection e with e; exact .inr e.symm
      · cases e
  refine ⟨s, fun a o e _ => e, fun a _ h => h, by unfold L2.start start0; simp [hl], fun i sl e => ?_, fun i j sl sl' a _ e _ ob => ?_, fun i a h => (nomatch h), fun i a h => (nomatch h)⟩
  · rcases shp i sl e with ⟨d, e1, rfl⟩ | rfl
    · obtain ⟨v, e2, e3⟩ := dps_of p e1
      refine ⟨v, ?_, e3⟩
      unfold L2.start
      have hi : i < vs.length := (List.getElem?_eq_some_iff.mp e2).1
      rw [List.getElem?_append_left (by simpa using hi), List.getElem?_map, e2]
      rfl
    · trivial
  · rcases shp i _ e with ⟨d, e1, e2⟩ | e2 <;> (subst e2; exact ob.elim)
def begB (n : Nat) (xs : List D) (ds : List D) : List Sl := .ow xs :: (ds.map .sh ++ List.replicate (n - (ds.length + 1)) .no)
theorem rel_begB {N : List Str} {G H : Hp} {a : Addr} {ws vs : List V} {xs ds : List D} (s : Same G H) (ha : H a = some (.lst ws)) (hg : G a = none) (px : DqAll K G ws xs) (p : DqAll K G vs ds) :
    Rel K ⟨H, G, [(0, a)], [0]⟩ G (L2.start N (.ref a :: vs)) H (begB N.length xs ds) := by
  have hl := dps_len p
  have shp : ∀ (i : Nat) (sl : Sl), (begB N.length xs ds)[i]? = some sl → (i = 0 ∧ sl = .ow xs) ∨ (∃ j d, i = j + 1 ∧ ds[j]? = some d ∧ sl = .sh d) ∨ sl = .no := fun i sl e => by
    unfold begB at e
    cases i with
    | zero => injection e with e; exact .inl ⟨rfl, e.symm⟩
    | succ i =>
      rw [List.getElem?_cons_succ] at e
      by_cases hi : i < ds.length
      · rw [List.getElem?_append_left (by simpa using hi), List.getElem?_map] at e
        cases q : ds[i]? with
        | none => rw [q] at e; cases e
        | some d => rw [q] at e; injection e with e; exact .inr (.inl ⟨i, d, rfl, q, e.symm⟩)
      · rw [List.getElem?_append_right (by simpa using hi), List.getElem?_replicate] at e
        split at e
        · injection e with e; exact .inr (.inr e.symm)
        · cases e
  have hlen : (L2.start N (.ref a :: vs)).length = (begB N.length xs ds).length := by
    unfold L2.start begB
    simp only [List.length_append, List.length_map, List.length_cons, List.length_replicate, hl]
    omega
  have h0 : (L2.start N (.ref a :: vs))[0]? = some (some (.ref a)) := rfl
  refine ⟨s, fun a o e _ => e, fun a _ h => h, hlen, fun i sl e => ?_, fun i j sl sl' b hij e1 e2 o1 o2 => ?_, fun i b h => ?_, fun i b h => ?_⟩
  · rcases shp i sl e with ⟨rfl, rfl⟩ | ⟨j, d, rfl, e1, rfl⟩ | rfl
    · exact ⟨a, ws, h0, ha, px, hg, .inr (List.mem_singleton.mpr rfl)⟩
    · obtain ⟨v, e2, e3⟩ := dps_of p e1
      refine ⟨v, ?_, e3⟩
      unfold L2.start
      have hi : j < vs.length := (List.getElem?_eq_some_iff.mp e2).1
      rw [List.getElem?_append_left (by simpa using hi), List.getElem?_map, List.getElem?_cons_succ, e2]
      rfl
    · trivial
  · rcases shp i _ e1 with ⟨rfl, _⟩ | ⟨_, _, _, _, z⟩ | z
    · rcases shp j _ e2 with ⟨rfl, _⟩ | ⟨_, _, _, _, z⟩ | z
      · exact absurd rfl hij
      · subst z; exact o2.elim
      · subst z; exact o2.elim
    · subst z; exact o1.elim
    · subst z; exact o1.elim
  · have e := List.mem_singleton.mp h
    injection e with e1 e2
    subst e1; subst e2
    exact ⟨h0, xs, rfl⟩
  · have e := List.mem_singleton.mp h
    injection e with e1 e2
    subst e1
    exact List.mem_singleton.mpr rfl


theorem fn0 {x qual : Str} {st : Stmt} {N : List Str} {sem : List D → (Sl → Prop) → Prop} {t : TS} {T : TDS} (F : Fun K x qual st f fd) (S : FnScope N ps (defScope st)) (hn : ∀ ds Q, sem ds Q → ds.length = ps.length)
    (body : ∀ (cdv : Value) (A : Around) (outer : List Env) (s : Shared) (H : Hp) (E : XK), A.guards = some [] → Room k (A.deeper (envOfC qual (defScope st) s.heap.objs.size f cdv)) →
      PSs (cxOf CX0 P w K mg base N qual (defScope st) f cdv A outer s H E).nox (defBody st) t)
    (hl : LS K [] t T) (hs : ∀ ds Qd, sem ds Qd → T { nx := fun _ => Qd (.sh .none), rt := fun r _ => Qd r } (start0 N.length ds)) :
    FnG P w K mg base CX0 (k + 1) f fd ps (sp0 K sem) := by
  refine fnG_body F S (fun vs H Q E h => ?_) fun cdv A outer s H vs Q E hg hr h => ⟨t, (body cdv A outer s H E hg hr).nox, ?_⟩
  · obtain ⟨G, ds, Qd, _, p, q, _⟩ := h
    rw [dps_len p]; exact hn _ _ q
  · obtain ⟨G, ds, Qd, sm, p, q, fin⟩ := h
    have R := rel_start (N := N) sm p
    have grow : ∀ {G' : Hp} {σ' : L2.St} {H' : Hp} {ρ' : List Sl}, Same G G' → Rel K ⟨H, G, [], []⟩ G' σ' H' ρ' → Grow G H G' H' := fun s' R' =>
      ⟨fun b o e => R'.fr b o e fun i z => (nomatch z), s', R'.sub, fun b h1 h2 => R'.gh b h1 h2⟩
    exact hl rfl R (hs ds Qd q) ⟨fun s' R' q' => fin _ _ _ (.sh .none) (grow s' R') .non q', fun s' R' ok q' => fin _ _ _ _ (grow s' R') ok q', fun _ _ z => z.elim, fun _ _ z => z.elim⟩

theorem fnB {x qual : Str} {st : Stmt} {N : List Str} {sem : List D → List D → (Sl → List D → Prop) → Prop} {t : TS} {T : TDS} (F : Fun K x qual st f fd) (S : FnScope N ps (defScope st)) (hn : ∀ xs ds Q, sem xs ds Q → ds.length + 1 = ps.length)
    (body : ∀ (cdv : Value) (A : Around) (outer : List Env) (s : Shared) (H : Hp) (E : XK), A.guards = some [] → Room k (A.deeper (envOfC qual (defScope st) s.heap.objs.size f cdv)) →
      PSs (cxOf CX0 P w K mg base N qual (defScope st) f cdv A outer s H E).nox (defBody st) t)
    (hl : LS K [0] t T) (hs : ∀ xs ds Qd, sem xs ds Qd → T { nx := fun ρ => ∃ ys, ownL 0 ρ = some ys ∧ Qd (.sh .none) ys, rt := fun r ρ => ∃ ys, ownL 0 ρ = some ys ∧ Qd r ys } (begB N.length xs ds)) :
    FnG P w K mg base CX0 (k + 1) f fd ps (spB K sem) := by
  refine fnG_body F S (fun vs H Q E h => ?_) fun cdv A outer s H vs Q E hg hr h => ⟨t, (body cdv A outer s H E hg hr).nox, ?_⟩
  · obtain ⟨G, a, ws, xs, vr, ds, Qd, e, _, _, _, _, p, q, _⟩ := h
    rw [e, List.length_cons, dps_len p]; exact hn _ _ _ q
  · obtain ⟨G, a, ws, xs, vr, ds, Qd, e, sm, ha, hga, px, p, q, fin⟩ := h
    subst e
    have R := rel_begB (N := N) sm ha hga px p
    have grow : ∀ {G' : Hp} {σ' : L2.St} {H' : Hp} {ρ' : List Sl}, Same G G' → Rel K ⟨H, G, [(0, a)], [0]⟩ G' σ' H' ρ' → GrowAt a G H G' H' := fun s' R' =>
      ⟨fun b o hb e => R'.fr b o e fun i z => by
        have e := List.mem_singleton.mp z
        injection e with _ e2
        exact hb e2, s', R'.sub, fun b h1 h2 => R'.gh b h1 h2⟩
    have back : ∀ {G' : Hp} {σ' : L2.St} {H' : Hp} {ρ' : List Sl} {ys : List D}, Rel K ⟨H, G, [(0, a)], [0]⟩ G' σ' H' ρ' → ownL 0 ρ' = some ys → ∃ ws', H' a = some (.lst ws') ∧ DqAll K G' ws' ys := fun R' e => by
      obtain ⟨e1, _⟩ := R'.bd 0 a (List.mem_singleton.mpr rfl)
      exact ow_at R' e e1
    refine hl rfl R (hs xs ds Qd q) ⟨fun s' R' ⟨ys, e, q'⟩ => ?_, fun s' R' ok ⟨ys, e, q'⟩ => ?_, fun _ _ z => z.elim, fun _ _ z => z.elim⟩
    · obtain ⟨ws', h1, h2⟩ := back R' e
      exact fin _ _ _ (.sh .none) ws' ys (grow s' R') h1 h2 .non q'
    · obtain ⟨ws', h1, h2⟩ := back R' e
      exact fin _ _ _ _ ws' ys (grow s' R') h1 h2 ok q'
end
section
variable {K : PySem.W.Frag} {bor : List Nat} {ta : TA}
def dCall (sem : List D → (Sl → Prop) → Prop) (A : TDA) : TDE := fun ρ Q => A ρ fun ds ρ1 => sem ds fun r => ∃ d, r = .sh d ∧ Q d ρ1
theorem le_call {sem : List D → (Sl → Prop) → Prop} {A : TDA} {E : XK} (h : LEs K bor ta A) : LE K bor (tCall (sp0 K sem) [] E ta) (dCall sem A) := fun {c G σ H ρ Qd Q} hc R q k =>
  h hc R q fun vs H1 G1 ρ1 ds s1 R1 p q1 => by
    rw [List.append_nil]
    refine ⟨G1, ds, _, R1.sub, p, q1, fun v G' H' r g ok ⟨d, e, q2⟩ => ?_⟩
    subst e
    exact k v H' G' ρ1 d (s1.trans g.g) (R1.grow g) ok q2

def dCallL (sem : List D → (Sl → Prop) → Prop) (A : TDA) : TDL := fun ρ Q => A ρ fun ds ρ1 => sem ds fun r => ∃ xs, r = .ow xs ∧ Q xs ρ1
theorem mineO_of {c : C0} {G : Hp} {σ : L2.St} {H H' : Hp} {ρ : List Sl} (R : Rel K c G σ H ρ) {G' : Hp} {a : Addr} {o : HO} (g : Same G G') (hn : H a = none) (h1 : H' a = some o) (h2 : G' a = none) : MineO c G' σ H' ρ a o :=
  ⟨h1, h2, R.live hn, fun j s e z => by
    obtain ⟨⟨u, e1⟩, _⟩ := R.own e (own_back g (R.sl j s e) z)
    rw [hn] at e1; cases e1⟩
theorem mine_of {c : C0} {G : Hp} {σ : L2.St} {H H' : Hp} {ρ : List Sl} (R : Rel K c G σ H ρ) {G' : Hp} {a : Addr} {vs : List V} (g : Same G G') (hn : H a = none) (h1 : H' a = some (.lst vs)) (h2 : G' a = none) : Mine c G' σ H' ρ a vs := mineO_of R g hn h1 h2
theorem ll_call {sem : List D → (Sl → Prop) → Prop} {A : TDA} {E : XK} (h : LEs K bor ta A) : LL K bor (tCall (sp0 K sem) [] E ta) (dCallL sem A) := fun {c G σ H ρ Qd Q} hc R q k =>
  h hc R q fun vs H1 G1 ρ1 ds s1 R1 p q1 => by
    rw [List.append_nil]
    refine ⟨G1, ds, _, R1.sub, p, q1, fun v G' H' r g ok ⟨xs, e, q2⟩ => ?_⟩
    subst e
    obtain ⟨a, us, e1, e2, e3, e4, e5⟩ := ok
    subst e1
    exact k a us H' G' ρ1 xs (s1.trans g.g) (R1.grow g) (mine_of R1 g.g e4 e2 e3) e5 q2

theorem Rel.after {c : C0} {G G' : Hp} {σ : L2.St} {H H' : Hp} {ρ : List Sl} {j : Nat} {a : Addr} {xs xs' : List D} {ws' : List V} (R : Rel K c G σ H ρ) (h : ownL j ρ = some xs) (ha : σ[j]? = some (some (.ref a)))
    (g : GrowAt a G H G' H') (h1 : H' a = some (.lst ws')) (h2 : DqAll K G' ws' xs') : Rel K c G' σ H' (ρ.set j (.ow xs')) := by
  have hj := ownL_some h
  obtain ⟨b, vs, e1, e2, e3, e4, e5⟩ := R.owAt hj
  cases refI ha e1
  exact R.rewr hj g.g g.s g.n (fun b u n e => g.h b u (fun z => n (by subst z; exact ha)) e) ⟨a, ws', ha, h1, h2, g.n a (by rw [e2]; simp) e4, e5⟩ (fun b z => z) fun _ => ⟨xs', rfl⟩

def dCallB (sem : List D → List D → (Sl → List D → Prop) → Prop) (j : Nat) (A : TDA) : TDE := fun ρ Q => (ownL j ρ).isSome = true ∧ A ρ fun ds ρ1 => ∃ xs, ownL j ρ1 = some xs ∧ sem xs ds fun r xs' => ∃ d, r = .sh d ∧ Q d (ρ1.set j (.ow xs'))
theorem le_callB {sem : List D → List D → (Sl → List D → Prop) → Prop} {A : TDA} {E : XK} {j : Nat} (h : LEs K bor ta A) : LE K bor (tCall (spB K sem) [] E (tCons (tVar j) ta)) (dCallB sem j A) := fun {c G σ H ρ Qd Q} hc R ⟨q0, q⟩ k => by
  obtain ⟨a, e1, vs0, e2⟩ := ow_val R q0
  refine ⟨_, e1, h hc R q fun vs H1 G1 ρ1 ds s1 R1 p ⟨xs, f1, q1⟩ => ?_⟩
  show spB K sem ((.ref a :: vs) ++ []) H1 Q E
  rw [List.append_nil]
  obtain ⟨b, ws, g1, g2, g3, g4, g5⟩ := R1.owAt (ownL_some f1)
  rw [e1] at g1
  injection g1 with g1; injection g1 with g1; injection g1 with g1; subst g1
  refine ⟨G1, a, ws, xs, vs, ds, _, rfl, R1.sub, g2, g4, g3, p, q1, fun v G' H' r ws' xs' g h1 h2 ok ⟨d, e, q2⟩ => ?_⟩
  subst e
  exact k v H' G' _ d (s1.trans g.g) (R1.after f1 e1 g h1 h2) ok q2
def dCallBL (sem : List D → List D → (Sl → List D → Prop) → Prop) (j : Nat) (A : TDA) : TDL := fun ρ Q => (ownL j ρ).isSome = true ∧ A ρ fun ds ρ1 => ∃ xs, ownL j ρ1 = some xs ∧ sem xs ds fun r xs' => ∃ ys, r = .ow ys ∧ Q ys (ρ1.set j (.ow xs'))
theorem ll_callB {sem : List D → List D → (Sl → List D → Prop) → Prop} {A : TDA} {E : XK} {j : Nat} (h : LEs K bor ta A) : LL K bor (tCall (spB K sem) [] E (tCons (tVar j) ta)) (dCallBL sem j A) := fun {c G σ H ρ Qd Q} hc R ⟨q0, q⟩ k => by
  obtain ⟨a, e1, vs0, e2⟩ := ow_val R q0
  refine ⟨_, e1, h hc R q fun vs H1 G1 ρ1 ds s1 R1 p ⟨xs, f1, q1⟩ => ?_⟩
  show spB K sem ((.ref a :: vs) ++ []) H1 Q E
  rw [List.append_nil]
  obtain ⟨b, ws, g1, g2, g3, g4, g5⟩ := R1.owAt (ownL_some f1)
  rw [e1] at g1
  injection g1 with g1; injection g1 with g1; injection g1 with g1; subst g1
  refine ⟨G1, a, ws, xs, vs, ds, _, rfl, R1.sub, g2, g4, g3, p, q1, fun v G' H' r ws' xs' g h1 h2 ok ⟨ys, e, q2⟩ => ?_⟩
  subst e
  obtain ⟨b, us, z1, z2, z3, z4, z5⟩ := ok
  subst z1
  refine k b us H' G' _ ys (s1.trans g.g) (R1.after f1 e1 g h1 h2) ⟨z2, z3, R1.live z4, fun i s e z => ?_⟩ z5 q2
  -- an owned place stood ahead of the call, the new one didn't
  have hj := ownL_some f1
  have old : ∃ t, ρ1[i]? = some t ∧ Owns G1 t (σ[i]?) b := by
    by_cases hi : i = j
    · subst hi
      rw [List.getElem?_set_self (List.getElem?_eq_some_iff.mp hj).1] at e
      injection e with e; subst e
      exact ⟨_, hj, z⟩
    · rw [List.getElem?_set_ne (Ne.symm hi)] at e
      exact ⟨s, e, own_back g.g (R1.sl i s e) z⟩
  obtain ⟨t, o1, o2⟩ := old
  obtain ⟨⟨u, o3⟩, _⟩ := R1.own o1 o2
  have z4 : H1 b = none := z4
  rw [o3] at z4; cases z4
end
end TN
set_option Elab.async false
set_option linter.all false
set_option maxRecDepth 100000
set_option maxHeartbeats 1000000
set_option autoImplicit false
namespace TN
open PySem PySem.Spec PyProof.Rows L2
section
variable {K : PySem.W.Frag} {c : C0} {G G' : Hp} {σ : L2.St} {H H' : Hp} {ρ : List Sl} {p : Addr} {ws : List V}
def C0.asideO (c : C0) (p : Addr) (o : HO) : C0 := { c with H := upd c.H p o, G := fun a => if a = p then none else c.G a }
abbrev C0.aside (c : C0) (p : Addr) (ws : List V) : C0 := c.asideO p (.lst ws)
variable {o u : HO}
theorem Rel.guardO (R : Rel K c G σ H ρ) (m : MineO c G σ H ρ p o) : Rel K (c.asideO p o) G σ H ρ := by
  obtain ⟨m1, m2, m3, m4⟩ := m
  refine R.move R.sub (fun a u e q => ?_) (fun a h1 h2 => ?_) (Same.refl _) rfl rfl fun b u i s e ob eb => ⟨eb, (R.own e ob).2.1, fun z => ?_⟩
  · have e : upd c.H p o a = some u := e
    by_cases ha : a = p
    · subst ha; rw [upd_same] at e; injection e with e; rw [← e]; exact m1
    · rw [upd_ne ha] at e; exact R.fr a u e q
  · have h1 : upd c.H p o a ≠ none := h1
    have h2 : (if a = p then none else c.G a) = none := h2
    by_cases ha : a = p
    · subst ha; exact m2
    · rw [upd_ne ha] at h1; rw [if_neg ha] at h2; exact R.gh a h1 h2
  · show upd c.H p o b = none
    rw [upd_ne (fun z => by subst z; exact m4 i s e ob)]; exact z
theorem MineO.nb (R : Rel K c G σ H ρ) (m : MineO c G σ H ρ p o) : ∀ i, (i, p) ∉ c.B := fun i z => by
  obtain ⟨e1, xs, e2⟩ := R.bd i p z
  exact m.2.2.2 i _ e2 e1
theorem Rel.unguardO (R : Rel K (c.asideO p o) G σ H ρ) (hp : c.H p = none) (hb : ∀ i, (i, p) ∉ c.B) : Rel K c G σ H ρ ∧ MineO c G σ H ρ p o := by
  have hpH : H p = some o := R.fr p _ upd_same hb
  have hpG : G p = none := R.gh p (by show upd c.H p o p ≠ none; rw [upd_same]; simp) (by show (if p = p then none else c.G p) = none; rw [if_pos rfl])
  have np : ∀ (j : Nat) (s : Sl), ρ[j]? = some s → ¬ Owns G s (σ[j]?) p := fun j s e ob => by
    rcases (R.own e ob).2.2 with z | z
    · have z : upd c.H p o p = none := z
      rw [upd_same] at z; cases z
    · exact hb j z
  refine ⟨R.move R.sub (fun a u e q => ?_) (fun a h1 h2 => ?_) (Same.refl _) rfl rfl fun b u i s e ob eb => ⟨eb, (R.own e ob).2.1, fun z => ?_⟩, hpH, hpG, hp, np⟩
  · refine R.fr a u ?_ q
    show upd c.H p o a = some u
    rw [upd_ne (fun z => by subst z; rw [hp] at e; cases e)]; exact e
  · have ha : a ≠ p := fun z => by subst z; exact h1 hp
    refine R.gh a ?_ ?_
    · show upd c.H p o a ≠ none
      rw [upd_ne ha]; exact h1
    · show (if a = p then none else c.G a) = none
      rw [if_neg ha]; exact h2
  · have z : upd c.H p o b = none := z
    rw [upd_ne (fun z => by subst z; exact np i s e ob)] at z; exact z

theorem Rel.pokeO (R : Rel K c G σ H ρ) (m : MineO c G σ H ρ p o) : Rel K c G σ (upd H p u) ρ ∧ MineO c G σ (upd H p u) ρ p u := by
  obtain ⟨m1, m2, m3, m4⟩ := m
  refine ⟨R.move (fun a x e => ?_) (fun a x e q => ?_) R.gh (Same.refl _) rfl rfl fun b x i s e ob eb => ⟨?_, (R.own e ob).2.1, id⟩, upd_same, m2, m3, m4⟩
  · rw [upd_ne (fun z => by subst z; rw [m2] at e; cases e)]; exact R.sub _ _ e
  · rw [upd_ne (fun z => by subst z; rw [m3] at e; cases e)]; exact R.fr a x e q
  · rw [upd_ne (fun z => by subst z; exact m4 i s e ob)]; exact eb
theorem Rel.guard (R : Rel K c G σ H ρ) (m : Mine c G σ H ρ p ws) : Rel K (c.aside p ws) G σ H ρ := R.guardO m
theorem Mine.nb (R : Rel K c G σ H ρ) (m : Mine c G σ H ρ p ws) : ∀ i, (i, p) ∉ c.B := MineO.nb R m
theorem Rel.unguard (R : Rel K (c.aside p ws) G σ H ρ) (hp : c.H p = none) (hb : ∀ i, (i, p) ∉ c.B) : Rel K c G σ H ρ ∧ Mine c G σ H ρ p ws := R.unguardO hp hb
theorem Rel.poke {vs : List V} (R : Rel K c G σ H ρ) (m : Mine c G σ H ρ p ws) : Rel K c G σ (upd H p (.lst vs)) ρ ∧ Mine c G σ (upd H p (.lst vs)) ρ p vs := R.pokeO m
end
theorem wipe_get (σ : L2.St) : ∀ (vs : List Nat) (i : Nat), (wipe σ vs)[i]? = if i ∈ vs then (if i < σ.length then some none else none) else σ[i]?
  | [], i => by simp [wipe]
  | v :: vs, i => by
    unfold wipe
    by_cases h : v = i
    · subst h
      rw [List.getElem?_set, wipe_length]
      simp
    · rw [List.getElem?_set_ne h, wipe_get σ vs i]
      have : i ∈ v :: vs ↔ i ∈ vs := by simp [Ne.symm h]
      by_cases hi : i ∈ vs
      · rw [if_pos hi, if_pos (this.mpr hi)]
      · rw [if_neg hi, if_neg (fun z => hi (this.mp z))]
theorem wipe_same {σ : L2.St} {vs : List Nat} {j : Nat} {x : V} (hj : j ∈ vs) : wipe ((wipe σ vs).set j (some x)) vs = wipe σ vs := by
  apply List.ext_getElem?
  intro i
  rw [wipe_get, wipe_get, List.length_set, wipe_length]
  by_cases hi : i ∈ vs
  · rw [if_pos hi, if_pos hi]
  · rw [if_neg hi, if_neg hi, List.getElem?_set_ne (fun z => by subst z; exact hi hj), wipe_get, if_neg hi]
def wipeD (ρ : List Sl) : List Nat → List Sl
  | [] => ρ
  | v :: vs => (wipeD ρ vs).set v .no
def backD (ρ ρ2 : List Sl) : List Nat → List Sl
  | [] => ρ2
  | v :: vs => (backD ρ ρ2 vs).set v (ρ.getD v .no)
theorem backD_len (ρ ρ2 : List Sl) : ∀ vs, (backD ρ ρ2 vs).length = ρ2.length
  | [] => rfl
  | v :: vs => by unfold backD; rw [List.length_set, backD_len ρ ρ2 vs]
theorem backD_get (ρ ρ2 : List Sl) : ∀ (vs : List Nat) (i : Nat), (backD ρ ρ2 vs)[i]? = if i ∈ vs then (if i < ρ2.length then some (ρ.getD i .no) else none) else ρ2[i]?
  | [], i => by simp [backD]
  | v :: vs, i => by
    unfold backD
    by_cases h : v = i
    · subst h
      rw [List.getElem?_set, backD_len]
      simp
    · rw [List.getElem?_set_ne h, backD_get ρ ρ2 vs i]
      have : i ∈ v :: vs ↔ i ∈ vs := by simp [Ne.symm h]
      by_cases hi : i ∈ vs
      · rw [if_pos hi, if_pos (this.mpr hi)]
      · rw [if_neg hi, if_neg (fun z => hi (this.mp z))]
section
variable {K : PySem.W.Frag} {bor : List Nat} {c : C0} {G G' : Hp} {σ σ2 : L2.St} {H H' : Hp} {ρ ρ2 : List Sl}
theorem Rel.wiped (R : Rel K c G σ H ρ) : ∀ {vs : List Nat}, (∀ v ∈ vs, v ∉ c.bor) → Rel K c G (wipe σ vs) H (wipeD ρ vs)
  | [], _ => R
  | v :: vs, h => (Rel.wiped R (vs := vs) fun v' hv => h v' (List.mem_cons_of_mem _ hv)).forget (fun a z => h v List.mem_cons_self (R.bs _ _ z)) none

theorem Rel.unwiped {vs : List Nat} (R : Rel K c G σ H ρ) (R2 : Rel K c G' σ2 H' ρ2) (s : Same G G') (hw : wipe σ2 vs = wipe σ vs) (hn : (vs.all fun v => plainAt v ρ) = true) (hb : ∀ v ∈ vs, v ∉ c.bor) : Rel K c G' σ H' (backD ρ ρ2 vs) := by
  have hl : ρ2.length = ρ.length := by
    have := congrArg List.length hw
    rw [wipe_length, wipe_length, R2.len, R.len] at this
    exact this
  have hσ : ∀ i, i ∉ vs → σ2[i]? = σ[i]? := fun i hi => by
    have := congrArg (fun l => l[i]?) hw
    simp only [wipe_get, if_neg hi] at this
    exact this
  have now : ∀ (i : Nat) (sl : Sl) (b : Addr) (o : Option (Option V)), (backD ρ ρ2 vs)[i]? = some sl → Owns G' sl o b → i ∉ vs ∧ ρ2[i]? = some sl := fun i sl b o e ob => by
    rw [backD_get] at e
    by_cases hi : i ∈ vs
    · rw [if_pos hi] at e
      split at e
      · injection e with e
        have q := List.all_eq_true.mp hn i hi
        rw [List.getD_eq_getElem?_getD] at e
        cases q2 : ρ[i]? with
        | none => rw [q2] at e; subst e; exact ob.elim
        | some s => rw [q2] at e; have e : s = sl := e; subst e; exact absurd ob (plain_at q q2)
      · cases e
    · rw [if_neg hi] at e; exact ⟨hi, e⟩
  refine ⟨R2.sub, R2.fr, R2.gh, by rw [backD_len, hl]; exact R.len, fun i sl e => ?_, fun i j sl sl' b hij e1 e2 o1 o2 => ?_, fun i a z => ?_, R2.bs⟩
  · rw [backD_get] at e
    by_cases hi : i ∈ vs
    · rw [if_pos hi] at e
      split at e
      · injection e with e
        have q3 := List.all_eq_true.mp hn i hi
        rw [List.getD_eq_getElem?_getD] at e
        cases q : ρ[i]? with
        | none => rw [q] at e; subst e; trivial
        | some sl' =>
          rw [q] at e
          have e : sl' = sl := e
          subst e
          have ok := R.sl i _ q
          cases sl' with
          | no => trivial
          | fn f => exact ok
          | sh d => obtain ⟨v, f1, f2⟩ := ok; exact ⟨v, f1, dpS s f2⟩
          | ow ys => obtain ⟨a, _, e1, _⟩ := ok; exact absurd (show Owns G (.ow ys) (σ[i]?) a from e1) (plain_at q3 q)
          | od ys => obtain ⟨a, _, e1, _⟩ := ok; exact absurd (show Owns G (.od ys) (σ[i]?) a from e1) (plain_at q3 q)
          | lk a u ks ys => obtain ⟨e1, _⟩ := ok; exact absurd (show Owns G (.lk a u ks ys) (σ[i]?) a from e1) (plain_at q3 q)
          | tp ys => unfold plainAt at q3; rw [q] at q3; cases q3
      · cases e
    · rw [if_neg hi] at e
      have ok := R2.sl i sl e
      rw [hσ i hi] at ok
      exact ok
  · obtain ⟨h1, f1⟩ := now i sl b _ e1 o1
    obtain ⟨h2, f2⟩ := now j sl' b _ e2 o2
    rw [← hσ i h1] at o1
    rw [← hσ j h2] at o2
    exact R2.sepO i j sl sl' b hij f1 f2 o1 o2
  · have hi : i ∉ vs := fun z2 => hb i z2 (R2.bs _ _ z)
    obtain ⟨f1, ys, f2⟩ := R2.bd i a z
    rw [hσ i hi] at f1
    exact ⟨f1, ys, by rw [backD_get, if_neg hi]; exact f2⟩
theorem mineO_back {vs : List Nat} {p : Addr} {o : HO} (m : MineO c G' σ2 H' ρ2 p o) (R : Rel K c G σ H ρ) (hw : wipe σ2 vs = wipe σ vs) (hn : (vs.all fun v => plainAt v ρ) = true) : MineO c G' σ H' (backD ρ ρ2 vs) p o := by
  refine ⟨m.1, m.2.1, m.2.2.1, fun j sl e z => ?_⟩
  rw [backD_get] at e
  by_cases hi : j ∈ vs
  · rw [if_pos hi] at e
    split at e
    · injection e with e
      have q := List.all_eq_true.mp hn j hi
      rw [List.getD_eq_getElem?_getD] at e
      cases q2 : ρ[j]? with
      | none => rw [q2] at e; subst e; exact z.elim
      | some s => rw [q2] at e; have e : s = sl := e; subst e; exact plain_at q q2 z
    · cases e
  · rw [if_neg hi] at e
    refine m.2.2.2 j sl e ?_
    have := congrArg (fun l => l[j]?) hw
    simp only [wipe_get, if_neg hi] at this
    rw [this]; exact z
theorem mine_back {vs : List Nat} {p : Addr} {ws : List V} (m : Mine c G' σ2 H' ρ2 p ws) (R : Rel K c G σ H ρ) (hw : wipe σ2 vs = wipe σ vs) (hn : (vs.all fun v => plainAt v ρ) = true) : Mine c G' σ H' (backD ρ ρ2 vs) p ws := mineO_back m R hw hn
theorem wipeD_out : ∀ (us : List Nat) {ρ : List Sl} {i : Nat}, i ∉ us → (wipeD ρ us)[i]? = ρ[i]?
  | [], _, _, _ => rfl
  | u :: us, ρ, i, hu => by
    unfold wipeD
    rw [List.getElem?_set_ne (fun z => hu (by rw [z]; exact List.mem_cons_self)), wipeD_out us fun z => hu (List.mem_cons_of_mem _ z)]
theorem wipeD_in : ∀ (us : List Nat) {ρ : List Sl} {i : Nat} {s : Sl}, i ∈ us → (wipeD ρ us)[i]? = some s → s = .no
  | [], _, _, _, hu, _ => absurd hu (List.not_mem_nil)
  | u :: us, ρ, i, s, hu, e => by
    have e : ((wipeD ρ us).set u .no)[i]? = some s := e
    by_cases h : u = i
    · subst h
      by_cases hl : u < (wipeD ρ us).length
      · rw [List.getElem?_set_self hl] at e; exact (Option.some.inj e).symm
      · rw [List.getElem?_eq_none (by rw [List.length_set]; omega)] at e; exact absurd e (by simp)
    · rw [List.getElem?_set_ne h] at e
      rcases List.mem_cons.mp hu with z | z
      · exact absurd z.symm h
      · exact wipeD_in us z e

theorem mineO_wipe {vs : List Nat} {p : Addr} {o : HO} {G : Hp} {H : Hp} (m : MineO c G σ H ρ p o) : MineO c G (wipe σ vs) H (wipeD ρ vs) p o :=
  ⟨m.1, m.2.1, m.2.2.1, fun i s e z => by
    by_cases hi : i ∈ vs
    · cases wipeD_in vs hi e; exact z
    · rw [wipeD_out vs hi] at e
      rw [wipe_get, if_neg hi] at z
      exact m.2.2.2 i s e z⟩
theorem mineO_set {p : Addr} {o : HO} {G : Hp} {H : Hp} {j : Nat} {x : Option V} {s0 : Sl} (m : MineO c G σ H ρ p o) (h : ∀ q, ¬ Owns G s0 q p) : MineO c G (σ.set j x) H (ρ.set j s0) p o :=
  ⟨m.1, m.2.1, m.2.2.1, fun i s e z => by
    by_cases hi : i = j
    · subst hi
      have hl : i < ρ.length := by
        have := (List.getElem?_eq_some_iff.mp e).1
        simpa using this
      rw [List.getElem?_set_self hl] at e
      injection e with e; subst e
      exact h _ z
    · rw [List.getElem?_set_ne (Ne.symm hi)] at e z
      exact m.2.2.2 i s e z⟩
end
def compD (j : Nat) (vs : List Nat) (C : TDT) (A : TDE) (Q : List D → List Sl → Prop) : List D → List D → List Sl → Prop
  | [], acc, ρ => Q acc ρ
  | d :: ds, acc, ρ => (vs.all fun v => plainAt v ρ) = true ∧ C ((wipeD ρ vs).set j (.sh d)) fun b ρ1 =>
      (b = true → A ρ1 fun y ρ2 => acc.length < 100000 ∧ compD j vs C A Q ds (acc ++ [y]) (backD ρ ρ2 vs)) ∧ (b = false → compD j vs C A Q ds acc (backD ρ ρ1 vs))
section
variable {K : PySem.W.Frag} {bor : List Nat} {tt : TT} {te : TE} {C : TDT} {A : TDE}
theorem comp_turn {c : C0} {G0 : Hp} {σ : L2.St} {H : Hp} {ρ : List Sl} {j : Nat} {vs : List Nat} {Qd : List D → List Sl → Prop} {d : D} {ds acc : List D} {x : V} {L : Addr} {ws : List V} {Nx : Hp → Prop}
    (hc : c.bor = bor) (hj : j ∈ vs) (hv : ∀ v ∈ vs, v ∉ bor) (ht : LT K bor tt C) (he : LE K bor te A) (R : Rel K c G0 σ H ρ) (m : Mine c G0 σ H ρ L ws) (pa : DqAll K G0 ws acc) (px : Dq K G0 x d)
    (q : compD j vs C A Qd (d :: ds) acc ρ)
    (next : ∀ G' H' ρ' acc' ws', Same G0 G' → Rel K c G' σ H' ρ' → Mine c G' σ H' ρ' L ws' → DqAll K G' ws' acc' → compD j vs C A Qd ds acc' ρ' → Nx H') :
    wipe ((wipe σ vs).set j (some x)) vs = wipe σ vs ∧ tt ((wipe σ vs).set j (some x)) H fun b H3 =>
      if b = true then te ((wipe σ vs).set j (some x)) H3 fun y H4 => ∃ acc, H4 L = some (.lst acc) ∧ acc.length < sizeLine ∧ Nx (upd H4 L (.lst (acc ++ [y]))) else Nx H3 := by
  subst hc
  have hw : wipe ((wipe σ vs).set j (some x)) vs = wipe σ vs := wipe_same hj
  refine ⟨hw, ?_⟩
  obtain ⟨hn, q⟩ := q
  have nb := m.nb R
  have Rw := R.wiped (vs := vs) hv
  have mw : Mine c G0 (wipe σ vs) H (wipeD ρ vs) L ws := mineO_wipe m
  have Rx : Rel K c G0 ((wipe σ vs).set j (some x)) H ((wipeD ρ vs).set j (.sh d)) := Rw.store (fun a z => hv j hj (R.bs _ _ z)) px
  have mx : Mine c G0 ((wipe σ vs).set j (some x)) H ((wipeD ρ vs).set j (.sh d)) L ws := mineO_set mw fun _ z => z
  have Rg := Rx.guard mx
  refine ht (c := c.aside L ws) rfl Rg q fun b H3 G3 ρ3 s3 R3 ⟨q1, q2⟩ => ?_
  cases b with
  | true =>
    refine iteT (he (c := c.aside L ws) rfl R3 (q1 rfl) fun y H4 G4 ρ4 yd s4 R4 py ⟨hz, q4⟩ => ?_)
    obtain ⟨R5, m5⟩ := R4.unguard m.2.2.1 nb
    have s04 : Same G0 G4 := s3.trans s4
    refine ⟨ws, m5.1, sz5 (by rw [dps_len pa]; exact hz), ?_⟩
    have R6 := R.unwiped R5 s04 hw hn hv
    have m6 := mine_back m5 R hw hn
    obtain ⟨R7, m7⟩ := R6.poke (vs := ws ++ [y]) m6
    exact next G4 _ _ _ _ s04 R7 m7 (dps_app (dpsS s04 pa) (.cons py .nil)) q4
  | false =>
    refine iteF ?_
    obtain ⟨R5, m5⟩ := R3.unguard m.2.2.1 nb
    have R6 := R.unwiped R5 s3 hw hn hv
    have m6 := mine_back m5 R hw hn
    exact next G3 H3 _ _ _ s3 R6 m6 (dpsS s3 pa) (q2 rfl)
def dCompL (j : Nat) (vs : List Nat) (S : TDE) (C : TDT) (A : TDE) : TDL := fun ρ Q => S ρ fun d ρ1 => ∃ ds, d = .list ds ∧ compD j vs C A Q ds [] ρ1
theorem ll_compL {tl : TE} {S : TDE} {j : Nat} {vs : List Nat} (hj : j ∈ vs) (hv : ∀ v ∈ vs, v ∉ bor) (hs : LE K bor tl S) (ht : LT K bor tt C) (he : LE K bor te A) : LL K bor (tLc (iList K tl) (gName j) tt te vs) (dCompL j vs S C A) :=
  fun {c G σ H ρ Qd Q} hc R q k => hs hc R q fun v H1 G1 ρ1 d s1 R1 p1 ⟨ds, e, q1⟩ => by
    subst e
    cases p1 with
    | @lst a xs _ h1 h2 =>
      refine ⟨a, rfl, ⟨xs, rdL (rdS R1.sub h1)⟩, fun L hL => ?_⟩
      have m0 := mine_new (vs := []) R1 hL
      have R0 := R1.grow (grow_own (o := .lst []) R1.sub hL)
      refine lc_list (K := K) (a := a) (xs := xs) (fun i H' => ∃ G' ρ' acc ws, Same G1 G' ∧ Rel K c G' σ H' ρ' ∧ Mine c G' σ H' ρ' L ws ∧ DqAll K G' ws acc ∧ compD j vs C A Qd (ds.drop i) acc ρ') ⟨G1, ρ1, [], [], Same.refl _, R0, m0, .nil, q1⟩ ?_ ?_ ?_
      · rintro i H' _ ⟨G', ρ', acc, ws, s, R', _⟩
        exact rdL (rdS (s.trans R'.sub) h1)
      · rintro i x H' hx ⟨G', ρ', acc, ws, s, R', m', pa, q'⟩
        obtain ⟨d, hd, p⟩ := dps_get h2 hx
        have hi : i < ds.length := (List.getElem?_eq_some_iff.mp hd).1
        have ed : ds.drop i = d :: ds.drop (i + 1) := by
          rw [List.drop_eq_getElem_cons hi]
          have := (List.getElem?_eq_some_iff.mp hd).2
          rw [this]
        rw [ed] at q'
        exact comp_turn hc hj hv ht he R' m' pa (dpS s p) q' fun G2 H2 ρ2 acc2 ws2 s2 R2 m2 pa2 q2 => ⟨G2, ρ2, acc2, ws2, s.trans s2, R2, m2, pa2, q2⟩
      · rintro H' ⟨G', ρ', acc, ws, s, R', m', pa, q'⟩
        rw [dps_len h2, List.drop_length] at q'
        exact k L ws H' G' ρ' acc (s1.trans s) R' m' pa q'
def dCompT (j : Nat) (vs : List Nat) (S : TDE) (C : TDT) (A : TDE) : TDL := fun ρ Q => S ρ fun d ρ1 => ∃ ds, d = .tuple ds ∧ compD j vs C A Q ds [] ρ1
theorem ll_compT {tl : TE} {S : TDE} {j : Nat} {vs : List Nat} (hj : j ∈ vs) (hv : ∀ v ∈ vs, v ∉ bor) (hs : LE K bor tl S) (ht : LT K bor tt C) (he : LE K bor te A) : LL K bor (tLc (iTup K tl) (gName j) tt te vs) (dCompT j vs S C A) :=
  fun {c G σ H ρ Qd Q} hc R q k => hs hc R q fun v H1 G1 ρ1 d s1 R1 p1 ⟨ds, e, q1⟩ => by
    subst e
    cases p1 with
    | @tup a xs _ h1 h2 =>
      refine ⟨a, rfl, ⟨xs, (tupS R1.sub h1).sq⟩, fun L hL => ?_⟩
      have m0 := mine_new (vs := []) R1 hL
      have R0 := R1.grow (grow_own (o := .lst []) R1.sub hL)
      refine lc_tup (K := K) (a := a) (xs := xs) (fun i H' => ∃ G' ρ' acc ws, Same G1 G' ∧ Rel K c G' σ H' ρ' ∧ Mine c G' σ H' ρ' L ws ∧ DqAll K G' ws acc ∧ compD j vs C A Qd (ds.drop i) acc ρ') ⟨G1, ρ1, [], [], Same.refl _, R0, m0, .nil, q1⟩ ?_ ?_ ?_
      · rintro i H' _ ⟨G', ρ', acc, ws, s, R', _⟩
        exact (tupS (s.trans R'.sub) h1).sq
      · rintro i x H' hx ⟨G', ρ', acc, ws, s, R', m', pa, q'⟩
        obtain ⟨d, hd, p⟩ := dps_get h2 hx
        have hi : i < ds.length := (List.getElem?_eq_some_iff.mp hd).1
        have ed : ds.drop i = d :: ds.drop (i + 1) := by
          rw [List.drop_eq_getElem_cons hi]
          have := (List.getElem?_eq_some_iff.mp hd).2
          rw [this]
        rw [ed] at q'
        exact comp_turn hc hj hv ht he R' m' pa (dpS s p) q' fun G2 H2 ρ2 acc2 ws2 s2 R2 m2 pa2 q2 => ⟨G2, ρ2, acc2, ws2, s.trans s2, R2, m2, pa2, q2⟩
      · rintro H' ⟨G', ρ', acc, ws, s, R', m', pa, q'⟩
        rw [dps_len h2, List.drop_length] at q'
        exact k L ws H' G' ρ' acc (s1.trans s) R' m' pa q'
def dCompR (j : Nat) (vs : List Nat) (S : TDA) (C : TDT) (A : TDE) : TDL := fun ρ Q => S ρ fun ns ρ1 => ∃ n, ns = [.int n] ∧ n < 2 ^ 62 ∧ -(2 ^ 62) ≤ n ∧ compD j vs C A Q (rangeD 0 n.toNat) [] ρ1
theorem ll_compR {ta : TA} {S : TDA} {j : Nat} {vs : List Nat} (hj : j ∈ vs) (hv : ∀ v ∈ vs, v ∉ bor) (hs : LEs K bor ta S) (ht : LT K bor tt C) (he : LE K bor te A) : LL K bor (tLc (iRng1 ta) (gName j) tt te vs) (dCompR j vs S C A) :=
  fun {c G σ H ρ Qd Q} hc R q k => hs hc R q fun us H1 G1 ρ1 ds s1 R1 p1 ⟨n, e, n1, n2, q1⟩ => by
    subst e
    cases p1 with
    | cons a b =>
      cases a
      cases b
      refine ⟨n, rfl, n2, n1, fun L hL => ?_⟩
      have m0 := mine_new (vs := []) R1 hL
      have R0 := R1.grow (grow_own (o := .lst []) R1.sub hL)
      refine lc_range (lo := 0) (n := n.toNat) (fun i H' => ∃ G' ρ' acc ws, Same G1 G' ∧ Rel K c G' σ H' ρ' ∧ Mine c G' σ H' ρ' L ws ∧ DqAll K G' ws acc ∧ compD j vs C A Qd ((rangeD 0 n.toNat).drop i) acc ρ') ⟨G1, ρ1, [], [], Same.refl _, R0, m0, .nil, q1⟩ ?_ ?_
      · rintro i H' hi ⟨G', ρ', acc, ws, s, R', m', pa, q'⟩
        rw [rangeD_drop hi] at q'
        exact comp_turn hc hj hv ht he R' m' pa (.int _) q' fun G2 H2 ρ2 acc2 ws2 s2 R2 m2 pa2 q2 => ⟨G2, ρ2, acc2, ws2, s.trans s2, R2, m2, pa2, q2⟩
      · rintro H' ⟨G', ρ', acc, ws, s, R', m', pa, q'⟩
        rw [List.drop_of_length_le (by unfold rangeD; simp)] at q'
        exact k L ws H' G' ρ' acc (s1.trans s) R' m' pa q'

def dYes : TDT := fun ρ Q => Q true ρ
theorem lt_yes : LT K bor tYes dYes := fun {c G σ H ρ Qd Q} hc R q k => k true H G ρ (Same.refl _) R q
end
end TN
set_option Elab.async false
set_option linter.all false
set_option maxRecDepth 100000
set_option maxHeartbeats 4000000
set_option autoImplicit false
namespace TN
open PySem PySem.Spec PyProof.Rows
def metS (xs : List Str) : List Str := xs.foldl (fun acc x => if x ∈ acc then acc else acc ++ [x]) []
theorem metS_add (xs : List Str) (x : Str) : metS (xs ++ [x]) = if x ∈ metS xs then metS xs else metS xs ++ [x] := by
  unfold metS; rw [List.foldl_append]; rfl
theorem metS_len (xs : List Str) : (metS xs).length ≤ xs.length := by
  have key : ∀ (ys acc : List Str), (ys.foldl (fun acc x => if x ∈ acc then acc else acc ++ [x]) acc).length ≤ acc.length + ys.length := by
    intro ys
    induction ys with
    | nil => intro acc; simp
    | cons y ys ih =>
      intro acc
      rw [List.foldl_cons]
      refine Nat.le_trans (ih _) ?_
      split <;> simp <;> omega
  have h := key xs []
  rw [List.length_nil, Nat.zero_add] at h
  exact h
section
variable {pg : Program} {wd : World} {A : Around} {R : Result → Shared → Prop} {it : Addr} {fp wr : List Addr} {gg : Array GenState → Array GenState → Prop} {n : Nat} {P : Nat → Value → Prop} {St : Nat → Shared → Prop}
theorem metLoop (W : WalksS pg wd A.in1 it fp wr gg n P St) (S : Addr) (out : S ∉ fp) (xs : List Str) (size : xs.length = n) (texts : ∀ i v, P i v → ∃ t, v = .str (xs.getD i Str.empty) t) (small : n + 1 < scanBound) :
    ∀ (left i : Nat) (s : Shared), i + left = n → St i s →
      s.heap.SetOf (PySem.strKind pg wd) S (fun k => decide (k ∈ metS (xs.take i))) (metS (xs.take i)).length →
      (∀ s', Moved (S :: wr) gg s s' → s'.heap.SetOf (PySem.strKind pg wd) S (fun k => decide (k ∈ metS xs)) (metS xs).length → R (.ok (.ret .none)) s') →
      codeAny (model pg wd) A (.builtin "set.update.loop" ⟨[.ref S, .ref it], []⟩) R s := by
  have outw : S ∉ wr := fun z => out (W.sub _ z)
  have more : ∀ b ∈ wr, b ∈ S :: wr := fun b z => List.mem_cons_of_mem _ z
  have stay : ∀ {s s' : Shared} {T : Str → Bool} {m : Nat}, Moved wr gg s s' → s.heap.SetOf (PySem.strKind pg wd) S T m → s'.heap.SetOf (PySem.strKind pg wd) S T m := by
    rintro s s' T m hm ⟨o, es, ep, tb, e, rest⟩
    exact ⟨o, es, ep, tb, hm.heap S _ outw e, rest⟩
  intro left
  induction left with
  | zero =>
    intro i s hi st hS fin
    have hi : i = n := hi
    rw [hi] at st hS
    rw [← size, List.take_length] at hS
    apply codeAny_builtin PyProof.Rows.F.entry_set_update_loop
    rw [Around.under_plainId PyProof.Rows.F.plain_set_update_loop _]
    show wpAny _ A.in1 (pyNext (.ref it) >>= _) _ _ s
    apply wpAny_bind
    apply W.done s _ _ st
    intro s' hm
    show wpAny _ A.in1 (ret Value.none) _ _ s'
    exact wpAny_pure (fin s' (hm.mono more) (stay hm hS))
  | succ left ih =>
    intro i s hi st hS fin
    have lt : i < n := by omega
    apply codeAny_builtin PyProof.Rows.F.entry_set_update_loop
    rw [Around.under_plainId PyProof.Rows.F.plain_set_update_loop _]
    show wpAny _ A.in1 (pyNext (.ref it) >>= _) _ _ s
    apply wpAny_bind
    apply W.item i s _ _ lt st
    intro v s' hP st' hm
    obtain ⟨t, ew⟩ := texts i v hP
    subst ew
    have hS' := stay hm hS
    have room : (metS (xs.take i)).length + 1 < scanBound := by
      have h1 := metS_len (xs.take i)
      have h2 : (xs.take i).length ≤ n := by rw [List.length_take, size]; exact Nat.min_le_right _ _
      omega
    have item : xs[i]? = some (xs.getD i Str.empty) := by
      rw [List.getD_eq_getElem?_getD, List.getElem?_eq_getElem (by omega)]; rfl
    have next : xs.take (i + 1) = xs.take i ++ [xs.getD i Str.empty] := by rw [List.take_add_one, item]; rfl
    show wpAny _ A.in1 (holding [Value.str (xs.getD i Str.empty) t] (setAdd S (.str (xs.getD i Str.empty) t)) >>= _) _ _ s'
    apply wpAny_bind
    apply wpAny_holding
    unfold setAdd
    apply wpAny_holding
    apply wpAny_bind
    apply (PySem.strKind pg wd).pyHash (k := xs.getD i Str.empty) (strKind_is _ _ _ _)
    apply wpAny_setAddHashed_of (knd := PySem.strKind pg wd) (s := { s' with toks := s'.toks + 1 }) (strKind_is _ _ _ _) rfl hS' room
    intro h' but hS2
    have hS3 : h'.SetOf (PySem.strKind pg wd) S (fun k => decide (k ∈ metS (xs.take (i + 1)))) (metS (xs.take (i + 1))).length := by
      obtain ⟨x, ex⟩ : ∃ x, x = xs.getD i Str.empty := ⟨_, rfl⟩
      rw [← ex] at hS2 next
      refine PyProof.Rows.SetOf_congr hS2 (fun k => ?_) ?_
      · rw [next, metS_add]
        by_cases hin : x ∈ metS (xs.take i)
        · rw [if_pos hin]
          by_cases ek : k = x
          · rw [ek]; simp [hin]
          · simp [ek]
        · rw [if_neg hin]
          simp [List.mem_append, List.mem_singleton]
      · rw [next, metS_add]
        by_cases hin : x ∈ metS (xs.take i)
        · rw [if_pos hin]; simp [hin]
        · rw [if_neg hin]; simp [hin]
    refine wpAny_pure ⟨plainId_quiet PyProof.Rows.F.plain_set_update_loop _, ih (i + 1) _ (by omega) ?_ hS3 fun s'' hm2 hS4 => ?_⟩
    · apply W.frame _ s' _ _ st' (Nat.le_succ _)
      intro b hb o e
      rw [but.2 b (fun z : b = S => out (z ▸ hb))]
      exact e
    · refine fin s'' (Moved.trans W.gtrans ((hm.mono more).then_heap (Nat.le_succ _) ?_) hm2) hS4
      intro b o hb e
      rw [but.2 b (fun z : b = S => hb (by rw [z]; exact List.mem_cons_self))]
      exact e
end
section
variable {pg : Program} {wd : World} {A : Around} {E : Value → Shared → Prop} {s : Shared}
theorem setTexts {l : Addr} {items : Array Value} {xs : List Str} {Q : Value → Shared → Prop} (calm : A.handled = none) (tup : s.heap.IsTuple l items) (are : PyProof.Rows.StrsAre items.toList xs) (small : xs.length + 1 < scanBound)
    (fin : ∀ (h' : Heap) (tk : Nat), h'.SetOf (PySem.strKind pg wd) s.heap.objs.size (fun k => decide (k ∈ metS xs)) (metS xs).length → (∀ b o, b < s.heap.objs.size → s.heap.get? b = some o → h'.get? b = some o) →
      Q (.ref s.heap.objs.size) { s with heap := h', toks := tk }) : wpAny (model pg wd) A (call (.type "set") [.ref l]) Q E s := by
  obtain ⟨cc, tail, order⟩ := PySem.F.called_set.mro
  have made := PySem.F.called_set.made
  have below := PySem.F.called_set.sub
  have notT := PySem.F.called_set.notType
  have can := PySem.F.called_set.canCreate
  have checked := PySem.F.typeCall_set_1 (.ref l)
  apply wpAny_call
  apply codeAny_of_tree
  show wpAny _ _ (callAny (.type "set") _) _ _ _
  refine wpAny_pure ⟨Code.quiet_builtin _ (by decide +kernel), ?_⟩
  apply codeAny_builtin PySem.F.entry_type_call
  rw [Around.under_plain (weight_type_call_type "set" [.ref l] []) rfl]
  repeat (any_goals (first | assumption | wp_step))
  have new : ∀ led : Bool, (s.heap.push { cls := .type "set", dict := none, data := .set #[] 0 (.fresh 0 0 led) }).get? s.heap.objs.size = some { cls := .type "set", dict := none, data := .set #[] 0 (.fresh 0 0 led) } := fun led => Heap.get?_push_size _ rfl
  refine codeAny_mono (code_set_new_1 (.ref l) (E := E) (Q₁ := fun v s1 => ∃ led : Bool, v = .ref s.heap.objs.size ∧ s1 = { s with heap := s.heap.push { cls := .type "set", dict := none, data := .set #[] 0 (.fresh 0 0 led) } })
    fun led => ⟨led, rfl, rfl⟩) ?_
  intro r s1 hr
  match r, hr with
  | .error e, hr => exact hr
  | .ok .next, hr => exact hr.elim
  | .ok .brk, hr => exact hr.elim
  | .ok .cont, hr => exact hr.elim
  | .ok (.ret v), hr =>
    obtain ⟨led, rfl, rfl⟩ := hr
    have here := new led
    have isSet : Shared.TypeIs { s with heap := s.heap.push { cls := .type "set", dict := none, data := .set #[] 0 (.fresh 0 0 led) } } (.ref s.heap.objs.size) "set" := ⟨_, here, rfl⟩
    have initL := PySem.F.called_set.init.lookup
    have initB := PySem.F.called_set.init.bind (.ref s.heap.objs.size)
    repeat (any_goals (first | assumption | wp_step))
    refine codeAny_mono (codeAny_call_builtin (R := wants (fun v s2 => v = .none ∧ ∃ h' tk, s2 = { s with heap := h', toks := tk } ∧ h'.SetOf (PySem.strKind pg wd) s.heap.objs.size (fun k => decide (k ∈ metS xs)) (metS xs).length ∧
      (∀ b o, b < s.heap.objs.size → s.heap.get? b = some o → h'.get? b = some o)) E) PySem.F.called_set.init.plain PySem.F.entry_set_init (check_set_init_1 isSet ?_)) ?_
    · obtain ⟨⟨oc, od, odt, osl⟩, e1, e2, m, e3⟩ := tup
      simp only at e2 e3
      subst e2; subst e3
      have stands : (s.heap.push { cls := .type "set", dict := none, data := .set #[] 0 (.fresh 0 0 led) }).get? l = some { cls := .type "tuple", dict := od, data := .seq items m, slots := osl } := Heap.get?_push_of_some _ e1
      have sub1 : isSubtype (.type "tuple") (.type "set") = pure false := by rw [isSubtype_type]; kernel_rfl
      have sub2 : isSubtype (.type "tuple") (.type "frozenset") = pure false := by rw [isSubtype_type]; kernel_rfl
      have notD : (Value.type "tuple" == Value.type "dict") = false := by decide
      have tup1 : (s.heap.push { cls := .type "set", dict := none, data := .set #[] 0 (.fresh 0 0 led) }).IsTuple l items := ⟨_, stands, rfl, m, rfl⟩
      unfold Builtin.«set.__init__» noKeywords Builtin.Frozenset.updateFrom
      generalize hPI : pyIter = PI
      wp_walk
      subst hPI
      apply wpAny_pyIter_tuple tup1
      apply wpAny_bind
      apply wpAny_runValue
      have lsz : l < s.heap.objs.size := Heap.lt_size e1
      have calm3 : A.in1.in1.in1.handled = none := by simp [calm]
      have apart : l ≠ (s.heap.push { cls := .type "set", dict := none, data := .set #[] 0 (.fresh 0 0 led) }).objs.size := by
        rw [Heap.size_push]; exact Nat.ne_of_lt (Nat.lt_succ_of_lt lsz)
      have outS : s.heap.objs.size ∉ [(s.heap.push { cls := .type "set", dict := none, data := .set #[] 0 (.fresh 0 0 led) }).objs.size, l] := by
        rw [Heap.size_push]
        intro z
        rcases List.mem_cons.mp z with z | z
        · exact Nat.ne_of_lt (Nat.lt_succ_self _) z
        · rw [List.mem_singleton] at z
          exact Nat.ne_of_gt lsz z
      have size : xs.length = items.size := by
        have := PyProof.Rows.StrsAre.len_eq are
        rw [Array.length_toList] at this
        exact this.symm
      have texts : ∀ (i : Nat) (v : Value), items[i]? = some v → ∃ t, v = .str (xs.getD i Str.empty) t := fun i v e => SS.strs_at are i v (by rw [Array.getElem?_toList]; exact e)
      refine metLoop ((Walks.tuple calm3 _ l apart items).toS) s.heap.objs.size outS xs size texts (by omega) items.size 0 _ (by omega) ⟨⟨_, Heap.get?_push_size _ rfl, rfl, rfl⟩, tup1.push _⟩ ?_ ?_
      · have at2 : ((s.heap.push { cls := .type "set", dict := none, data := .set #[] 0 (.fresh 0 0 led) }).push { cls := .type "tuple_iterator", data := .fields #[.ref l, .int 0 0] }).get? s.heap.objs.size
            = some { cls := .type "set", dict := none, data := .set #[] 0 (.fresh 0 0 led) } := Heap.get?_push_of_some _ here
        exact PyProof.Rows.SetOf_congr ((PyProof.Rows.setObjOf_fresh (knd := PySem.strKind pg wd) led).setOf at2 (by unfold scanBound; omega)) (fun _ => rfl) rfl
      · rintro ⟨h', g', d', tk', os'⟩ hm hS'
        obtain rfl : g' = s.gens := hm.gens
        obtain rfl : d' = s.drawn := hm.drawn
        obtain rfl : os' = s.os := hm.os
        show wpAny _ _ _ _ _ _
        refine wpAny_pure ?_
        show wpAny _ _ (ret Value.none) _ _ _
        refine wpAny_pure ⟨rfl, h', tk', rfl, hS', fun b o hb e => ?_⟩
        refine hm.heap b o (fun z => ?_) (Heap.get?_push_of_some _ (Heap.get?_push_of_some _ e))
        rcases List.mem_cons.mp z with z | z
        · exact Nat.ne_of_lt hb z
        · rw [List.mem_singleton, Heap.size_push] at z
          exact Nat.ne_of_lt (Nat.lt_succ_of_lt hb) z
    · intro r2 s2 hr2
      match r2, hr2 with
      | .error e, hr2 => exact hr2
      | .ok .next, hr2 => exact hr2.elim
      | .ok .brk, hr2 => exact hr2.elim
      | .ok .cont, hr2 => exact hr2.elim
      | .ok (.ret v), hr2 =>
        obtain ⟨rfl, h', tk, rfl, hS', old⟩ := hr2
        repeat (any_goals (first | assumption | wp_step))
        exact fin _ _ hS' old
end
end TN
set_option Elab.async false
set_option linter.all false
set_option maxRecDepth 100000
set_option maxHeartbeats 4000000
set_option autoImplicit false
namespace TN
open PySem PySem.Spec PyProof.Rows
section
variable {pg : Program} {wd : World} {A : Around} {E : Value → Shared → Prop} {s : Shared}
abbrev gathered (h : Heap) (vs : List Value) : Heap := (h.push (seqObj "list" #[] 0)).update h.objs.size (Obj.mapSeq (· ++ vs.toArray))
theorem gatherT {l : Addr} {vs : List Value} {Q : List Value → Shared → Prop} (tup : s.heap.IsTuple l vs.toArray) (small : vs.length ≤ sizeLine) (fin : Q vs { s with heap := gathered s.heap vs }) :
    wpAny (model pg wd) A (collect (.ref l)) Q E s := by
  obtain ⟨o, e1, e2, n, e3⟩ := id tup
  have there : (s.heap.push (seqObj "list" #[] 0)).get? l = some o := Heap.get?_push_of_some _ e1
  have fresh : (s.heap.push (seqObj "list" #[] 0)).get? s.heap.objs.size = some (seqObj "list" #[] 0) := Heap.get?_push_size _ rfl
  unfold collect
  apply wpAny_bind
  apply wpAny_runValue
  apply codeAny_builtin entry_proto_collect'
  show wpAny _ _ (do again (.builtin "list.__iadd__" ⟨[← newList [], .ref l], []⟩)) _ _ s
  apply wpAny_bind
  refine wpAny_newList ?_ (Nat.zero_le _)
  refine wpAny_pure ⟨Code.quiet_builtin _ (by decide +kernel), ?_⟩
  apply codeAny_builtin entry_list_iadd'
  show wpAny _ _ (Builtin.List.listExtendWith (.ref s.heap.objs.size) (.ref l) (.ref s.heap.objs.size)) _ _ { s with heap := s.heap.push (seqObj "list" #[] 0) }
  unfold Builtin.List.listExtendWith
  apply wpAny_bind
  refine wpAny_typeOf (v := .ref l) (T := "tuple") ⟨o, there, e2⟩ ?_
  have isT : (Value.type "tuple" == Value.type "tuple") = true := by rfl
  rw [if_pos (by rw [isT]; simp)]
  apply wpAny_bind
  apply listItems_at there e3
  apply wpAny_bind
  apply listItems_at (xs := #[]) (n := 0) fresh rfl
  rw [if_neg (by simp)]
  apply wpAny_bind
  refine listUpdate_at (xs := #[]) (n := 0) fresh rfl ?_ (Nat.zero_le _) ?_
  · refine wpAny_pure ?_
    show wpAny (model pg wd) A (do
      let o ← load s.heap.objs.size
      match o.data with
      | .seq xs _ => pure xs.toList
      | _ => unsupported "internal:collect") Q E { s with heap := gathered s.heap vs }
    apply wpAny_bind
    apply wpAny_load (get?_update_seq fresh _)
    show wpAny _ _ (pure ((#[] : Array Value) ++ vs.toArray).toList) Q E _
    have e : ((#[] : Array Value) ++ vs.toArray).toList = vs := by simp
    rw [e]
    exact wpAny_pure fin
  · show (#[] ++ vs.toArray).size ≤ sizeLine + 1
    simp only [Array.size_append, List.size_toArray, List.length_nil]
    omega
theorem sortedT {l : Addr} {vs : List Value} {xs : List Str} {Q : Value → Shared → Prop} (tup : s.heap.IsTuple l vs.toArray) (are : StrsAre vs xs) (few : vs.length < 64)
    (fin : ∀ (out : Array Value) (ys : List Str), StrsAre out.toList ys → ys.Perm xs → sortedS ys = true → Q (.ref (s.heap.objs.size + 1)) { s with heap := sortedAll s.heap vs out }) :
    wpAny (model pg wd) A (call (.builtin "sorted") [.ref l]) Q E s := by
  apply Calls.call_function_entry kind_sorted plain_sorted entry_sorted (args_sorted1 _)
  unfold Builtin.«sorted»
  apply wpAny_bind (m := checkCount "sorted" 1 1 _)
  apply wpAny_pure
  apply wpAny_bind
  apply gatherT tup (by rw [sizeLine_eq]; omega)
  apply wpAny_bind
  refine wpAny_newList ?_ (by rw [sizeLine_eq]; omega)
  have size : (gathered s.heap vs).objs.size = s.heap.objs.size + 1 := by rw [Heap.size_update, size_push']
  have there : ((gathered s.heap vs).push (seqObj "list" vs.toArray 0)).get? (s.heap.objs.size + 1) = some (seqObj "list" vs.toArray 0) := by
    rw [← size]; exact Heap.get?_push_size _ rfl
  show wpAny _ _ _ _ _ { s with heap := (gathered s.heap vs).push (seqObj "list" vs.toArray 0) }
  rw [size]
  apply wpAny_bind
  apply wpAny_holding
  refine wpAny_call_entry slot_list_sort ⟨_, there, rfl⟩ entry_list_sort ?_ (args_list_sort _)
  refine list_sort_treeK strKind_oneLt there are.keysOf (fun v1 v2 rest e => keyKind_strs (by rw [← e]; exact are)) few fun st hp hs => ⟨_, rfl, ?_⟩
  obtain ⟨ys, h1, h2, h3⟩ := sorted_out_str are hp hs
  exact wpAny_pure ⟨_, rfl, fin _ ys h1 h2 h3⟩
end
end TN
namespace TN
open PySem PySem.Spec PyProof.Rows L2
def leS (a b : Str) : Bool := !decide (b.cps.toList < a.cps.toList)
def sortS (xs : List Str) : List Str := xs.mergeSort leS
theorem str_ext {a b : Str} (h : a.cps.toList = b.cps.toList) : a = b := by
  obtain ⟨x⟩ := a; obtain ⟨y⟩ := b
  have : x = y := by simpa using congrArg List.toArray h
  rw [this]
theorem leS_antisymm {a b : Str} (h1 : leS a b = true) (h2 : leS b a = true) : a = b := by
  unfold leS at h1 h2
  have h1 : ¬ b.cps.toList < a.cps.toList := by simpa using h1
  have h2 : ¬ a.cps.toList < b.cps.toList := by simpa using h2
  exact str_ext (List.le_antisymm h1 h2)
theorem leS_trans (a b c : Str) (h1 : leS a b = true) (h2 : leS b c = true) : leS a c = true := by
  unfold leS at *
  have h1 : ¬ b.cps.toList < a.cps.toList := by simpa using h1
  have h2 : ¬ c.cps.toList < b.cps.toList := by simpa using h2
  have : ¬ c.cps.toList < a.cps.toList := List.le_trans (l₁ := a.cps.toList) (l₂ := b.cps.toList) (l₃ := c.cps.toList) h1 h2
  simpa using this
theorem leS_total (a b : Str) : (leS a b || leS b a) = true := by
  unfold leS
  by_cases h : b.cps.toList < a.cps.toList
  · have : ¬ a.cps.toList < b.cps.toList := fun z => List.lt_asymm h z
    simp [this]
  · simp [h]
theorem rising_pairwise : ∀ {ys : List Str} {p : Str}, risingS p ys = true → (p :: ys).Pairwise (fun a b => leS a b = true)
  | [], p, _ => by simp
  | y :: ys, p, h => by
    have h : (!ltCps y.cps.toList p.cps.toList && risingS y ys) = true := h
    rw [Bool.and_eq_true] at h
    have ih := rising_pairwise h.2
    have hp : leS p y = true := by
      unfold leS
      rw [← ltCps_eq]; exact h.1
    refine List.pairwise_cons.mpr ⟨fun z hz => ?_, ih⟩
    rcases List.mem_cons.mp hz with e | hz
    · rw [e]; exact hp
    · exact leS_trans p y z hp (List.rel_of_pairwise_cons ih hz)
theorem sorted_is {xs ys : List Str} (hp : ys.Perm xs) (hs : sortedS ys = true) : ys = sortS xs := by
  have p1 : ys.Pairwise (fun a b => leS a b = true) := by
    cases ys with
    | nil => exact .nil
    | cons y ys => exact rising_pairwise hs
  have p2 : (sortS xs).Pairwise (fun a b => leS a b = true) := List.pairwise_mergeSort leS_trans leS_total xs
  exact List.Perm.eq_of_pairwise (fun a b _ _ h1 h2 => leS_antisymm h1 h2) p1 p2 (hp.trans (List.mergeSort_perm xs leS).symm)
theorem sortS_perm (xs : List Str) : (sortS xs).Perm xs := List.mergeSort_perm xs leS
theorem sortS_congr {xs ys : List Str} (h : xs.Perm ys) : sortS xs = sortS ys := by
  have p1 : (sortS xs).Pairwise (fun a b => leS a b = true) := List.pairwise_mergeSort leS_trans leS_total xs
  have p2 : (sortS ys).Pairwise (fun a b => leS a b = true) := List.pairwise_mergeSort leS_trans leS_total ys
  exact List.Perm.eq_of_pairwise (fun a b _ _ h1 h2 => leS_antisymm h1 h2) p1 p2 ((sortS_perm xs).trans (h.trans (sortS_perm ys).symm))
end TN
set_option Elab.async false
set_option linter.all false
set_option maxRecDepth 100000
set_option maxHeartbeats 2000000
set_option autoImplicit false
namespace TN
open PySem PySem.Spec PyProof.Rows L2
section
variable {X : Cx}
def rSortedA (K : PySem.W.Frag) : List V → Hp → VK → Prop := fun vs H Q => ∃ (a : Addr) (xs : List Str), vs = [V.ref a] ∧ (SqL K H a (xs.map V.str) ∨ SqT K H a (xs.map V.str)) ∧ xs.length < 64 ∧
  ∀ p, H p = none → Q (.ref p) (upd H p (.lst ((sortS xs).map V.str)))
theorem valsStr : ∀ {ys : List Str} {us : List Value}, Vals (ys.map V.str) us → StrsAre us ys
  | [], _, .nil => .nil
  | y :: ys, _, .cons r t => by
    obtain ⟨k, rfl⟩ := r
    exact .cons y k (valsStr t)
theorem strsVals : ∀ {ys : List Str} {us : List Value}, StrsAre us ys → Vals (ys.map V.str) us
  | _, _, .nil => .nil
  | _, _, .cons y k t => .cons ⟨k, rfl⟩ (strsVals t)
theorem call_sortedA : CallR X (.builtin "sorted") (rSortedA X.K) := by
  intro pins s σ H vs us Q I r h
  obtain ⟨a, xs, rfl, hs, few, q⟩ := h
  rcases hs with hs | hs
  · refine cr_sortedS pins s σ H _ us Q I r ⟨a, xs, rfl, hs, few, fun ys p hp hsort fresh => ?_⟩
    rw [sorted_is hp hsort]
    exact q p fresh
  · obtain ⟨u, rfl, ru⟩ := vals1 r
    cases ru
    obtain ⟨its, rv, tup, hz⟩ := I.tuple hs
    have hl : xs.length = its.length := by have := rv.length; simpa using this
    refine sortedT (vs := its) tup (valsStr rv) (by rw [← hl]; exact few) fun out ys h1 h2 h3 => ?_
    obtain ⟨ep, at'⟩ := PyProof.Rows.sortedAll_at s.heap its out
    have hlen : (ys.map V.str).length ≤ sizeLine := by rw [List.length_map, h2.length_eq]; exact small64 few
    have e := sorted_is h2 h3
    subst e
    exact ⟨.ref _, upd H (s.heap.objs.size + 1) (.lst ((sortS xs).map V.str)), I.laid (t' := s.toks) (fun _ _ => PyProof.Rows.sortedAll_old) (Nat.le_succ _) ⟨hlen, out.toList, ep, strsVals h1, at'⟩, rfl,
      q _ (I.hok.fresh (Nat.le_succ _))⟩

def tLenSetT (K : PySem.W.Frag) (ta : TE) : TE := fun σ H Q => ta σ H fun x H1 => ∃ l, ∃ xs : List Str, x = .ref l ∧ SqT K H1 l (xs.map V.str) ∧ xs.length < 4000 ∧ Q (.int (metS xs).length) H1
theorem pe_lenSetT {a : Expr} {ta : TE} {p p2 q pos : Pos} (hc : X.calm = true) (hg : Gl X "len") (hm : X.mg "len" = none) (hg2 : Gl X "set") (hm2 : X.mg "set" = none) (ha : PE X a ta)
    (na : starEach [a] X.env = (false, eval a X.env) :: starEach [] X.env := by rfl) : PE X (.Call (.Name "len" p) [.Call (.Name "set" p2) [a] [] q] [] pos) (tLenSetT X.K ta) := by
  constructor
  intro pins s σ H Q I h
  refine Call_ (ld_blt (pins := pins) (σ := σ) I hg hm PySem.boot_len ?_)
  refine PyProof.Rows.callWith_builtin1 (PyProof.Rows.args_cons ?_ rfl) rfl rfl
  refine Call_ (ld_blt (pins := pins) (σ := σ) I hg2 hm2 boot_set ?_)
  refine PyProof.Rows.callWith_type1 (PyProof.Rows.args_cons ?_ na) na rfl
  apply thn (ha.run pins s σ H _ I h)
  rintro v s1 ⟨x, H1, I1, r1, l, xs, rfl, hs, few, q1⟩
  apply PyProof.Rows.args_nil
  cases r1
  obtain ⟨its, rv, tup, hz⟩ := I1.tuple hs
  refine setTexts (I1.ok.hd hc) tup (by simpa using valsStr rv) (by unfold scanBound; omega) fun h' tk hS old => ?_
  apply PyProof.Rows.args_nil
  obtain ⟨o, es, ep, t, ho, hex, hd, _, _, _, hf, hn⟩ := hS
  have I2 : Inv X pins σ H1 { s1 with heap := h', toks := tk } := I1.kept fun b o e => old b o (Heap.lt_size e) e
  have most := metS_len xs
  refine call_len_set ho hex hd hf (by rw [hn]; omega) ⟨.int (metS xs).length, H1, I2.tok _, ⟨_, by rw [hn]⟩, q1⟩

def rListU (K : PySem.W.Frag) : List V → Hp → VK → Prop := fun xs H Q => (∃ p ys, xs = [V.ref p] ∧ (SqL K H p ys ∨ SqT K H p ys) ∧ ∀ l, H l = none → Q (.ref l) (upd H l (.lst ys))) ∨
  ∃ z : Str, xs = [V.str z] ∧ z.cps.size ≤ 100000 ∧ ∀ l, H l = none → Q (.ref l) (upd H l (.lst (z.cps.toList.map fun c => V.str ⟨#[c]⟩)))
theorem signs_vals {x : Str} : ∀ {its : List Value} {cs : List Nat}, its.length = cs.length → (∀ (i : Nat) (v : Value) (c : Nat), its[i]? = some v → cs[i]? = some c → ∃ t, v = .str ⟨#[c]⟩ t) → Vals (cs.map fun c => V.str ⟨#[c]⟩) its
  | [], [], _, _ => .nil
  | [], _ :: _, h, _ => by simp at h
  | _ :: _, [], h, _ => by simp at h
  | v :: its, c :: cs, h, k => .cons (k 0 v c rfl rfl) (signs_vals (x := x) (by simpa using h) fun i v c h1 h2 => k (i + 1) v c (by simpa using h1) (by simpa using h2))
theorem call_listU (hc : X.calm = true) : CallR X (.type "list") (rListU X.K) := by
  intro pins s σ H xs us Q I r h
  rcases h with h | ⟨z, rfl, hz, q⟩
  · exact call_list_of pins s σ H xs us Q I r h
  · obtain ⟨u, rfl, t, rfl⟩ := vals1 r
    refine PySem.call_list_str (I.ok.hd hc) z t (fun h' tk acc c old at' items => ?_) (Nat.le_trans hz (by decide))
    obtain ⟨sz, each⟩ := items
    have hv : Vals (z.cps.toList.map fun c => V.str ⟨#[c]⟩) acc.toList := by
      refine signs_vals (x := z) (by simpa using sz) fun i v c h1 h2 => ?_
      have h1 : acc[i]? = some v := by rw [← Array.getElem?_toList]; exact h1
      have h2 : z.cps[i]? = some c := by rw [← Array.getElem?_toList]; exact h2
      obtain ⟨c', t', e1, e2⟩ := each i v h1
      rw [h2] at e1
      injection e1 with e1
      exact ⟨t', by rw [e2, e1]⟩
    refine ⟨.ref s.heap.objs.size, upd H s.heap.objs.size (.lst (z.cps.toList.map fun c => V.str ⟨#[c]⟩)), I.laid (t' := tk) old (Nat.le_refl _) ⟨by simp; exact Nat.le_trans hz (by decide), acc.toList, c, hv, by simpa using at'⟩, rfl, q _ (I.hok.fresh (Nat.le_refl _))⟩

theorem call_tupleX : CallR X (.type "tuple") (fun xs H Q => ∃ p ys, xs = [.ref p] ∧ ((SqL X.K H p ys ∧ ∀ (l : Addr) (o : Obj), o.dict = none → H l = none → Q (.ref l) (upd H l (.frz o (.tup ys)))) ∨ (SqT X.K H p ys ∧ Q (.ref p) H))) := by
  intro pins s σ H xs us Q I r h
  obtain ⟨p, ys, rfl, h⟩ := h
  rcases h with ⟨hs, q⟩ | ⟨hs, q⟩
  · obtain ⟨u, rfl, ru⟩ := vals1 r
    cases ru
    obtain ⟨its, rv, pl, hz⟩ := I.list hs
    have e := rv.length
    apply call_tuple_list pl.isList
    · intro h' old
      have I1 : Inv X pins σ H { s with heap := h' } := I.kept (t' := s.toks) old
      exact ⟨.ref h'.objs.size, _, tup_laid I1 rv hz, rfl, q _ _ rfl (I1.hok.fresh (Nat.le_refl _))⟩
  · exact call_tuple_of pins s σ H _ us Q I r ⟨p, ys, rfl, .inr ⟨hs, q⟩⟩

end
abbrev OC := List D → Option D
def RC (K : PySem.W.Frag) (r : List V → Hp → VK → Prop) (o : OC) : Prop :=
  ∀ ⦃G H : Hp⦄ ⦃vs : List V⦄ ⦃ds : List D⦄ ⦃z : D⦄ ⦃Q : VK⦄, Same G H → Paired (DpM K G H) vs ds → o ds = some z → (∀ u G' H', Grow G H G' H' → Dq K G' u z → Q u H') → r vs H Q
def RCL (K : PySem.W.Frag) (r : List V → Hp → VK → Prop) (o : List D → Option (List D)) : Prop :=
  ∀ ⦃G H : Hp⦄ ⦃vs : List V⦄ ⦃ds : List D⦄ ⦃zs : List D⦄ ⦃Q : VK⦄, Same G H → Paired (DpM K G H) vs ds → o ds = some zs → (∀ a us, H a = none → DqAll K G us zs → Q (.ref a) (upd H a (.lst us))) → r vs H Q
section
variable {K : PySem.W.Frag} {bor : List Nat} {ta : TA} {te : TE} {r : List V → Hp → VK → Prop} {o : OC}
def fCB (o : OC) (f : FA) : FE := fun ρ => match f ρ with
  | some ds => o ds
  | none => none
def dCB (o : OC) (A : TDA) : TDE := fun ρ Q => A ρ fun ds ρ1 => ∃ z, o ds = some z ∧ Q z ρ1
theorem paired_m {G H : Hp} : ∀ {vs : List V} {ds : List D}, DqAll K G vs ds → Paired (DpM K G H) vs ds
  | _, [], h => by cases h; exact .nil
  | _, d :: ds, h => by
    cases h with
    | cons a b => exact .cons (.inl a) (paired_m b)
theorem lp_cb {f : FA} (h : LMs K bor ta f) (hr : RC K r o) : LP K bor (tCB r ta) (fCB o f) := fun {c G σ H ρ d Q} hc R e k => by
  unfold fCB at e
  split at e
  · rename_i ds e1
    exact h hc R e1 fun vs G1 H1 g1 p1 => hr g1.s p1 e fun u G2 H2 g2 p2 => k u G2 H2 (g1.trans g2) p2
  · cases e
theorem le_cb {A : TDA} (h : LEs K bor ta A) (hr : RC K r o) : LE K bor (tCB r ta) (dCB o A) := fun {c G σ H ρ Qd Q} hc R q k =>
  h hc R q fun vs H1 G1 ρ1 ds s1 R1 p1 ⟨z, e, q1⟩ => hr R1.sub (paired_m p1) e fun u G2 H2 g2 p2 => k u H2 G2 ρ1 z (s1.trans g2.g) (R1.grow g2) p2 q1
def oL (o : List D → Option (List D)) : OC := fun ds => (o ds).map .list
theorem RCL.c {o : List D → Option (List D)} (h : RCL K r o) : RC K r (oL o) := fun {G H vs ds z Q} s p e k => by
  unfold oL at e
  cases q : o ds with
  | none => rw [q] at e; cases e
  | some zs =>
    rw [q] at e
    injection e with e; subst e
    refine h s p q fun a us ha pu => ?_
    have g := grow_new (o := .lst us) s ha
    exact k _ _ _ g (.lst (sqU upd_same) (dpsS g.g pu))
def dCBL (o : List D → Option (List D)) (A : TDA) : TDL := fun ρ Q => A ρ fun ds ρ1 => ∃ zs, o ds = some zs ∧ Q zs ρ1
theorem ll_cb {o : List D → Option (List D)} {A : TDA} (h : LEs K bor ta A) (hr : RCL K r o) : LL K bor (tCB r ta) (dCBL o A) := fun {c G σ H ρ Qd Q} hc R q k =>
  h hc R q fun vs H1 G1 ρ1 ds s1 R1 p1 ⟨zs, e, q1⟩ => hr R1.sub (paired_m p1) e fun a us ha pu => k a us _ G1 ρ1 zs s1 (R1.grow (grow_own R1.sub ha)) (mine_new R1 ha) pu q1

def oLen : OC := fun ds => match ds with
  | [.list xs] => some (.int xs.length)
  | [.tuple xs] => some (.int xs.length)
  | [.str z] => if z.length ≤ 100000 then some (.int z.length) else none
  | _ => none
theorem rc_len : RC K (fun xs H Q => ∃ x n, xs = [x] ∧ LenV K x H n ∧ Q (.int n) H) oLen := fun {G H vs ds z Q} s p e k => by
  unfold oLen at e
  split at e
  · injection e with e; subst e
    cases p with
    | cons a b =>
      cases b
      obtain ⟨x, us, rfl, h1, h2⟩ := a.list s
      exact ⟨_, _, rfl, .inl ⟨us, rdL h1, rfl⟩, by rw [dps_len h2]; exact k _ G H (.refl s) (.int _)⟩
  · injection e with e; subst e
    cases p with
    | cons a b =>
      cases b
      obtain ⟨x, us, rfl, h1, h2⟩ := a.tup s
      exact ⟨_, _, rfl, .inr ⟨us, h1, rfl⟩, by rw [dps_len h2]; exact k _ G H (.refl s) (.int _)⟩
  · split at e
    · rename_i hl
      injection e with e; subst e
      cases p with
      | cons a b =>
        cases b
        cases a.str
        exact ⟨_, _, rfl, ⟨Nat.le_trans hl (by decide), rfl⟩, k _ G H (.refl s) (.int _)⟩
    · cases e
  · cases e
def oList : List D → Option (List D) := fun ds => match ds with
  | [.list xs] => some xs
  | [.tuple xs] => some xs
  | [.str z] => if z.cps.size ≤ 100000 then some (z.cps.toList.map fun c => .str ⟨#[c]⟩) else none
  | _ => none
theorem dq_signs {G : Hp} : ∀ cs : List Nat, DqAll K G (cs.map fun c => V.str ⟨#[c]⟩) (cs.map fun c => PyData.str ⟨#[c]⟩)
  | [] => .nil
  | _ :: cs => .cons (.str _) (dq_signs cs)
theorem rc_list : RCL K (rListU K) oList := fun {G H vs ds zs Q} s p e k => by
  unfold oList at e
  split at e
  · injection e with e; subst e
    cases p with
    | cons a b =>
      cases b
      obtain ⟨x, us, rfl, h1, h2⟩ := a.list s
      exact .inl ⟨_, us, rfl, .inl (rdL h1), fun l hl => k l us hl h2⟩
  · injection e with e; subst e
    cases p with
    | cons a b =>
      cases b
      obtain ⟨x, us, rfl, h1, h2⟩ := a.tup s
      exact .inl ⟨_, us, rfl, .inr h1, fun l hl => k l us hl h2⟩
  · split at e
    · rename_i hl
      injection e with e; subst e
      cases p with
      | cons a b =>
        cases b
        cases a.str
        exact .inr ⟨_, rfl, hl, fun l hn => k l _ hn (dq_signs _)⟩
    · cases e
  · cases e
def oTuple : OC := fun ds => match ds with
  | [.list xs] => some (.tuple xs)
  | [.tuple xs] => some (.tuple xs)
  | _ => none
abbrev rTupU (K : PySem.W.Frag) : List V → Hp → VK → Prop := fun xs H Q => ∃ p ys, xs = [.ref p] ∧ ((SqL K H p ys ∧ ∀ (l : Addr) (o : Obj), o.dict = none → H l = none → Q (.ref l) (upd H l (.frz o (.tup ys)))) ∨ (SqT K H p ys ∧ Q (.ref p) H))
theorem rc_tuple : RC K (rTupU K) oTuple := fun {G H vs ds z Q} s p e k => by
  unfold oTuple at e
  split at e
  · injection e with e; subst e
    cases p with
    | cons a b =>
      cases b
      obtain ⟨x, us, rfl, h1, h2⟩ := a.list s
      refine ⟨_, us, rfl, .inl ⟨rdL h1, fun l o hd hl => ?_⟩⟩
      have g := grow_new (o := .frz o (.tup us)) s hl
      exact k _ _ _ g (.tup (.inl ⟨o, upd_same, hd⟩) (dpsS g.g h2))
  · injection e with e; subst e
    cases p with
    | cons a b =>
      cases b
      rcases a with a | ⟨_, _, _, _, e, _⟩
      · cases a with
        | tup h1 h2 => exact ⟨_, _, rfl, .inr ⟨(tupS s h1).sq, k _ G H (.refl s) (.tup h1 h2)⟩⟩
      · cases e
  · cases e
def oMax : OC := fun ds => match ds with
  | [.int i, .int j] => some (.int (if j > i then j else i))
  | _ => none
theorem rc_max : RC K (fun xs H Q => ∃ i j, xs = [.int i, .int j] ∧ Q (.int (if j > i then j else i)) H) oMax := fun {G H vs ds z Q} s p e k => by
  unfold oMax at e
  split at e
  · injection e with e; subst e
    cases p with
    | cons a b =>
      cases b with
      | cons b c => cases c; cases a.int; cases b.int; exact ⟨_, _, rfl, k _ G H (.refl s) (.int _)⟩
  · cases e
def strsOf : List D → Option (List Str)
  | [] => some []
  | .str x :: ds => (strsOf ds).map (x :: ·)
  | _ :: _ => none
theorem strsOf_is : ∀ {ds : List D} {xs : List Str}, strsOf ds = some xs → ds = xs.map PyData.str
  | [], xs, e => by injection e with e; subst e; rfl
  | d :: ds, xs, e => by
    cases d <;> first | (cases e; done) | skip
    rename_i x
    have e : (strsOf ds).map (x :: ·) = some xs := e
    cases q : strsOf ds with
    | none => rw [q] at e; cases e
    | some ys =>
      rw [q] at e
      injection e with e; subst e
      rw [strsOf_is q]; rfl
theorem strsOf_map : ∀ xs : List Str, strsOf (xs.map PyData.str) = some xs
  | [] => rfl
  | x :: xs => by
    show (strsOf (xs.map PyData.str)).map (x :: ·) = some (x :: xs)
    rw [strsOf_map xs]; rfl
theorem dq_strs {G : Hp} : ∀ {xs : List Str} {vs : List V}, DqAll K G vs (xs.map PyData.str) → vs = xs.map V.str
  | [], _, h => by cases h; rfl
  | x :: xs, _, h => by
    cases h with
    | cons a b => cases a; rw [dq_strs b]; rfl
theorem dq_strs' {G : Hp} : ∀ xs : List Str, DqAll K G (xs.map V.str) (xs.map PyData.str)
  | [] => .nil
  | _ :: xs => .cons (.str _) (dq_strs' xs)
def oSorted : List D → Option (List D) := fun ds => match ds with
  | [.list xs] => (strsOf xs).bind fun ys => if ys.length < 64 then some ((sortS ys).map PyData.str) else none
  | [.tuple xs] => (strsOf xs).bind fun ys => if ys.length < 64 then some ((sortS ys).map PyData.str) else none
  | _ => none
theorem rc_sorted : RCL K (rSortedA K) oSorted := fun {G H vs ds zs Q} s p e k => by
  unfold oSorted at e
  split at e
  · rename_i xs
    cases q : strsOf xs with
    | none => rw [q] at e; cases e
    | some ys =>
      rw [q] at e
      have e : (if ys.length < 64 then some ((sortS ys).map PyData.str) else none) = some zs := e
      split at e
      · rename_i few
        injection e with e; subst e
        cases p with
        | cons a b =>
          cases b
          rw [strsOf_is q] at a
          obtain ⟨x, us, rfl, h1, h2⟩ := a.list s
          rw [dq_strs h2] at h1
          exact ⟨x, ys, rfl, .inl (rdL h1), few, fun l hl => k l _ hl (dq_strs' _)⟩
      · cases e
  · rename_i xs
    cases q : strsOf xs with
    | none => rw [q] at e; cases e
    | some ys =>
      rw [q] at e
      have e : (if ys.length < 64 then some ((sortS ys).map PyData.str) else none) = some zs := e
      split at e
      · rename_i few
        injection e with e; subst e
        cases p with
        | cons a b =>
          cases b
          rw [strsOf_is q] at a
          obtain ⟨x, us, rfl, h1, h2⟩ := a.tup s
          rw [dq_strs h2] at h1
          exact ⟨x, ys, rfl, .inr h1, few, fun l hl => k l _ hl (dq_strs' _)⟩
      · cases e
  · cases e
def oLenSet : F1 := fun d => match d with
  | .tuple xs => (strsOf xs).bind fun ys => if ys.length < 4000 then some (.int (metS ys).length) else none
  | _ => none
theorem lp_lenSet {f : FE} (h : LM K bor te f) : LP K bor (tLenSetT K te) (f1 oLenSet f) := fun {c G σ H ρ d Q} hc R e k => by
  unfold f1 at e
  split at e
  · rename_i d1 e1
    unfold oLenSet at e
    split at e
    · rename_i xs
      cases q : strsOf xs with
      | none => rw [q] at e; cases e
      | some ys =>
        rw [q] at e
        have e : (if ys.length < 4000 then some (PyData.int (metS ys).length) else none) = some d := e
        split at e
        · rename_i few
          injection e with e; subst e
          rw [strsOf_is q] at e1
          refine h hc R e1 fun v G1 H1 g1 p1 => ?_
          obtain ⟨x, us, rfl, h1, h2⟩ := p1.tup g1.s
          rw [dq_strs h2] at h1
          exact ⟨x, ys, rfl, h1, few, k _ G1 H1 g1 (.int _)⟩
        · cases e
    · cases e
  · cases e

def blsOf : List D → Option (List Bool)
  | [] => some []
  | .bool x :: ds => (blsOf ds).map (x :: ·)
  | _ :: _ => none
theorem blsOf_is : ∀ {ds : List D} {xs : List Bool}, blsOf ds = some xs → ds = xs.map PyData.bool
  | [], xs, e => by injection e with e; subst e; rfl
  | d :: ds, xs, e => by
    cases d <;> first | (cases e; done) | skip
    rename_i x
    have e : (blsOf ds).map (x :: ·) = some xs := e
    cases q : blsOf ds with
    | none => rw [q] at e; cases e
    | some ys =>
      rw [q] at e
      injection e with e; subst e
      rw [blsOf_is q]; rfl
theorem blsOf_map : ∀ xs : List Bool, blsOf (xs.map PyData.bool) = some xs
  | [] => rfl
  | x :: xs => by
    show (blsOf (xs.map PyData.bool)).map (x :: ·) = some (x :: xs)
    rw [blsOf_map xs]; rfl
theorem dq_bls {G : Hp} : ∀ {xs : List Bool} {vs : List V}, DqAll K G vs (xs.map PyData.bool) → vs = xs.map V.bl
  | [], _, h => by cases h; rfl
  | x :: xs, _, h => by
    cases h with
    | cons a b => cases a; rw [dq_bls b]; rfl
def oAll : OC := fun ds => match ds with
  | [.list xs] => (blsOf xs).map fun bs => .bool (bs.all id)
  | _ => none
theorem rc_all : RC K (rAll K) oAll := fun {G H vs ds z Q} s p e k => by
  unfold oAll at e
  split at e
  · rename_i xs
    cases q : blsOf xs with
    | none => rw [q] at e; cases e
    | some bs =>
      rw [q] at e
      injection e with e; subst e
      cases p with
      | cons a b =>
        cases b
        rw [blsOf_is q] at a
        obtain ⟨x, us, rfl, h1, h2⟩ := a.list s
        rw [dq_bls h2] at h1
        exact ⟨x, bs, rfl, rdL h1, k _ G H (.refl s) (.bl _)⟩
  · cases e
def tyD : D → String
  | .none => "NoneType"
  | .bool _ => "bool"
  | .int _ => "int"
  | .str _ => "str"
  | .list _ => "list"
  | .tuple _ => "tuple"
  | .dict _ => "dict"
inductive TyF (K : PySem.W.Frag) (H : Hp) : V → String → Prop where
  | base {x : V} {T : String} (h : TyB K H x T) : TyF K H x T
  | fD {a : Addr} {o : Obj} {kvs : List (Key × V)} (h : H a = some (.frz o (.dK kvs))) : TyF K H (.ref a) "dict"
theorem TyF.nb {K : PySem.W.Frag} {H : Hp} {x : V} {T : String} (t : TyF K H x T) : (Value.type T == Value.type "builtin_function_or_method") = false := by
  cases t with
  | base h => exact h.nb
  | fD h => decide +kernel
theorem TyF.is {X : Cx} {pins : List (Addr × Obj)} {σ : L2.St} {H : Hp} {s : Shared} {x : V} {u : Value} {T : String} (I : Inv X pins σ H s) (rx : RelV x u) (t : TyF X.K H x T) : s.TypeIs u T := by
  cases t with
  | base h => exact h.is I rx
  | @fD a o kvs h =>
    cases (show u = Value.ref a from rx)
    obtain ⟨_, _, _, vs, _, p⟩ := (show ObjOk X.prog X.w H s.heap a (.frz o (.dK kvs)) from I.hok a _ h)
    exact p.typeIs
def rTypF (K : PySem.W.Frag) : List V → Hp → VK → Prop := fun xs H Q => ∃ x T, xs = [x] ∧ TyF K H x T ∧ Q (.ty T) H
theorem call_typeF {X : Cx} : CallR X (.type "type") (rTypF X.K) := by
  intro pins s σ H xs us Q I r h
  obtain ⟨x, T, rfl, t, q⟩ := h
  obtain ⟨u, rfl, rx⟩ := vals1 r
  exact call_type_of (t.is I rx) t.nb ⟨.ty T, H, I, rfl, q⟩
theorem tyB {H : Hp} : ∀ {d : D} {v : V}, Dq K H v d → TyF K H v (tyD d)
  | .none, _, h => by cases h; exact .base .non
  | .bool _, _, h => by cases h; exact .base (.bl _)
  | .int _, _, h => by cases h; exact .base (.int _)
  | .str _, _, h => by cases h; exact .base (.str _)
  | .list _, _, h => by
    cases h with
    | lst s a => exact .base (.lst s)
  | .tuple _, _, h => by
    cases h with
    | tup s a => exact .base (.tup s.sq)
  | .dict _, _, h => by
    cases h with
    | dct s a => exact .fD s
abbrev rIsT : R2 := fun x y H Q => ∃ a b, x = V.ty a ∧ y = V.ty b ∧ Q (V.bl (decide (a = b))) H
theorem lp_typeIs {f : FE} {T : String} (h : LM K bor te f) : LP K bor (tOp rIsT (tCB (rTypF K) (tCons te tNil)) (tC (.ty T))) (f1 (fun d => some (.bool (decide (tyD d = T)))) f) := fun {c G σ H ρ d Q} hc R e k => by
  unfold f1 at e
  split at e
  · rename_i d1 e1
    injection e with e; subst e
    exact h hc R e1 fun v G1 H1 g1 p1 => ⟨v, tyD d1, rfl, tyB (p1.now g1.s), _, _, rfl, rfl, k _ G1 H1 g1 (.bl _)⟩
  · cases e
theorem lp_typeNot {f : FE} {T : String} (h : LM K bor te f) : LP K bor (tOp rNT (tCB (rTypF K) (tCons te tNil)) (tC (.ty T))) (f1 (fun d => some (.bool (!decide (tyD d = T)))) f) := fun {c G σ H ρ d Q} hc R e k => by
  unfold f1 at e
  split at e
  · rename_i d1 e1
    injection e with e; subst e
    exact h hc R e1 fun v G1 H1 g1 p1 => ⟨v, tyD d1, rfl, tyB (p1.now g1.s), _, _, rfl, rfl, k _ G1 H1 g1 (.bl _)⟩
  · cases e
end
end TN
set_option Elab.async false
set_option linter.all false
set_option maxRecDepth 100000
set_option maxHeartbeats 2000000
set_option autoImplicit false
namespace TN
open PySem PySem.Spec PyProof.Rows L2
structure Has (P : Program) (w : World) (K : PySem.W.Frag) (mg : Str → Option Value) (base : Heap) (name : Str) (k : Nat) (ps : List Str) (sp : Sp) : Prop where
  ex : ∃ f fd, FnG P w K mg base CX0 k f fd ps sp ∧ mg name = some (.ref f) ∧ PySem.W.keepIn K (.ref f) = true ∧ Binds K fd ps []
theorem has_of {P : Program} {w : World} {K : PySem.W.Frag} {mg : Str → Option Value} {base : Heap} {name : Str} {k : Nat} {ps : List Str} {sp : Sp} {f : Addr} {fd : FuncData} {qual : Str} {st : Stmt}
    (G : FnG P w K mg base CX0 k f fd ps sp) (m : mg name = some (.ref f)) (F : Fun K name qual st f fd)
    (h : ∀ (kV doc pm : Value) (an : Option Addr) (cdv ct : Value) (us : List Value), us.length = ps.length → bindArgs (PySem.W.fnOf name qual (defArgs st) (defBody st) (defScope st) .none kV doc pm an cdv ct) ⟨us, []⟩ = pure (ps.zip us)) :
    Has P w K mg base name k ps sp := ⟨f, fd, G, m, F.kp, F.binds h⟩
theorem Has.up {P : Program} {w : World} {K : PySem.W.Frag} {mg : Str → Option Value} {base : Heap} {name : Str} {j k : Nat} {ps : List Str} {sp : Sp} (h : Has P w K mg base name j ps sp) (le : j ≤ k) : Has P w K mg base name k ps sp := by
  obtain ⟨f, fd, a, b, c, d⟩ := h.ex
  exact ⟨f, fd, a.up le, b, c, d⟩
section
variable {X : Cx} {name : Str} {k : Nat} {ps : List Str} {sp : Sp} {p pos : Pos} {e : Expr} {es : List Expr} {t : TA}
theorem pe_has (h : Has X.prog X.w X.K X.mg X.base name k ps sp) (hg : X.A.guards = some []) (hr : Room k X.A) (hgl : Gl X name) (ha : PA X (e :: es) t) (hdb : (name == ("__debug__" : Str)) = false := by decide)
    (he : starEach (e :: es) X.env = (false, eval e X.env) :: starEach es X.env := by rfl) (hpl : (backTo pos (starEach es X.env)).any (·.1) = false := by rfl) : PE X (.Call (.Name name p) (e :: es) [] pos) (tCall sp [] E0 t) := by
  obtain ⟨f, fd, G, m, kp, b⟩ := h.ex
  exact peG_call G hg hr hgl m kp b pass0 ha hdb he hpl
end
section
variable {X : Cx} {K : PySem.W.Frag} {bor : List Nat}
abbrev rStr (c : Str → Str → Bool) : R2 := fun x y H Q => ∃ i j, x = V.str i ∧ y = V.str j ∧ Q (V.bl (c i j)) H
abbrev rU (c : Int → Int → Bool) (d : Str → Str → Bool) : R2 := fun x y H Q => (rI0 fun i j => V.bl (c i j)) x y H Q ∨ rStr d x y H Q
def oU (c : Int → Int → Bool) (d : Str → Str → Bool) : F2 := fun x y => match x, y with
  | .int i, .int j => some (.bool (c i j))
  | .str i, .str j => some (.bool (d i j))
  | _, _ => none
theorem rb_U {c : Int → Int → Bool} {d : Str → Str → Bool} : RB K (TN.rU c d) (oU c d) := fun {G H v w x y z Q} s p1 p2 e k => by
  unfold oU at e
  split at e
  · injection e with e; subst e
    cases p1.int; cases p2.int
    exact .inl ⟨_, _, rfl, rfl, k _ G H (.refl s) (.bl _)⟩
  · injection e with e; subst e
    cases p1.str; cases p2.str
    exact .inr ⟨_, _, rfl, rfl, k _ G H (.refl s) (.bl _)⟩
  · cases e
theorem op_ltU : OpR X (compareOp .Lt) (TN.rU (fun i j => decide (i < j)) (fun i j => decide (i.cps.toList < j.cps.toList))) := opOr op_lt op_lt_str
theorem op_leU : OpR X (compareOp .LtE) (TN.rU (fun i j => decide (i ≤ j)) (fun i j => !decide (j.cps.toList < i.cps.toList))) := opOr op_le op_le_str
theorem op_gtU : OpR X (compareOp .Gt) (TN.rU (fun i j => decide (j < i)) (fun i j => decide (j.cps.toList < i.cps.toList))) := opOr op_gt op_gt_str
def flatD : D → Bool
  | .list _ | .tuple _ | .dict _ => false
  | _ => true
def eqG : D → D → Bool
  | .none, .none => true
  | .bool a, .bool b => a == b
  | .bool a, .int b => (if a then 1 else 0) == b
  | .int a, .bool b => a == (if b then 1 else 0)
  | .int a, .int b => a == b
  | .str a, .str b => a == b
  | _, _ => false
def memG (d : D) (xs : List D) : Option Bool := if flatD d = true ∧ xs.all flatD = true then some (xs.any fun y => eqG y d) else none
def memD (d : D) (xs : List D) : Option Bool := match d with
  | .str x => ((strsOf xs).map fun ys => decide (x ∈ ys)).or (memG d xs)
  | _ => memG d xs
def oIn (neg : Bool) : F2 := fun d e => match e with
  | .list xs => (memD d xs).map fun b => .bool (if neg then !b else b)
  | .tuple xs => (memD d xs).map fun b => .bool (if neg then !b else b)
  | _ => none
theorem inV_strs (x : Str) : ∀ ys : List Str, inV (.str x) (ys.map V.str) = decide (x ∈ ys)
  | [] => rfl
  | y :: ys => by
    have ih := inV_strs x ys
    unfold inV at ih ⊢
    rw [List.map_cons, List.any_cons, ih]
    show (eqV (.str y) (.str x) || decide (x ∈ ys)) = decide (x ∈ y :: ys)
    have e : eqV (.str y) (.str x) = decide (x = y) := by
      show decide (y = x) = decide (x = y)
      by_cases h : x = y
      · subst h; rfl
      · simp [h, Ne.symm h]
    rw [e]
    by_cases h : x = y
    · subst h; simp
    · simp [h]
theorem flat_strs : ∀ ys : List Str, (ys.map V.str).all flatV = true
  | [] => rfl
  | y :: ys => by rw [List.map_cons, List.all_cons, flat_strs ys]; rfl

def toV : D → V
  | .none => .non
  | .bool b => .bl b
  | .int i => .int i
  | .str x => .str x
  | _ => .non
theorem flat_q {G : Hp} {v : V} {d : D} (p : Dq K G v d) (h : flatD d = true) : v = toV d := by
  cases d with
  | list _ => cases h
  | tuple _ => cases h
  | dict _ => cases h
  | none => cases p; rfl
  | bool _ => cases p; rfl
  | int _ => cases p; rfl
  | str _ => cases p; rfl
theorem flat_v {G H : Hp} {v : V} {d : D} (p : DpM K G H v d) (h : flatD d = true) : flatV v = true ∧ v = toV d := by
  have e : v = toV d := by
    rcases p with p | ⟨_, _, _, _, z, _⟩
    · exact flat_q p h
    · subst z; cases h
  refine ⟨?_, e⟩
  subst e
  cases d <;> first | rfl | cases h
theorem eqV_G {a b : D} (ha : flatD a = true) (hb : flatD b = true) : eqV (toV a) (toV b) = eqG a b := by
  cases a <;> first | (cases ha; done) | skip
  all_goals (cases b <;> first | rfl | (cases hb; done))
theorem mem_all {G H : Hp} {v : V} {d : D} (p : DpM K G H v d) (h : flatD d = true) : ∀ {xs : List D} {vs : List V}, xs.all flatD = true → DqAll K G vs xs → vs.all flatV = true ∧ inV v vs = xs.any fun y => eqG y d
  | [], _, _, hv => by cases hv; exact ⟨rfl, rfl⟩
  | x :: xs, _, hx, hv => by
    rw [List.all_cons, Bool.and_eq_true] at hx
    cases hv with
    | cons a b =>
      obtain ⟨i1, i2⟩ := mem_all p h hx.2 b
      obtain ⟨f1, f2⟩ := flat_v (H := H) (.inl a) hx.1
      refine ⟨by rw [List.all_cons, f1, i1]; rfl, ?_⟩
      unfold inV at i2 ⊢
      rw [List.any_cons, List.any_cons, i2, f2, (flat_v p h).2, eqV_G hx.1 h]
theorem rb_in {neg : Bool} : RB K (rIn K neg) (oIn neg) := fun {G H v w d e z Q} s p1 p2 h k => by
  have key : ∀ (xs : List D) (b : Bool) (vs : List V), memD d xs = some b → DqAll K G vs xs → flatV v = true ∧ vs.all flatV = true ∧ inV v vs = b := fun xs b vs hm hv => by
    have gen : ∀ b, memG d xs = some b → flatV v = true ∧ vs.all flatV = true ∧ inV v vs = b := fun b hg => by
      unfold memG at hg
      split at hg
      · rename_i hf
        injection hg with hg; subst hg
        exact ⟨(flat_v p1 hf.1).1, mem_all p1 hf.1 hf.2 hv⟩
      · cases hg
    unfold memD at hm
    split at hm
    · rename_i x
      cases q : strsOf xs with
      | none => rw [q] at hm; exact gen b hm
      | some ys =>
        rw [q] at hm
        injection hm with hm; subst hm
        rw [strsOf_is q] at hv
        rw [dq_strs hv]
        cases p1.str
        exact ⟨rfl, flat_strs ys, inV_strs x ys⟩
    · exact gen b hm
  unfold oIn at h
  split at h
  · rename_i xs
    cases q : memD d xs with
    | none => rw [q] at h; cases h
    | some b =>
      rw [q] at h
      injection h with h; subst h
      obtain ⟨a, vs, rfl, h1, h2⟩ := p2.list s
      obtain ⟨k1, k2, k3⟩ := key xs b vs q h2
      refine ⟨a, vs, rfl, .inl (rdL h1), k1, k2, ?_⟩
      rw [k3]; exact k _ G H (.refl s) (.bl _)
  · rename_i xs
    cases q : memD d xs with
    | none => rw [q] at h; cases h
    | some b =>
      rw [q] at h
      injection h with h; subst h
      obtain ⟨a, vs, rfl, h1, h2⟩ := p2.tup s
      obtain ⟨k1, k2, k3⟩ := key xs b vs q h2
      refine ⟨a, vs, rfl, .inr h1, k1, k2, ?_⟩
      rw [k3]; exact k _ G H (.refl s) (.bl _)
  · cases h

variable {ta tb tc : TE} {f g h : FE}
def fChain (o o' : F2) (f g h : FE) : FE := fun ρ => match f ρ, g ρ, h ρ with
  | some a, some b, some c => match o a b with
    | some (.bool true) => o' b c
    | some (.bool false) => some (.bool false)
    | _ => none
  | _, _, _ => none
theorem lp_chain {r r' : R2} {o o' : F2} (h1 : LM K bor ta f) (h2 : LM K bor tb g) (h3 : LM K bor tc h) (hr : RB K r o) (hr' : RB K r' o') : LP K bor (tChain r r' ta tb tc) (fChain o o' f g h) := fun {c G σ H ρ d Q} hc R e k => by
  unfold fChain at e
  split at e
  · rename_i x y z e1 e2 e3
    split at e
    · rename_i e4
      exact h1 hc R e1 fun v G1 H1 g1 p1 => h2 hc (R.grow g1) e2 fun w G2 H2 g2 p2 => hr g2.s (p1.grow g2) p2 e4 fun u G3 H3 g3 p3 => by
        cases p3
        refine ⟨true, rfl, iteT (h3 hc (R.grow (g1.trans (g2.trans g3))) e3 fun s G4 H4 g4 p4 => hr' g4.s (p2.grow (g3.trans g4)) p4 e fun t G5 H5 g5 p5 => k t G5 H5 (g1.trans (g2.trans (g3.trans (g4.trans g5)))) p5)⟩
    · rename_i e4
      injection e with e; subst e
      exact h1 hc R e1 fun v G1 H1 g1 p1 => h2 hc (R.grow g1) e2 fun w G2 H2 g2 p2 => hr g2.s (p1.grow g2) p2 e4 fun u G3 H3 g3 p3 => by
        cases p3
        exact ⟨false, rfl, iteF (k _ G3 H3 (g1.trans (g2.trans g3)) (.bl _))⟩
    · cases e
  · cases e


def rSlX (K : PySem.W.Frag) : V → Option Int → Option Int → Hp → VK → Prop := fun x lo hi H Q => ∃ a xs, x = .ref a ∧ SqT K H a xs ∧
  (HT.sIx xs.length 0 lo = 0 ∧ HT.sIx xs.length xs.length hi = xs.length → Q (.ref a) H) ∧
  (¬ (HT.sIx xs.length 0 lo = 0 ∧ HT.sIx xs.length xs.length hi = xs.length) → ∀ (p : Addr) (o : Obj), o.dict = none → H p = none → Q (.ref p) (upd H p (.frz o (.tup (cutV xs lo hi)))))
theorem sl_tupX : SlR X (rSlX X.K) := by
  intro pins s σ H x v vl vu lo hi sl Q I rx hs pl pu h
  obtain ⟨a, xs, rfl, hx, q1, q2⟩ := h
  cases rx
  obtain ⟨its, r, tup, hz⟩ := I.tuple hx
  have size : its.toArray.size = xs.length := by rw [List.size_toArray, r.length]
  refine ⟨"tuple", _, PyProof.Rows.slot_tuple_getitem.lookup, tup.typeIs, ?_⟩
  by_cases whole : HT.sIx xs.length 0 lo = 0 ∧ HT.sIx xs.length xs.length hi = xs.length
  · apply getItem_tuple_whole tup hs pl pu (by rw [size]; exact whole)
    exact ⟨.ref a, H, I, rfl, q1 whole⟩
  · apply HT.getItem_tuple_cut tup hs pl pu (by rw [size]; exact whole)
    · rw [size]
      have rc := (r.drop (HT.sIx xs.length 0 lo)).take (HT.sIx xs.length xs.length hi - HT.sIx xs.length 0 lo)
      exact ⟨.ref s.heap.objs.size, _, tup_laid I rc (Nat.le_trans (cutV_length xs lo hi) hz), rfl, q2 whole _ _ rfl (I.hok.fresh (Nat.le_refl _))⟩
    · rw [size]; exact hz
abbrev rSlU (K : PySem.W.Frag) : V → Option Int → Option Int → Hp → VK → Prop := fun x lo hi H Q => rSlL K x lo hi H Q ∨ (rSlX K x lo hi H Q ∨ rSlS x lo hi H Q)
theorem slOr {r r' : V → Option Int → Option Int → Hp → VK → Prop} (h : SlR X r) (h' : SlR X r') : SlR X (fun x lo hi H Q => r x lo hi H Q ∨ r' x lo hi H Q) := by
  intro pins s σ H x v vl vu lo hi sl Q I rx hs pl pu q
  rcases q with q | q
  · exact h pins s σ H x v vl vu lo hi sl Q I rx hs pl pu q
  · exact h' pins s σ H x v vl vu lo hi sl Q I rx hs pl pu q
theorem sl_U : SlR X (rSlU X.K) := slOr sl_list (slOr sl_tupX sl_str)
def cutD (xs : List D) (lo hi : Option Int) : List D := (xs.drop (HT.sIx xs.length 0 lo)).take (HT.sIx xs.length xs.length hi - HT.sIx xs.length 0 lo)
theorem dq_cut {G : Hp} {vs : List V} {xs : List D} (p : DqAll K G vs xs) (lo hi : Option Int) : DqAll K G (cutV vs lo hi) (cutD xs lo hi) := by
  unfold cutV cutD
  rw [dps_len p]
  exact dps_take _ (dps_drop _ p)
def oSlice (lo hi : Option Int) : F1 := fun d => match d with
  | .list xs => some (.list (cutD xs lo hi))
  | .tuple xs => some (.tuple (cutD xs lo hi))
  | .str z => if z.length ≤ 100000 then some (.str (cutS z lo hi)) else none
  | _ => none
theorem cut_whole {xs : List D} {lo hi : Option Int} (h : HT.sIx xs.length 0 lo = 0 ∧ HT.sIx xs.length xs.length hi = xs.length) : cutD xs lo hi = xs := by
  unfold cutD; rw [h.1, h.2]; simp
theorem slice_run {G H : Hp} {v : V} {d z : D} {lo hi : Option Int} {Q : VK} (s : Same G H) (p : DpM K G H v d) (e : oSlice lo hi d = some z) (k : ∀ u G' H', Grow G H G' H' → Dq K G' u z → Q u H') : rSlU K v lo hi H Q := by
  unfold oSlice at e
  split at e
  · injection e with e; subst e
    obtain ⟨a, vs, rfl, h1, h2⟩ := p.list s
    refine .inl ⟨a, vs, rfl, rdL h1, fun l hl => ?_⟩
    have g := grow_new (o := .lst (cutV vs lo hi)) s hl
    exact k _ _ _ g (.lst (sqU upd_same) (dpsS g.g (dq_cut h2 lo hi)))
  · injection e with e; subst e
    rename_i xs
    obtain ⟨a, vs, rfl, h1, h2⟩ := p.tup s
    have el := dps_len h2
    refine .inr (.inl ⟨a, vs, rfl, h1, fun hw => ?_, fun hw l o hd hl => ?_⟩)
    · rw [el] at hw
      rw [cut_whole hw] at k
      rcases p with p | ⟨_, _, _, _, e, _⟩
      · exact k _ G H (.refl s) p
      · cases e
    · have g := grow_new (o := .frz o (.tup (cutV vs lo hi))) s hl
      exact k _ _ _ g (.tup (.inl ⟨o, upd_same, hd⟩) (dpsS g.g (dq_cut h2 lo hi)))
  · split at e
    · rename_i hl
      injection e with e; subst e
      cases p.str
      exact .inr (.inr ⟨_, rfl, Nat.le_trans hl (by decide), k _ G H (.refl s) (.str _)⟩)
    · cases e
  · cases e

abbrev FO := List Sl → Option (Option Int)
def LO (K : PySem.W.Frag) (bor : List Nat) (tH : TO) (f : FO) : Prop :=
  ∀ ⦃c : C0⦄ ⦃G : Hp⦄ ⦃σ : L2.St⦄ ⦃H : Hp⦄ ⦃ρ : List Sl⦄ ⦃d : Option Int⦄ ⦃Q : Option Int → Hp → Prop⦄, c.bor = bor → Rel K c G σ H ρ → f ρ = some d → (∀ G' H', Grow G H G' H' → Q d H') → tH σ H Q
def fNo : FO := fun _ => some none
def fEnd (f : FE) : FO := fun ρ => match f ρ with
  | some (.int i) => some (some i)
  | _ => none
theorem lo_none : LO K bor tNoPart fNo := fun {c G σ H ρ d Q} hc R e k => by
  injection e with e; subst e; exact k G H (.refl R.sub)
theorem lo_some (h : LM K bor ta f) : LO K bor (tPart ta) (fEnd f) := fun {c G σ H ρ d Q} hc R e k => by
  unfold fEnd at e
  split at e
  · rename_i i e1
    injection e with e; subst e
    exact h hc R e1 fun v G1 H1 g1 p1 => ⟨i, p1.int, k G1 H1 g1⟩
  · cases e
def fSlice (f : FE) (lo hi : FO) : FE := fun ρ => match f ρ, lo ρ, hi ρ with
  | some d, some l, some h => oSlice l h d
  | _, _, _ => none
theorem lp_slice {tl th : TO} {lo hi : FO} (h : LM K bor ta f) (hl : LO K bor tl lo) (hh : LO K bor th hi) : LP K bor (tSl (rSlU K) ta tl th) (fSlice f lo hi) := fun {c G σ H ρ d Q} hc R e k => by
  unfold fSlice at e
  split at e
  · rename_i x l u e1 e2 e3
    exact h hc R e1 fun v G1 H1 g1 p1 => hl hc (R.grow g1) e2 fun G2 H2 g2 => hh hc (R.grow (g1.trans g2)) e3 fun G3 H3 g3 => slice_run g3.s (p1.grow (g2.trans g3)) e fun u G4 H4 g4 p4 => k u G4 H4 (g1.trans (g2.trans (g3.trans g4))) p4
  · cases e
def dSlice (A : TDE) (lo hi : FO) : TDE := fun ρ Q => A ρ fun d ρ1 => ∃ l h z, lo ρ1 = some l ∧ hi ρ1 = some h ∧ oSlice l h d = some z ∧ Q z ρ1
theorem le_slice {tl th : TO} {A : TDE} {lo hi : FO} (h : LE K bor ta A) (hl : LO K bor tl lo) (hh : LO K bor th hi) : LE K bor (tSl (rSlU K) ta tl th) (dSlice A lo hi) := fun {c G σ H ρ Qd Q} hc R q k =>
  h hc R q fun v H1 G1 ρ1 d s1 R1 p1 ⟨l, u, z, e1, e2, e3, q1⟩ => hl hc R1 e1 fun G2 H2 g2 => hh hc (R1.grow g2) e2 fun G3 H3 g3 => slice_run g3.s ((DpM.grow (g2.trans g3) (.inl p1))) e3 fun u G4 H4 g4 p4 =>
    k u H4 G4 ρ1 z (s1.trans ((g2.trans (g3.trans g4)).g)) (R1.grow (g2.trans (g3.trans g4))) p4 q1

end
end TN
set_option Elab.async false
set_option linter.all false
set_option maxRecDepth 100000
set_option maxHeartbeats 2000000
set_option autoImplicit false
namespace TN
open PySem PySem.Spec PyProof.Rows L2
def pick {α : Type} (is : List Nat) (xs : List α) : List α := is.filterMap fun i => xs[i]?
theorem vals_at : ∀ {vs : List V} {us : List Value}, Vals vs us → ∀ i : Nat, (vs[i]? = none ∧ us[i]? = none) ∨ ∃ v u, vs[i]? = some v ∧ us[i]? = some u ∧ RelV v u
  | _, _, .nil, i => .inl ⟨by simp, by simp⟩
  | _, _, .cons a b, 0 => .inr ⟨_, _, by simp, by simp, a⟩
  | _, _, .cons a b, i + 1 => by
    rcases vals_at b i with ⟨h1, h2⟩ | ⟨v, u, h1, h2, h3⟩
    · exact .inl ⟨by simpa using h1, by simpa using h2⟩
    · exact .inr ⟨v, u, by simpa using h1, by simpa using h2, h3⟩
theorem vals_pick {vs : List V} {us : List Value} (h : Vals vs us) : ∀ is : List Nat, Vals (pick is vs) (pick is us)
  | [] => .nil
  | i :: is => by
    have ih := vals_pick h is
    unfold pick at ih ⊢
    rcases vals_at h i with ⟨h1, h2⟩ | ⟨v, u, h1, h2, h3⟩
    · rw [List.filterMap_cons_none h1, List.filterMap_cons_none h2]; exact ih
    · rw [List.filterMap_cons_some h1, List.filterMap_cons_some h2]; exact .cons h3 ih
theorem dps_pick {K : PySem.W.Frag} {G : Hp} {vs : List V} {ds : List D} (h : DqAll K G vs ds) : ∀ is : List Nat, DqAll K G (pick is vs) (pick is ds)
  | [] => .nil
  | i :: is => by
    have ih := dps_pick h is
    unfold pick at ih ⊢
    cases e : ds[i]? with
    | none =>
      have e2 : vs[i]? = none := by
        rw [List.getElem?_eq_none_iff] at e ⊢
        rw [dps_len h]; exact e
      rw [List.filterMap_cons_none e, List.filterMap_cons_none e2]; exact ih
    | some d =>
      obtain ⟨v, e2, e3⟩ := dps_of h e
      rw [List.filterMap_cons_some e, List.filterMap_cons_some e2]; exact .cons e3 ih

structure HasK (P : Program) (w : World) (K : PySem.W.Frag) (mg : Str → Option Value) (base : Heap) (name : Str) (k : Nat) (ps ks : List Str) (is : List Nat) (sp : Sp) : Prop where
  ex : ∃ f fd, FnG P w K mg base CX0 k f fd ps sp ∧ mg name = some (.ref f) ∧ PySem.W.keepIn K (.ref f) = true ∧ KOnly K fd ps ks (pick is) (pick is)
theorem hasK_of {P : Program} {w : World} {K : PySem.W.Frag} {mg : Str → Option Value} {base : Heap} {name : Str} {k : Nat} {ps ks : List Str} {is : List Nat} {sp : Sp} {f : Addr} {fd : FuncData} {qual : Str} {st : Stmt}
    (G : FnG P w K mg base CX0 k f fd ps sp) (m : mg name = some (.ref f)) (F : Fun K name qual st f fd)
    (h : ∀ (kV doc pm : Value) (an : Option Addr) (cdv ct : Value) (us : List Value), (pick is us).length = ps.length → bindArgs (PySem.W.fnOf name qual (defArgs st) (defBody st) (defScope st) .none kV doc pm an cdv ct) ⟨[], ks.zip us⟩ = pure (ps.zip (pick is us))) :
    HasK P w K mg base name k ps ks is sp := by
  refine ⟨f, fd, G, m, F.kp, ?_⟩
  obtain ⟨oc, od, kV, doc, pm, an, cdv, ct, osl, hfd, hlk, hcode⟩ := F.ex
  subst hfd
  exact ⟨fun s ws _ hl => .of_eq (h kV doc pm an cdv ct ws hl), fun r => vals_pick r is⟩
theorem HasK.up {P : Program} {w : World} {K : PySem.W.Frag} {mg : Str → Option Value} {base : Heap} {name : Str} {j k : Nat} {ps ks : List Str} {is : List Nat} {sp : Sp} (h : HasK P w K mg base name j ps ks is sp) (le : j ≤ k) : HasK P w K mg base name k ps ks is sp := by
  obtain ⟨f, fd, a, b, c, d⟩ := h.ex
  exact ⟨f, fd, a.up le, b, c, d⟩
def tCallN (sp : Sp) (is : List Nat) (E : XK) (tk : TA) : TE := fun σ H Q => tk σ H fun zs H2 => sp (pick is zs) H2 Q E
section
variable {X : Cx} {name : Str} {k : Nat} {ps ks : List Str} {is : List Nat} {sp : Sp} {p pos : Pos} {kws : List Keyword} {tk : TA}
theorem pe_hasK (h : HasK X.prog X.w X.K X.mg X.base name k ps ks is sp) (hg : X.A.guards = some []) (hr : Room k X.A) (hgl : Gl X name) (hkw : PK X kws tk)
    (hall : (backToKw pos (keywordEach kws X.env)).all (·.1.isSome) = true := by rfl) (hks : (backToKw pos (keywordEach kws X.env)).filterMap (·.1) = ks := by rfl) (hdb : (name == ("__debug__" : Str)) = false := by decide)
    (hpl : ((backTo pos (starEach [] X.env)).any (·.1) || (backToKw pos (keywordEach kws X.env)).any (·.1.isNone)) = false := by rfl) :
    PE X (.Call (.Name name p) [] kws pos) (tCallN sp is E0 tk) := by
  obtain ⟨f, fd, F, m, kp, b⟩ := h.ex
  constructor
  intro pins s σ H Q I q
  apply wpAny_Call_Name_kw
  apply ld_glob I hgl m _ hdb
  apply PySem.W.callWith_KW0 (h₀ := X.base) I.ok.mod.kin kp hall _ hpl
  apply thn (hkw.run pos pins s σ H _ I q)
  rintro ws s2 ⟨zs, H2, I2, rz, q2⟩
  refine ⟨I2.kIn, ?_⟩
  rw [hks]
  have rv := b.rel rz
  have hl : (pick is ws).length = ps.length := by rw [← rv.length]; exact F.count _ _ _ _ q2
  refine wpAny_call (codeAny_mono (callG F hg hr pass0 I2 (b.to s2 ws I2.kIn hl) rv q2) fun res s' hq => ?_)
  cases res with
  | error e => exact hq
  | ok fl => cases fl <;> first | exact hq | exact hq.elim
end
section
variable {K : PySem.W.Frag} {bor : List Nat} {tk : TA} {is : List Nat}
def dCallN (sem : List D → (Sl → Prop) → Prop) (is : List Nat) (A : TDA) : TDE := fun ρ Q => A ρ fun ds ρ1 => sem (pick is ds) fun r => ∃ d, r = .sh d ∧ Q d ρ1
end
end TN
set_option Elab.async false
set_option linter.all false
set_option maxRecDepth 100000
set_option maxHeartbeats 2000000
set_option autoImplicit false
namespace TN
open PySem PySem.Spec PyProof.Rows L2
section
variable {K : PySem.W.Frag} {bor : List Nat} {te : TE} {f : FE}
theorem ty_dq {H : Hp} : ∀ {d : D} {v : V}, Dq K H v d → TyX K H v (.type (tyD d))
  | .none, _, h => by cases h; exact .base .non
  | .bool _, _, h => by cases h; exact .base (.bl _)
  | .int _, _, h => by cases h; exact .base (.int _)
  | .str _, _, h => by cases h; exact .base (.str _)
  | .list _, _, h => by
    cases h with
    | lst s a =>
      rcases s with (s | ⟨o, s⟩) | ⟨o, its, n, s, c, _⟩
      · exact .base (.lst s)
      · exact .base (.frz s)
      · exact .kList s c
  | .tuple _, _, h => by
    cases h with
    | tup s a =>
      rcases s with ⟨o, s, _⟩ | ⟨o, its, n, s, c, _⟩
      · exact .fTuple s
      · exact .kTuple s c
  | .dict _, _, h => by
    cases h with
    | dct s a => exact .fDict s
def kinds7 : List String := ["NoneType", "bool", "int", "str", "list", "tuple", "dict"]
theorem tyD_in (d : D) : tyD d ∈ kinds7 := by cases d <;> simp [tyD, kinds7]

def isD (T : String) (d : D) : Bool := (kitB (tyD d) T).getD false
theorem isD_is {T : String} (h : ∀ k ∈ kinds7, (kitB k T).isSome = true) (d : D) : kitB (tyD d) T = some (isD T d) := by
  have := h _ (tyD_in d)
  unfold isD
  rcases e : kitB (tyD d) T with _ | b
  · rw [e] at this; cases this
  · rfl
theorem lp_isi {T : String} (hT : ∀ k ∈ kinds7, (kitB k T).isSome = true) (h : LM K bor te f) : LP K bor (tCB (rIsi K) (tCons te (tCons (tC (.ty T)) tNil))) (f1 (fun d => some (.bool (isD T d))) f) := fun {c G σ H ρ d Q} hc R e k => by
  unfold f1 at e
  split at e
  · rename_i d1 e1
    injection e with e; subst e
    exact h hc R e1 fun v G1 H1 g1 p1 => ⟨v, .ty T, _, _, isD T d1, rfl, .ty T, ty_dq (p1.now g1.s), kit_ty (isD_is hT d1), k _ G1 H1 g1 (.bl _)⟩
  · cases e
theorem isi_tuple : ∀ k ∈ kinds7, (kitB k "tuple").isSome = true := by decide +kernel
theorem isi_list : ∀ k ∈ kinds7, (kitB k "list").isSome = true := by decide +kernel
theorem isi_bool : ∀ k ∈ kinds7, (kitB k "bool").isSome = true := by decide +kernel
theorem kit_two {a T U : String} {x y : Bool} (h1 : kitB a T = some x) (h2 : kitB a U = some y) : PySem.W.kitAny K (.type a) [.type T, .type U] = some (x || y) := by
  refine kitAny_cons (kit_ty h1) (b := x) (r := x || y) (cs := [.type U]) (fun hx => ?_) (fun hx => by rw [hx]; rfl)
  subst hx
  refine kitAny_cons (kit_ty h2) (b := y) (r := false || y) (cs := []) (fun hy => ?_) (fun hy => by rw [hy]; rfl)
  subst hy; rfl
theorem lp_isi2 {T U : String} (hT : ∀ k ∈ kinds7, (kitB k T).isSome = true) (hU : ∀ k ∈ kinds7, (kitB k U).isSome = true) (h : LM K bor te f) :
    LP K bor (tCB (rIsiT K) (tCons te (tCons (tTup (tCons (tC (.ty T)) (tCons (tC (.ty U)) tNil))) tNil))) (f1 (fun d => some (.bool (isD T d || isD U d))) f) := fun {c G σ H ρ d Q} hc R e k => by
  unfold f1 at e
  split at e
  · rename_i d1 e1
    injection e with e; subst e
    refine h hc R e1 fun v G1 H1 g1 p1 => ?_
    have gT := fun (p : Addr) (hp : H1 p = none) => grow_own (G := G1) (o := .tup [.ty T, .ty U]) g1.s hp
    refine ⟨by show 2 ≤ sizeLine; decide, fun p hp => ?_⟩
    refine ⟨v, p, [.ty T, .ty U], _, [.type T, .type U], isD T d1 || isD U d1, rfl, upd_same, .cons (.ty T) (.cons (.ty U) .nil), ty_dq ((p1.grow (gT p hp)).now (gT p hp).s), kit_two (isD_is hT d1) (isD_is hU d1), k _ G1 _ (g1.trans (gT p hp)) (.bl _)⟩
  · cases e
end
end TN
set_option Elab.async false
set_option linter.all false
set_option maxRecDepth 100000
set_option maxHeartbeats 2000000
set_option autoImplicit false
namespace TN
open PySem PySem.Spec PyProof.Rows L2
section
variable {K : PySem.W.Frag}
def intsOf : List D → Option (List Int)
  | [] => some []
  | .int x :: ds => (intsOf ds).map (x :: ·)
  | _ :: _ => none
theorem intsOf_is : ∀ {ds : List D} {xs : List Int}, intsOf ds = some xs → ds = xs.map PyData.int
  | [], xs, e => by injection e with e; subst e; rfl
  | d :: ds, xs, e => by
    cases d <;> first | (cases e; done) | skip
    rename_i x
    have e : (intsOf ds).map (x :: ·) = some xs := e
    cases q : intsOf ds with
    | none => rw [q] at e; cases e
    | some ys =>
      rw [q] at e
      injection e with e; subst e
      rw [intsOf_is q]; rfl
theorem dq_ints {G : Hp} : ∀ {xs : List Int} {vs : List V}, DqAll K G vs (xs.map PyData.int) → vs = xs.map V.int
  | [], _, h => by cases h; rfl
  | x :: xs, _, h => by
    cases h with
    | cons a b => cases a; rw [dq_ints b]; rfl
end
end TN
set_option Elab.async false
set_option linter.all false
set_option maxRecDepth 100000
set_option maxHeartbeats 2000000
set_option autoImplicit false
namespace TN
open PySem PySem.Spec PyProof.Rows L2
section
variable {K : PySem.W.Frag} {bor : List Nat} {ta tb : TE} {tc : TT} {A B : TDE} {f g : FE} {C : TDT}
def dAndV (A B : TDE) : TDE := fun ρ Q => A ρ fun d ρ1 => ∃ b, d = .bool b ∧ (b = true → B ρ1 Q) ∧ (b = false → Q (.bool false) ρ1)
theorem le_andV (h1 : LE K bor ta A) (h2 : LE K bor tb B) : LE K bor (tAndV ta tb) (dAndV A B) := fun {c G σ H ρ Qd Q} hc R q k =>
  h1 hc R q fun v H1 G1 ρ1 d s1 R1 p1 ⟨b, e, q1, q2⟩ => by
    subst e
    cases p1
    cases b with
    | true => exact ⟨true, rfl, iteT (h2 hc R1 (q1 rfl) fun v H2 G2 ρ2 d s2 R2 p q' => k v H2 G2 ρ2 d (s1.trans s2) R2 p q')⟩
    | false => exact ⟨false, rfl, iteF (k _ H1 G1 ρ1 _ s1 R1 (.bl _) (q2 rfl))⟩
def dOrV (A B : TDE) : TDE := fun ρ Q => A ρ fun d ρ1 => ∃ b, d = .bool b ∧ (b = true → Q (.bool true) ρ1) ∧ (b = false → B ρ1 Q)
def dNotV (A : TDE) : TDE := fun ρ Q => A ρ fun d ρ1 => ∃ b, d = .bool b ∧ Q (.bool (!b)) ρ1
def dIfL (C : TDT) (A B : TDL) : TDL := fun ρ Q => C ρ fun b ρ1 => (b = true → A ρ1 Q) ∧ (b = false → B ρ1 Q)
def idxS (y : Str) : List Str → Option Nat
  | [] => none
  | x :: xs => if x = y then some 0 else (idxS y xs).map (· + 1)
theorem idxS_is {y : Str} : ∀ {xs : List Str} {j : Nat}, idxS y xs = some j → xs[j]? = some y ∧ ∀ m, m < j → xs[m]? ≠ some y
  | [], j, e => by cases e
  | x :: xs, j, e => by
    unfold idxS at e
    split at e
    · rename_i h
      injection e with e; subst e; subst h
      exact ⟨rfl, fun m hm => absurd hm (Nat.not_lt_zero _)⟩
    · rename_i h
      cases q : idxS y xs with
      | none => rw [q] at e; cases e
      | some i =>
        rw [q] at e
        injection e with e; subst e
        obtain ⟨h1, h2⟩ := idxS_is q
        refine ⟨h1, fun m hm => ?_⟩
        cases m with
        | zero => intro z; injection z with z; exact h z
        | succ m => exact h2 m (Nat.lt_of_succ_lt_succ hm)
def tIdx (K : PySem.W.Frag) (ta : TE) (tb : TA) : TE := fun σ H Q => ta σ H fun x H1 => ∃ p ws, x = V.ref p ∧ TupX K H1 p ws ∧
  tb σ H1 fun vs H2 => ∃ (ys : List Str) (z : Str) (j : Nat), vs = [V.str z] ∧ SqT K H2 p (ys.map V.str) ∧ ys[j]? = some z ∧ (∀ m, m < j → ys[m]? ≠ some z) ∧ Q (.int (j : Nat)) H2
def oTIdx : F2 := fun d e => match d, e with
  | .tuple xs, .str y => (strsOf xs).bind fun ys => (idxS y ys).map fun (j : Nat) => .int j
  | _, _ => none
theorem lp_tindex (h1 : LM K bor ta f) (h2 : LM K bor tb g) : LP K bor (tIdx K ta (tCons tb tNil)) (f2 oTIdx f g) := fun {c G σ H ρ d Q} hc R e k => by
  unfold f2 at e
  split at e
  · rename_i d1 d2 e1 e2
    unfold oTIdx at e
    split at e
    · rename_i xs y
      cases q : strsOf xs with
      | none => rw [q] at e; cases e
      | some ys =>
        rw [q] at e
        have e : (idxS y ys).map (fun (j : Nat) => PyData.int j) = some d := e
        cases q2 : idxS y ys with
        | none => rw [q2] at e; cases e
        | some j =>
          rw [q2] at e
          injection e with e; subst e
          rw [strsOf_is q] at e1
          obtain ⟨i1, i2⟩ := idxS_is q2
          refine h1 hc R e1 fun v G1 H1 g1 p1 => ?_
          obtain ⟨a, vs, rfl, x1, x2⟩ := p1.tupX g1.s
          refine ⟨a, vs, rfl, x1, h2 hc (R.grow g1) e2 fun w G2 H2 g2 p2 => ?_⟩
          rw [dq_strs x2] at x1
          exact ⟨ys, y, j, by rw [p2.str], (tupS g2.h x1).sq, i1, i2, k _ G2 H2 (g1.trans g2) (.int _)⟩
    · cases e
  · cases e

end
section
variable {X : Cx}
theorem pe_tidx {o e : Expr} {to ta : TE} {apos cpos : Pos} (ho : PE X o to) (ha : PE X e ta)
    (hbase : attributeBase o "index" X.env (eval o X.env) = eval o X.env := by rfl)
    (hfew : ((backTo cpos (starEach [e] X.env)).all (fun x => !x.1) && (backToKw cpos (keywordEach [] X.env)).all (fun x => x.1.isSome)
      && decide (([e] : List Expr).length + ([] : List Keyword).length + (if ([] : List Keyword).isEmpty then 0 else 1) < 30)) = true := by rfl)
    (hline : (apos.endLine == cpos.line) = true := by rfl) (hs : starEach [e] X.env = (false, eval e X.env) :: starEach [] X.env := by rfl) :
    PE X (.Call (.Attribute o "index" apos) [e] [] cpos) (tIdx X.K to (tCons ta tNil)) := by
  constructor
  intro pins s σ H Q I h
  apply wpAny_Call_method_late hbase hfew hline rfl
  apply thn (ho.run pins s σ H _ I h)
  rintro v s1 ⟨x, H1, I1, r1, p, ws, rfl, known, q1⟩
  cases r1
  have obj : ∃ ob, s1.heap.get? p = some ob ∧ ob.dict = none ∧ ob.cls = .type "tuple" := by
    rcases known with ⟨o, hu, hd⟩ | ⟨o, its, n, hk, hc, hd, _⟩
    · obtain ⟨g1, _, _, _, ob, g2, g3, _⟩ := I1.hok p _ hu
      rw [g1] at g2
      injection g2 with g2; subst g2
      exact ⟨o, g1, hd, g3⟩
    · exact ⟨o, I1.kIn p o hk, hd, hc⟩
  obtain ⟨ob, e1, e2, e3⟩ := obj
  refine ⟨"tuple", "tuple.index", PySem.F.plainAttrs_tuple, PySem.F.slot_tuple_index, PySem.F.type_tuple_index, ⟨ob, e1, e3⟩, fun a z => ?_, ?_⟩
  · injection z with z; subst z; exact ⟨ob, e1, e2⟩
  · have hA := (pa_cons ha pa_nil hs).run cpos pins s1 σ H1 _ I1 q1
    rw [hs] at hA ⊢
    refine Calls.callWith_builtin rfl (Calls.evalArgs_plain (thn hA ?_))
    rintro us s2 ⟨vs, H2, I2, r2, ys, z, j, rfl, hq, h1, h2, q2⟩
    exact mt_tup_index pins s2 σ H2 (.ref p) [.str z] (.ref p) us Q I2 rfl r2 ⟨p, ys, z, j, rfl, rfl, hq, h1, h2, q2⟩
end
end TN
set_option Elab.async false
set_option linter.all false
set_option maxRecDepth 100000
set_option maxHeartbeats 2000000
set_option autoImplicit false
namespace TN
open PySem PySem.Spec PyProof.Rows L2
section
variable {K : PySem.W.Frag} {bor : List Nat} {ta tb : TE} {f g : FE}
end
end TN
set_option Elab.async false
set_option linter.all false
set_option maxRecDepth 100000
set_option maxHeartbeats 2000000
set_option autoImplicit false
namespace TN
open PySem PySem.Spec PyProof.Rows L2
def isL (x : Str) : Prop := ∃ c : Nat, x = ⟨#[c]⟩ ∧ 97 ≤ c ∧ c ≤ 122
structure GRow (r : List Str) : Prop where
  ne : r ≠ []
  few : r.length ≤ 16
  nd : r.Nodup
  let' : ∀ x ∈ r, isL x
abbrev tupL (r : List Str) : D := .tuple (r.map PyData.str)
abbrev lstL (r : List Str) : D := .list (r.map PyData.str)
abbrev pairS (t h : List Str) : D := .tuple [TN.tupL t, TN.tupL h]
structure GPair (t h : List Str) : Prop where
  gt : GRow t
  gh : GRow h
  pm : t.Perm h

def toF (r : List Str) (p : Nat) : List Str := [r.getD p ""] ++ r.take p ++ r.drop (p + 1)
end TN
set_option Elab.async false
set_option linter.all false
set_option maxRecDepth 100000
set_option maxHeartbeats 2000000
set_option autoImplicit false
namespace TN
open PySem PySem.Spec PyProof.Rows L2
def Spl (n : Int) (xs : List D) : Prop := ∃ a b c : Int, xs = [.int a, .int b, .int c] ∧ 0 ≤ a ∧ 0 ≤ b ∧ b < 100000000000000000000000000000000000000000 ∧ 0 ≤ c ∧ c ≤ n
theorem Spl.up {n m : Int} {xs : List D} (h : Spl n xs) (le : n ≤ m) : Spl m xs := by
  obtain ⟨a, b, c, e, h1, h2, h3, h4, h5⟩ := h
  exact ⟨a, b, c, e, h1, h2, h3, h4, by omega⟩
abbrev big : Int := 1000000000000

def semWind (xs ds : List D) (Q : Sl → List D → Prop) : Prop := ∃ n w : Int, Spl n xs ∧ n ≤ big ∧ ds = [.int w] ∧ 0 < w ∧ w < 1073741824 ∧
  ∀ (r : Int) (ys : List D), 0 ≤ r → r < w → Spl (n + 1) ys → Q (.sh (.int r)) ys

structure Ltr (r : List Str) : Prop where
  nd : r.Nodup
  let' : ∀ x ∈ r, isL x

inductive Ev where
  | place (p : Nat) | name (x : Str) | lost (p : Nat) | twice (p : Nat) | as' (p q : Nat)
def Ev.d : Ev → D
  | .place p => .tuple [.str "place", .int p]
  | .name x => .tuple [.str "name", .str x]
  | .lost p => .tuple [.str "lost", .int p]
  | .twice p => .tuple [.str "twice", .int p]
  | .as' p q => .tuple [.str "as", .int p, .int q]
def Ev.kind : Ev → Str
  | .place _ => "place" | .name _ => "name" | .lost _ => "lost" | .twice _ => "twice" | .as' _ _ => "as"

def Ev.ok (r : List Str) : Ev → Prop
  | .place p | .lost p | .twice p => p < r.length
  | .name x => x ∈ r
  | .as' p q => p < r.length ∧ q < r.length ∧ p ≠ q
def semLetter (ds : List D) (Q : Sl → Prop) : Prop := ∃ x, ds = [.str x] ∧ isL x ∧ Q (.sh (.bool true))
def semRow (ds : List D) (Q : Sl → Prop) : Prop := ∃ r, ds = [tupL r] ∧ GRow r ∧ Q (.sh (.bool true))
def semPair (ds : List D) (Q : Sl → Prop) : Prop := ∃ t h, ds = [pairS t h] ∧ GPair t h ∧ Q (.sh (.bool true))
def Ev.at (r : List Str) : Ev → Nat
  | .place p | .lost p | .twice p => p
  | .name x => (idxS x r).getD 0
  | .as' p _ => p
def Ev.takes (r : List Str) : Ev → List Nat
  | .place p => [p]
  | .lost _ => []
  | .twice p => [p, p]
  | .name x => [(idxS x r).getD 0]
  | .as' _ q => [q]
def takeAll : List Str → List Nat → List Str × List Str
  | r, [] => (r, [])
  | r, p :: ps => let q := takeAll (toF r p) ps; (q.1, r.getD p "" :: q.2)
def runT : List Str → List Ev → List Str × List Str
  | r, [] => (r, [])
  | r, e :: es => let q := runT (toF r (e.at r)) es; (q.1, r.getD (e.at r) "" :: q.2)
def runH : List Str → List Ev → List Str × List Str
  | r, [] => (r, [])
  | r, e :: es => let a := takeAll r (e.takes r); let q := runH a.1 es; (q.1, a.2 ++ q.2)
end TN
set_option Elab.async false
set_option linter.all false
set_option maxRecDepth 100000
set_option maxHeartbeats 2000000
set_option autoImplicit false
namespace TN
open PySem PySem.Spec PyProof.Rows L2
theorem imp_ff {a : Prop} : (false = true → a) ↔ True := by simp
theorem imp_tf {a : Prop} : (true = false → a) ↔ True := by simp
theorem imp_tt {a : Prop} : (true = true → a) ↔ a := by simp

inductive Fine : Nat → D → Prop
  | none {k : Nat} : Fine k .none
  | int {k : Nat} (i : Int) : Fine k (.int i)
  | str {k : Nat} {x : Str} (h : x.cps.all (· < 0x110000) = true) : Fine k (.str x)
  | list {k : Nat} {xs : List D} (h : ∀ x ∈ xs, Fine k x) : Fine (k + 1) (.list xs)
  | tuple {k : Nat} {xs : List D} (h : ∀ x ∈ xs, Fine k x) : Fine (k + 1) (.tuple xs)
theorem layAll {xs : List D} (h : ∀ x ∈ xs, x.canLay0 = true) : PyData.canLayAll0 xs = true := by
  induction xs with
  | nil => rfl
  | cons x xs ih =>
    rw [PyData.canLayAll0, h x List.mem_cons_self, ih fun y hy => h y (List.mem_cons_of_mem _ hy)]; rfl
theorem depAll {xs : List D} {k : Nat} (h : ∀ x ∈ xs, x.depth ≤ k) : PyData.depthAll xs ≤ k := by
  induction xs with
  | nil => rw [PyData.depthAll]; omega
  | cons x xs ih =>
    rw [PyData.depthAll]
    have := h x List.mem_cons_self
    have := ih fun y hy => h y (List.mem_cons_of_mem _ hy)
    omega
theorem Fine.lay {k : Nat} {d : D} (h : Fine k d) : d.canLay0 = true := by
  induction h with
  | none => rfl
  | int => rfl
  | str h => rw [PyData.canLay0]; exact h
  | list h ih => rw [PyData.canLay0]; exact layAll ih
  | tuple h ih => rw [PyData.canLay0]; exact layAll ih
theorem Fine.dep {k : Nat} {d : D} (h : Fine k d) : d.depth ≤ k := by
  induction h with
  | none => simp [PyData.depth]
  | int => simp [PyData.depth]
  | str h => simp [PyData.depth]
  | list h ih => rw [PyData.depth]; exact Nat.succ_le_succ (depAll ih)
  | tuple h ih => rw [PyData.depth]; exact Nat.succ_le_succ (depAll ih)
theorem Fine.sh {k : Nat} {d : D} (h : Fine k d) (le : k ≤ 64) : SeqAt.shaped d = true := by
  unfold SeqAt.shaped; rw [h.lay, Bool.true_and]; exact decide_eq_true (Nat.le_trans h.dep le)
theorem eqvAll_iff {xs : List D} : ∀ {ys : List D}, (∀ x ∈ xs, ∀ y ∈ ys, (PyData.eqv x y = true ↔ x = y)) → (PyData.eqvAll xs ys = true ↔ xs = ys) := by
  induction xs with
  | nil =>
    intro ys h
    cases ys <;> simp [PyData.eqvAll]
  | cons x xs ih =>
    intro ys h
    cases ys with
    | nil => simp [PyData.eqvAll]
    | cons y ys =>
      rw [PyData.eqvAll, Bool.and_eq_true, h x List.mem_cons_self y List.mem_cons_self, ih fun a ha b hb => h a (List.mem_cons_of_mem _ ha) b (List.mem_cons_of_mem _ hb), List.cons.injEq]
theorem Fine.eqv {k : Nat} {d : D} (h : Fine k d) : ∀ {l : Nat} {e : D}, Fine l e → (PyData.eqv d e = true ↔ d = e) := by
  induction h with
  | none => intro l e g; cases g <;> simp [PyData.eqv]
  | int => intro l e g; cases g <;> simp [PyData.eqv]
  | str h => intro l e g; cases g <;> simp [PyData.eqv]
  | list h ih =>
    intro l e g
    cases g with
    | list g => rw [PyData.eqv, PyData.list.injEq]; exact eqvAll_iff fun x hx y hy => ih x hx (g y hy)
    | _ => simp [PyData.eqv]
  | tuple h ih =>
    intro l e g
    cases g with
    | tuple g => rw [PyData.eqv, PyData.tuple.injEq]; exact eqvAll_iff fun x hx y hy => ih x hx (g y hy)
    | _ => simp [PyData.eqv]
open Classical in
theorem oEq_is {d e : D} (h : Fine 9 d) (g : Fine 9 e) : oEq d e = some (.bool (decide (d = e))) := by
  unfold oEq
  rw [if_pos ⟨h.sh (by decide), g.sh (by decide)⟩, Bool.eq_iff_iff.mpr ((h.eqv g).trans (decide_eq_true_iff (p := d = e)).symm)]
open Classical in
theorem oNe_is {d e : D} (h : Fine 9 d) (g : Fine 9 e) : oNe d e = some (.bool (!decide (d = e))) := by
  unfold oNe
  rw [if_pos ⟨h.sh (by decide), g.sh (by decide)⟩, Bool.eq_iff_iff.mpr ((h.eqv g).trans (decide_eq_true_iff (p := d = e)).symm)]
theorem oEq_int {i j : Int} : oEq (.int i) (.int j) = some (.bool (decide (i = j))) := by
  rw [oEq_is (.int _) (.int _)]; simp
theorem oNe_int {i j : Int} : oNe (.int i) (.int j) = some (.bool (!decide (i = j))) := by
  rw [oNe_is (.int _) (.int _)]; simp
abbrev okS (x : Str) : Prop := x.cps.all (· < 0x110000) = true
theorem oEq_str {x y : Str} (h : okS x) (g : okS y) : oEq (.str x) (.str y) = some (.bool (decide (x = y))) := by
  rw [oEq_is (.str h) (.str g)]; simp
theorem oNe_str {x y : Str} (h : okS x) (g : okS y) : oNe (.str x) (.str y) = some (.bool (!decide (x = y))) := by
  rw [oNe_is (.str h) (.str g)]; simp
theorem isL.ok {x : Str} (h : isL x) : okS x := by
  obtain ⟨c, rfl, h1, h2⟩ := h
  simp [okS]; omega
theorem isL.len {x : Str} (h : isL x) : x.length = 1 := by
  obtain ⟨c, rfl, h1, h2⟩ := h; rfl
theorem fine_strs {k : Nat} {xs : List Str} (h : ∀ x ∈ xs, okS x) : ∀ d ∈ xs.map PyData.str, Fine k d := fun d hd => by
  obtain ⟨x, hx, rfl⟩ := List.mem_map.mp hd
  exact .str (h x hx)
theorem fine_tupL {k : Nat} {xs : List Str} (h : ∀ x ∈ xs, okS x) : Fine (k + 1) (tupL xs) := .tuple (fine_strs h)
theorem fine_lstL {k : Nat} {xs : List Str} (h : ∀ x ∈ xs, okS x) : Fine (k + 1) (lstL xs) := .list (fine_strs h)
theorem GRow.oks {r : List Str} (h : GRow r) : ∀ x ∈ r, okS x := fun x hx => (h.let' x hx).ok
theorem map_str_inj : ∀ {xs ys : List Str}, xs.map PyData.str = ys.map PyData.str ↔ xs = ys
  | [], [] => by simp
  | [], _ :: _ => by simp
  | _ :: _, [] => by simp
  | x :: xs, y :: ys => by rw [List.map_cons, List.map_cons, List.cons.injEq, PyData.str.injEq, map_str_inj, List.cons.injEq]
theorem getD_of {α : Type} {r : List α} {p : Nat} {x : α} (h : p < r.length) : r.getD p x = r[p] := by
  simp [List.getD, List.getElem?_eq_getElem h]

theorem ixN_nat {n p : Nat} (h : p < n) : ixN n (p : Int) = some p := by
  unfold ixN; rw [if_pos (by omega), if_pos (by omega), Int.toNat_natCast]
theorem atI_nat {α : Type} {xs : List α} {p : Nat} (h : p < xs.length) : atI xs (p : Int) = some xs[p] := by
  unfold atI; rw [ixN_nat h]; exact List.getElem?_eq_getElem h
theorem oLen_tupL {r : List Str} : oLen [tupL r] = some (.int r.length) := by
  show some (PyData.int (r.map PyData.str).length) = _; rw [List.length_map]
theorem oLen_lstL {r : List Str} : oLen [lstL r] = some (.int r.length) := by
  show some (PyData.int (r.map PyData.str).length) = _; rw [List.length_map]
theorem blsOf_rep : ∀ n : Nat, blsOf (List.replicate n (.bool true)) = some (List.replicate n true)
  | 0 => rfl
  | n + 1 => by rw [List.replicate_succ, blsOf, blsOf_rep n]; rfl
theorem oAll_rep (n : Nat) : oAll [.list (List.replicate n (.bool true))] = some (.bool true) := by
  show (blsOf _).map _ = _
  rw [blsOf_rep]; simp
theorem cut_to {xs : List D} {p : Nat} : cutD xs none (some p) = xs.take p := by
  unfold cutD; rw [HT.sIx_none, HT.sIx_nat, Nat.sub_zero, List.drop_zero]
  by_cases h : p ≤ xs.length
  · rw [Nat.min_eq_left h]
  · rw [Nat.min_eq_right (by omega), List.take_of_length_le (Nat.le_refl _), List.take_of_length_le (by omega)]
theorem cut_from {xs : List D} {p : Nat} : cutD xs (some p) none = xs.drop p := by
  unfold cutD; rw [HT.sIx_none, HT.sIx_nat]
  by_cases h : p ≤ xs.length
  · rw [Nat.min_eq_left h, List.take_of_length_le (by rw [List.length_drop]; omega)]
  · rw [Nat.min_eq_right (by omega), List.drop_eq_nil_of_le (Nat.le_refl _), List.drop_eq_nil_of_le (by omega)]; simp
theorem oSl_to {r : List Str} {p : Nat} : oSlice none (some p) (tupL r) = some (tupL (r.take p)) := by
  show some (PyData.tuple (cutD _ _ _)) = _; rw [cut_to, ← List.map_take]
theorem oSlL_to {r : List Str} {p : Nat} : oSlice none (some p) (lstL r) = some (lstL (r.take p)) := by
  show some (PyData.list (cutD _ _ _)) = _; rw [cut_to, ← List.map_take]
theorem oAdd_int {i j : Int} : oAdd (.int i) (.int j) = some (.int (i + j)) := rfl
theorem oSub_int {i j : Int} : oSub (.int i) (.int j) = some (.int (i - j)) := rfl
theorem oU_int {c : Int → Int → Bool} {d : Str → Str → Bool} {i j : Int} : oU c d (.int i) (.int j) = some (.bool (c i j)) := rfl
theorem oU_str {c : Int → Int → Bool} {d : Str → Str → Bool} {i j : Str} : oU c d (.str i) (.str j) = some (.bool (d i j)) := rfl
theorem oAdd_tup {a b : List Str} (h : a.length + b.length ≤ 100000) : oAdd (tupL a) (tupL b) = some (tupL (a ++ b)) := by
  show (if (a.map PyData.str).length + (b.map PyData.str).length ≤ 100000 then _ else _) = _
  rw [List.length_map, List.length_map, if_pos h, ← List.map_append]

theorem comp_all {j : Nat} {vs : List Nat} {A : TDE} {Q : List D → List Sl → Prop} {ρ0 : List Sl} (I : D → Prop) (out : D → D)
    (own : (vs.all fun v => plainAt v ρ0) = true) (back : ∀ d, backD ρ0 ((wipeD ρ0 vs).set j (.sh d)) vs = ρ0)
    (turn : ∀ d (R : D → List Sl → Prop), I d → R (out d) ((wipeD ρ0 vs).set j (.sh d)) → A ((wipeD ρ0 vs).set j (.sh d)) R) :
    ∀ (ds acc : List D), (∀ d ∈ ds, I d) → acc.length + ds.length ≤ 100000 → Q (acc ++ ds.map out) ρ0 → compD j vs dYes A Q ds acc ρ0
  | [], acc, _, _, q => by simpa [compD] using q
  | d :: ds, acc, h, few, q => by
    refine ⟨own, fun _ => ?_, fun z => by cases z⟩
    refine turn d _ (h d List.mem_cons_self) ⟨by rw [List.length_cons] at few; omega, ?_⟩
    rw [back]
    refine comp_all I out own back turn ds _ (fun e he => h e (List.mem_cons_of_mem _ he)) (by rw [List.length_append]; rw [List.length_cons] at few; simp only [List.length_cons, List.length_nil]; omega) ?_
    rw [List.append_assoc]; exact q
theorem w_eq {a : Str} (ha : okS a) : oEq (.str a) (.str a) = some (.bool true) := by rw [oEq_str ha ha, decide_eq_true rfl]
theorem w_ne {a b : Str} (ha : okS a) (hb : okS b) (h : a ≠ b) : oEq (.str a) (.str b) = some (.bool false) := by rw [oEq_str ha hb, decide_eq_false h]
theorem n_eq {a : Str} (ha : okS a) : oNe (.str a) (.str a) = some (.bool false) := by rw [oNe_str ha ha, decide_eq_true rfl]; rfl
theorem n_ne {a b : Str} (ha : okS a) (hb : okS b) (h : a ≠ b) : oNe (.str a) (.str b) = some (.bool true) := by rw [oNe_str ha hb, decide_eq_false h]; rfl
theorem w_place_place : oEq (.str (Str.ofString "place")) (.str (Str.ofString "place")) = some (.bool true) := w_eq (by decide +kernel)
theorem n_place_place : oNe (.str (Str.ofString "place")) (.str (Str.ofString "place")) = some (.bool false) := n_eq (by decide +kernel)
theorem w_place_name : oEq (.str (Str.ofString "place")) (.str (Str.ofString "name")) = some (.bool false) := w_ne (by decide +kernel) (by decide +kernel) (by decide +kernel)
theorem n_place_name : oNe (.str (Str.ofString "place")) (.str (Str.ofString "name")) = some (.bool true) := n_ne (by decide +kernel) (by decide +kernel) (by decide +kernel)
theorem w_place_lost : oEq (.str (Str.ofString "place")) (.str (Str.ofString "lost")) = some (.bool false) := w_ne (by decide +kernel) (by decide +kernel) (by decide +kernel)
theorem n_place_lost : oNe (.str (Str.ofString "place")) (.str (Str.ofString "lost")) = some (.bool true) := n_ne (by decide +kernel) (by decide +kernel) (by decide +kernel)
theorem w_place_twice : oEq (.str (Str.ofString "place")) (.str (Str.ofString "twice")) = some (.bool false) := w_ne (by decide +kernel) (by decide +kernel) (by decide +kernel)
theorem n_place_twice : oNe (.str (Str.ofString "place")) (.str (Str.ofString "twice")) = some (.bool true) := n_ne (by decide +kernel) (by decide +kernel) (by decide +kernel)
theorem w_place_as : oEq (.str (Str.ofString "place")) (.str (Str.ofString "as")) = some (.bool false) := w_ne (by decide +kernel) (by decide +kernel) (by decide +kernel)
theorem n_place_as : oNe (.str (Str.ofString "place")) (.str (Str.ofString "as")) = some (.bool true) := n_ne (by decide +kernel) (by decide +kernel) (by decide +kernel)
theorem w_name_place : oEq (.str (Str.ofString "name")) (.str (Str.ofString "place")) = some (.bool false) := w_ne (by decide +kernel) (by decide +kernel) (by decide +kernel)
theorem n_name_place : oNe (.str (Str.ofString "name")) (.str (Str.ofString "place")) = some (.bool true) := n_ne (by decide +kernel) (by decide +kernel) (by decide +kernel)
theorem w_name_name : oEq (.str (Str.ofString "name")) (.str (Str.ofString "name")) = some (.bool true) := w_eq (by decide +kernel)
theorem n_name_name : oNe (.str (Str.ofString "name")) (.str (Str.ofString "name")) = some (.bool false) := n_eq (by decide +kernel)
theorem w_name_lost : oEq (.str (Str.ofString "name")) (.str (Str.ofString "lost")) = some (.bool false) := w_ne (by decide +kernel) (by decide +kernel) (by decide +kernel)
theorem n_name_lost : oNe (.str (Str.ofString "name")) (.str (Str.ofString "lost")) = some (.bool true) := n_ne (by decide +kernel) (by decide +kernel) (by decide +kernel)
theorem w_name_twice : oEq (.str (Str.ofString "name")) (.str (Str.ofString "twice")) = some (.bool false) := w_ne (by decide +kernel) (by decide +kernel) (by decide +kernel)
theorem n_name_twice : oNe (.str (Str.ofString "name")) (.str (Str.ofString "twice")) = some (.bool true) := n_ne (by decide +kernel) (by decide +kernel) (by decide +kernel)
theorem w_name_as : oEq (.str (Str.ofString "name")) (.str (Str.ofString "as")) = some (.bool false) := w_ne (by decide +kernel) (by decide +kernel) (by decide +kernel)
theorem n_name_as : oNe (.str (Str.ofString "name")) (.str (Str.ofString "as")) = some (.bool true) := n_ne (by decide +kernel) (by decide +kernel) (by decide +kernel)
theorem w_lost_place : oEq (.str (Str.ofString "lost")) (.str (Str.ofString "place")) = some (.bool false) := w_ne (by decide +kernel) (by decide +kernel) (by decide +kernel)
theorem n_lost_place : oNe (.str (Str.ofString "lost")) (.str (Str.ofString "place")) = some (.bool true) := n_ne (by decide +kernel) (by decide +kernel) (by decide +kernel)
theorem w_lost_name : oEq (.str (Str.ofString "lost")) (.str (Str.ofString "name")) = some (.bool false) := w_ne (by decide +kernel) (by decide +kernel) (by decide +kernel)
theorem n_lost_name : oNe (.str (Str.ofString "lost")) (.str (Str.ofString "name")) = some (.bool true) := n_ne (by decide +kernel) (by decide +kernel) (by decide +kernel)
theorem w_lost_lost : oEq (.str (Str.ofString "lost")) (.str (Str.ofString "lost")) = some (.bool true) := w_eq (by decide +kernel)
theorem n_lost_lost : oNe (.str (Str.ofString "lost")) (.str (Str.ofString "lost")) = some (.bool false) := n_eq (by decide +kernel)
theorem w_lost_twice : oEq (.str (Str.ofString "lost")) (.str (Str.ofString "twice")) = some (.bool false) := w_ne (by decide +kernel) (by decide +kernel) (by decide +kernel)
theorem n_lost_twice : oNe (.str (Str.ofString "lost")) (.str (Str.ofString "twice")) = some (.bool true) := n_ne (by decide +kernel) (by decide +kernel) (by decide +kernel)
theorem w_lost_as : oEq (.str (Str.ofString "lost")) (.str (Str.ofString "as")) = some (.bool false) := w_ne (by decide +kernel) (by decide +kernel) (by decide +kernel)
theorem n_lost_as : oNe (.str (Str.ofString "lost")) (.str (Str.ofString "as")) = some (.bool true) := n_ne (by decide +kernel) (by decide +kernel) (by decide +kernel)
theorem w_twice_place : oEq (.str (Str.ofString "twice")) (.str (Str.ofString "place")) = some (.bool false) := w_ne (by decide +kernel) (by decide +kernel) (by decide +kernel)
theorem n_twice_place : oNe (.str (Str.ofString "twice")) (.str (Str.ofString "place")) = some (.bool true) := n_ne (by decide +kernel) (by decide +kernel) (by decide +kernel)
theorem w_twice_name : oEq (.str (Str.ofString "twice")) (.str (Str.ofString "name")) = some (.bool false) := w_ne (by decide +kernel) (by decide +kernel) (by decide +kernel)
theorem n_twice_name : oNe (.str (Str.ofString "twice")) (.str (Str.ofString "name")) = some (.bool true) := n_ne (by decide +kernel) (by decide +kernel) (by decide +kernel)
theorem w_twice_lost : oEq (.str (Str.ofString "twice")) (.str (Str.ofString "lost")) = some (.bool false) := w_ne (by decide +kernel) (by decide +kernel) (by decide +kernel)
theorem n_twice_lost : oNe (.str (Str.ofString "twice")) (.str (Str.ofString "lost")) = some (.bool true) := n_ne (by decide +kernel) (by decide +kernel) (by decide +kernel)
theorem w_twice_twice : oEq (.str (Str.ofString "twice")) (.str (Str.ofString "twice")) = some (.bool true) := w_eq (by decide +kernel)
theorem n_twice_twice : oNe (.str (Str.ofString "twice")) (.str (Str.ofString "twice")) = some (.bool false) := n_eq (by decide +kernel)
theorem w_twice_as : oEq (.str (Str.ofString "twice")) (.str (Str.ofString "as")) = some (.bool false) := w_ne (by decide +kernel) (by decide +kernel) (by decide +kernel)
theorem n_twice_as : oNe (.str (Str.ofString "twice")) (.str (Str.ofString "as")) = some (.bool true) := n_ne (by decide +kernel) (by decide +kernel) (by decide +kernel)
theorem w_as_place : oEq (.str (Str.ofString "as")) (.str (Str.ofString "place")) = some (.bool false) := w_ne (by decide +kernel) (by decide +kernel) (by decide +kernel)
theorem n_as_place : oNe (.str (Str.ofString "as")) (.str (Str.ofString "place")) = some (.bool true) := n_ne (by decide +kernel) (by decide +kernel) (by decide +kernel)
theorem w_as_name : oEq (.str (Str.ofString "as")) (.str (Str.ofString "name")) = some (.bool false) := w_ne (by decide +kernel) (by decide +kernel) (by decide +kernel)
theorem n_as_name : oNe (.str (Str.ofString "as")) (.str (Str.ofString "name")) = some (.bool true) := n_ne (by decide +kernel) (by decide +kernel) (by decide +kernel)
theorem w_as_lost : oEq (.str (Str.ofString "as")) (.str (Str.ofString "lost")) = some (.bool false) := w_ne (by decide +kernel) (by decide +kernel) (by decide +kernel)
theorem n_as_lost : oNe (.str (Str.ofString "as")) (.str (Str.ofString "lost")) = some (.bool true) := n_ne (by decide +kernel) (by decide +kernel) (by decide +kernel)
theorem w_as_twice : oEq (.str (Str.ofString "as")) (.str (Str.ofString "twice")) = some (.bool false) := w_ne (by decide +kernel) (by decide +kernel) (by decide +kernel)
theorem n_as_twice : oNe (.str (Str.ofString "as")) (.str (Str.ofString "twice")) = some (.bool true) := n_ne (by decide +kernel) (by decide +kernel) (by decide +kernel)
theorem w_as_as : oEq (.str (Str.ofString "as")) (.str (Str.ofString "as")) = some (.bool true) := w_eq (by decide +kernel)
theorem n_as_as : oNe (.str (Str.ofString "as")) (.str (Str.ofString "as")) = some (.bool false) := n_eq (by decide +kernel)
theorem ix0 {x : D} {xs : List D} : oIx (.tuple (x :: xs)) (.int 0) = some x := by
  show atI _ _ = _
  have := atI_nat (xs := x :: xs) (p := 0) (by simp)
  simpa using this
theorem ix1 {x y : D} {xs : List D} : oIx (.tuple (x :: y :: xs)) (.int 1) = some y := by
  show atI _ _ = _
  have := atI_nat (xs := x :: y :: xs) (p := 1) (by simp)
  simpa using this
theorem ix2 {x y z : D} {xs : List D} : oIx (.tuple (x :: y :: z :: xs)) (.int 2) = some z := by
  show atI _ _ = _
  have := atI_nat (xs := x :: y :: z :: xs) (p := 2) (by simp)
  simpa using this
theorem ixl0 {x : D} {xs : List D} : oIx (.list (x :: xs)) (.int 0) = some x := ix0
theorem ixl1 {x y : D} {xs : List D} : oIx (.list (x :: y :: xs)) (.int 1) = some y := ix1
theorem ixl2 {x y z : D} {xs : List D} : oIx (.list (x :: y :: z :: xs)) (.int 2) = some z := ix2
theorem ixm2 {x y : D} : oIx (.tuple [x, y]) (.int (-1)) = some y := rfl
theorem ixm3 {x y z : D} : oIx (.tuple [x, y, z]) (.int (-1)) = some z := rfl
theorem len2 {x y : D} : oLen [.tuple [x, y]] = some (.int 2) := rfl
theorem len3 {x y z : D} : oLen [.tuple [x, y, z]] = some (.int 3) := rfl
theorem neg1 : oNeg (.int 1) = some (.int (-1)) := rfl
theorem ty_tup {xs : List D} : tyD (.tuple xs) = "tuple" := rfl
theorem ty_lst {xs : List D} : tyD (.list xs) = "list" := rfl
theorem ty_str {xs : Str} : tyD (.str xs) = "str" := rfl
theorem ty_int {i : Int} : tyD (.int i) = "int" := rfl
theorem idxS_mem {x : Str} : ∀ {r : List Str}, x ∈ r → ∃ j, idxS x r = some j ∧ j < r.length
  | [], h => by cases h
  | y :: r, h => by
    unfold idxS
    by_cases e : y = x
    · exact ⟨0, by rw [if_pos e], by simp⟩
    · rw [if_neg e]
      rcases List.mem_cons.mp h with z | z
      · exact absurd z.symm e
      · obtain ⟨j, h1, h2⟩ := idxS_mem z
        exact ⟨j + 1, by rw [h1]; rfl, by rw [List.length_cons]; omega⟩
theorem oTIdx_of {x : Str} {r : List Str} (h : x ∈ r) : oTIdx (tupL r) (.str x) = some (.int ((idxS x r).getD 0 : Nat)) := by
  obtain ⟨j, h1, h2⟩ := idxS_mem h
  show (strsOf (r.map PyData.str)).bind _ = _
  rw [strsOf_map, Option.bind_some, h1]; rfl
theorem idx_lt {x : Str} {r : List Str} (h : x ∈ r) : (idxS x r).getD 0 < r.length := by
  obtain ⟨j, h1, h2⟩ := idxS_mem h
  rw [h1]; exact h2
theorem metS_nd {r : List Str} (h : r.Nodup) : metS r = r := by
  have key : ∀ (l acc : List Str), (acc ++ l).Nodup → l.foldl (fun acc x => if x ∈ acc then acc else acc ++ [x]) acc = acc ++ l := by
    intro l
    induction l with
    | nil => intro acc _; simp
    | cons x l ih =>
      intro acc nd
      have hx : x ∉ acc := fun z => by
        rw [List.nodup_append] at nd
        exact nd.2.2 x z x List.mem_cons_self rfl
      rw [List.foldl_cons, if_neg hx, ih (acc ++ [x]) (by rw [List.append_assoc]; exact nd), List.append_assoc]; rfl
  have := key r [] h
  simpa [metS] using this
theorem oLenSet_nd {r : List Str} (h : r.Nodup) (few : r.length < 4000) : oLenSet (tupL r) = some (.int r.length) := by
  show (strsOf (r.map PyData.str)).bind _ = _
  rw [strsOf_map, Option.bind_some, if_pos few, metS_nd h]
theorem oSorted_tupL {r : List Str} (few : r.length < 64) : oSorted [tupL r] = some ((sortS r).map PyData.str) := by
  show (strsOf (r.map PyData.str)).bind _ = _
  rw [strsOf_map, Option.bind_some, if_pos few]
theorem oAll_tt {xs : List D} : oAll [.list (xs.map fun _ => PyData.bool true)] = some (.bool true) := by
  rw [List.map_const']; exact oAll_rep _
theorem oSL_of {r : List Str} (few : r.length < 64) : oL oSorted [tupL r] = some (lstL (sortS r)) := by
  unfold oL; rw [oSorted_tupL few]; rfl
theorem GPair.len {t h : List Str} (p : GPair t h) : h.length = t.length := p.pm.length_eq.symm
theorem oMul_l {i j : Int} (h : -18446744073709551616 < i ∧ i < 18446744073709551616) : oMul (.int i) (.int j) = some (.int (i * j)) := if_pos (.inl h)
theorem oPow3 {x : Int} (h0 : 0 ≤ x) (h1 : x < 1000000000000000000000000000000000000000000) : oPow (.int x) (.int 3) = some (.int (x ^ 3)) :=
  if_pos ⟨by omega, by omega, Nat.lt_of_lt_of_le (show x.natAbs < 1000000000000000000000000000000000000000000 by omega) (by decide +kernel)⟩
theorem oPow_p {x : Int} {k : Nat} {z : Int} (hk : k ≤ 1000) (h : x.natAbs < 1000000) (e : x ^ k = z) : oPow (.int x) (.int k) = some (.int z) := by
  show (if 0 ≤ (k : Int) ∧ (k : Int) ≤ 1000 ∧ x.natAbs < 2 ^ 1024 then some (PyData.int (x ^ (k : Int).toNat)) else none) = _
  rw [if_pos ⟨by omega, by omega, Nat.lt_trans h (by decide +kernel)⟩, Int.toNat_natCast, e]
theorem pw18 : oPow (.int 10) (.int 18) = some (.int 1000000000000000000) := oPow_p (k := 18) (by decide) (by decide) (by decide +kernel)
theorem oMod_p {i j : Int} (h : 0 < j) : oMod (.int i) (.int j) = some (.int (i % j)) := if_pos h
theorem oDiv_p {i j : Int} (h : 0 < j) (g : j < 1073741824) : oDiv (.int i) (.int j) = some (.int (i / j)) := if_pos ⟨h, g⟩
end TN
set_option Elab.async false
set_option linter.all false
set_option maxRecDepth 100000
set_option maxHeartbeats 2000000
set_option autoImplicit false
namespace TN
open PySem PySem.Spec PyProof.Rows L2
theorem split_at {r : List Str} {p : Nat} (h : p < r.length) : r.take p ++ ([r.getD p ""] ++ r.drop (p + 1)) = r := by
  rw [getD_of h]
  show r.take p ++ (r[p] :: r.drop (p + 1)) = r
  rw [← List.drop_eq_getElem_cons h, List.take_append_drop]
theorem toF_perm {r : List Str} {p : Nat} (h : p < r.length) : (toF r p).Perm r := by
  have e := split_at h
  unfold toF
  rw [List.append_assoc]
  refine (List.Perm.trans ?_ (List.Perm.of_eq e))
  rw [← List.append_assoc, ← List.append_assoc]
  exact List.Perm.append_right _ List.perm_append_comm
theorem toF_len {r : List Str} {p : Nat} (h : p < r.length) : (toF r p).length = r.length := (toF_perm h).length_eq
theorem Ev.ok_perm {r r' : List Str} (p : r.Perm r') {e : Ev} (h : e.ok r) : e.ok r' := by
  have l := p.length_eq
  cases e with
  | name x => exact p.mem_iff.mp h
  | as' a b => exact ⟨l ▸ h.1, l ▸ h.2.1, h.2.2⟩
  | _ q => exact (l ▸ h : q < r'.length)
theorem Ev.at_lt {r : List Str} {e : Ev} (h : e.ok r) : e.at r < r.length := by
  cases e with
  | name x => exact idx_lt h
  | as' a b => exact h.1
  | _ q => exact h
theorem Ev.takes_lt {r : List Str} {e : Ev} (h : e.ok r) : ∀ p ∈ e.takes r, p < r.length := by
  intro p hp
  cases e with
  | name x => simp [Ev.takes] at hp; subst hp; exact idx_lt h
  | as' a b => simp [Ev.takes] at hp; subst hp; exact h.2.1
  | place q => simp [Ev.takes] at hp; subst hp; exact h
  | lost q => simp [Ev.takes] at hp
  | twice q => simp [Ev.takes] at hp; subst hp; exact h
theorem takeAll_perm : ∀ (ps : List Nat) {r : List Str}, (∀ p ∈ ps, p < r.length) → (takeAll r ps).1.Perm r
  | [], r, _ => .refl _
  | p :: ps, r, h => by
    have h0 := h p List.mem_cons_self
    exact (takeAll_perm ps (r := toF r p) fun q hq => toF_len h0 ▸ h q (List.mem_cons_of_mem _ hq)).trans (toF_perm h0)
abbrev mixEl : TDE := dPopAt 2 (dCallB semWind 0 (dCons (dP (fCB oLen (fCons (fPeek 2) fNil))) dNil))
theorem perm_out {L : List D} {k : Nat} {d : D} (h : L[k]? = some d) : L.Perm (d :: L.eraseIdx k) := by
  obtain ⟨hk, e⟩ := List.getElem?_eq_some_iff.mp h
  rw [List.eraseIdx_eq_take_drop_succ]
  refine List.Perm.trans (List.Perm.of_eq ?_) (List.perm_middle (a := d) (l₁ := L.take k) (l₂ := L.drop (k + 1)))
  rw [← e, ← List.drop_eq_getElem_cons hk, List.take_append_drop]
theorem mix_turns {Q : List D → List Sl → Prop} {a1 : Sl} : ∀ (ds acc L xs : List D) (n : Int), Spl n xs → n + ds.length ≤ big → ds.length = L.length → acc.length + L.length ≤ 1000 →
    (∀ L' ys, L'.Perm (acc ++ L) → Spl (n + ds.length) ys → Q L' [.ow ys, a1, .ow [], .no]) →
    compD 3 [3] dYes mixEl Q ds acc [.ow xs, a1, .ow L, .no]
  | [], acc, L, xs, n, sp, _, el, few, q => by
    have : L = [] := List.length_eq_zero_iff.mp el.symm
    subst this
    exact q acc xs (by rw [List.append_nil]) (by simpa using sp)
  | d :: ds, acc, L, xs, n, sp, hb, el, few, q => by
    rw [List.length_cons] at el
    have hb' : n + ((ds.length + 1 : Nat) : Int) ≤ 1000000000000 := hb
    refine ⟨rfl, fun _ => ?_, (fun z => by cases z)⟩
    (simp only [TN.sSeq, TN.sNext, TN.sDrop, TN.sRet, TN.sRetL, TN.sRetN, TN.sIf, TN.sAsg, TN.sAsgL, TN.sStore, TN.sForL, TN.sForT, TN.sForR, TN.sForR2, TN.tgN, TN.tgTup, TN.tgCons, TN.tgNil, TN.dP, TN.dB, TN.dCall, TN.dCallL, TN.dCallB, TN.dCallBL, TN.dCons, TN.dNil, TN.dTup, TN.dLst, TN.dKeep, TN.dVar, TN.fVar, TN.fPeek, TN.fC, TN.f2, TN.d2, TN.d2V, TN.f1, TN.d1, TN.fCB, TN.dCB, TN.dCBL, TN.fNil, TN.fCons, TN.asBool, TN.dTest, TN.bAnd, TN.bOr, TN.bNot, TN.dAnd, TN.dOr, TN.dNot, TN.fAndV, TN.fOrV, TN.fNotV, TN.dAndV, TN.dOrV, TN.dNotV, TN.dIfE, TN.dIfL, TN.fIfE, TN.fChain, TN.fSlice, TN.dSlice, TN.fNo, TN.fEnd, TN.dAppend, TN.dInsert, TN.dPopAt, TN.ownL, TN.start0, TN.begB, TN.backD, TN.wipeD, TN.dYes, TN.sNever, List.getElem?_cons_zero, List.getElem?_cons_succ, List.set_cons_zero, List.set_cons_succ, List.map_cons, List.map_nil, List.length_cons, List.length_nil, List.cons_append, List.nil_append, List.replicate_succ, List.replicate_zero, Option.map_some, Option.map_none, Nat.add_one_sub_one, Nat.sub_zero, Nat.sub_self, Nat.zero_add, reduceCtorEq, Option.some.injEq, PyData.int.injEq, PyData.str.injEq, PyData.bool.injEq, PyData.list.injEq, PyData.tuple.injEq, Sl.sh.injEq, Sl.ow.injEq, List.cons.injEq, exists_eq_left', exists_eq_left, true_implies, false_implies, and_true, true_and, forall_const, Option.isSome_some, TN.imp_ff, TN.imp_tf, TN.imp_tt, exists_eq_left, exists_eq_left', exists_eq])
    have l1 : oLen [.list L] = some (.int L.length) := rfl
    rw [l1]
    refine ⟨_, rfl, n, (L.length : Int), sp, by show n ≤ 1000000000000; omega, rfl, by omega, by omega, fun r ys r0 r1 sp' => ⟨_, rfl, ?_⟩⟩
    obtain ⟨k, rfl⟩ : ∃ k : Nat, r = k := ⟨r.toNat, by omega⟩
    have hk : k < L.length := by omega
    have hd : L[k]? = some L[k] := List.getElem?_eq_getElem hk
    refine ⟨L, (k : Int), k, L[k], rfl, by omega, rfl, ixN_nat hk, hd, by omega, ?_⟩
    have pe := perm_out hd
    have le := List.length_eraseIdx_of_lt hk
    refine mix_turns ds (acc ++ [L[k]]) (L.eraseIdx k) ys (n + 1) sp' (by show n + 1 + (ds.length : Int) ≤ 1000000000000; omega) (by omega) (by rw [List.length_append, List.length_singleton]; omega) fun L' ys' p sp2 => ?_
    refine q L' ys' (p.trans ?_) ?_
    · rw [List.append_assoc]
      exact List.Perm.append_left _ pe.symm
    · rw [List.length_cons]
      exact (by have : n + 1 + (ds.length : Int) = n + ((ds.length + 1 : Nat) : Int) := by omega
                rw [← this]; exact sp2)
theorem windN {n w : Int} {xs : List D} {Q : Sl → List D → Prop} (sp : Spl n xs) (hn : n ≤ big) (w0 : 0 < w) (w1 : w < 1073741824) (q : ∀ (k : Nat) (ys : List D), (k : Int) < w → Spl (n + 1) ys → Q (.sh (.int k)) ys) : semWind xs [.int w] Q :=
  ⟨n, w, sp, hn, rfl, w0, w1, fun r ys r0 r1 sp' => by
    obtain ⟨k, rfl⟩ : ∃ k : Nat, r = k := ⟨r.toNat, by omega⟩
    exact q k ys r1 sp'⟩
def unS : D → Str
  | .str s => s
  | _ => Str.empty
abbrev SIGNS : Str := Str.ofString "abcdefghijklmnopqrstuvwxyz"
def alpha (n : Nat) : List Str := (List.range n).map fun c => (⟨#[97 + c]⟩ : Str)
theorem alpha_cut {n : Nat} (h : n ≤ 26) : ∃ z, oSlice none (some (n : Int)) (.str SIGNS) = some (.str z) ∧ oList [.str z] = some ((alpha n).map PyData.str) := by
  have key : ∀ n : Fin 27, (cutS SIGNS none (some ((n.val : Nat) : Int))).cps.toList = (List.range n.val).map (97 + ·) := by decide +kernel
  have k := key ⟨n, by omega⟩
  have few : SIGNS.length ≤ 100000 := by decide +kernel
  refine ⟨cutS SIGNS none (some (n : Int)), by show (if SIGNS.length ≤ 100000 then some (PyData.str (cutS SIGNS none (some (n : Int)))) else none) = _; rw [if_pos few], ?_⟩
  have sz : (cutS SIGNS none (some (n : Int))).cps.size ≤ 100000 := by
    rw [← Array.length_toList, k, List.length_map, List.length_range]; omega
  refine (if_pos sz).trans ?_
  rw [k, alpha, List.map_map, List.map_map]; rfl
theorem alpha_len (n : Nat) : (alpha n).length = n := by unfold alpha; rw [List.length_map, List.length_range]
theorem alpha_nd (n : Nat) : (alpha n).Nodup := by
  unfold alpha
  have hn : (List.range n).Nodup := List.nodup_range
  unfold List.Nodup at *
  rw [List.pairwise_map]
  refine hn.imp fun {a b} h z => h ?_
  injection z with z
  have : ([97 + a] : List Nat) = [97 + b] := congrArg Array.toList z
  injection this with this
  omega
theorem alpha_let {n : Nat} (h : n ≤ 26) : ∀ x ∈ alpha n, isL x := by
  intro x hx
  obtain ⟨c, hc, rfl⟩ := List.mem_map.mp hx
  have := List.mem_range.mp hc
  exact ⟨97 + c, rfl, by omega, by omega⟩
theorem row_take {l : List Str} {n : Nat} (p : l.Perm (alpha 26)) (h0 : 0 < n) (h1 : n ≤ 16) : GRow (l.take n) where
  ne := by
    have := p.length_eq
    rw [alpha_len] at this
    intro z
    have := congrArg List.length z
    rw [List.length_take, List.length_nil] at this
    omega
  few := by rw [List.length_take]; omega
  nd := (p.nodup_iff.mpr (alpha_nd 26)).sublist (List.take_sublist _ _)
  let' := fun x hx => alpha_let (by decide) x (p.mem_iff.mp (List.mem_of_mem_take hx))
theorem GRow.perm {r r' : List Str} (h : GRow r) (p : r'.Perm r) : GRow r' where
  ne := fun z => h.ne (by subst z; exact p.nil_eq.symm)
  few := by rw [p.length_eq]; exact h.few
  nd := p.nodup_iff.mpr h.nd
  let' := fun x hx => h.let' x (p.mem_iff.mp hx)
theorem rangeD_len {j : Int} {n : Nat} : (rangeD j n).length = n := by unfold rangeD; rw [List.length_map, List.length_range]
end TN
set_option Elab.async false
set_option linter.all false
set_option maxRecDepth 100000
set_option maxHeartbeats 2000000
set_option autoImplicit false
namespace TN
open PySem PySem.Spec PyProof.Rows L2
section
variable {X : Cx} {K : PySem.W.Frag} {bor : List Nat} {ta tb te : TE} {f : FE} {A : TDL}
end
def Ev.un : Ev → Prop
  | .name _ => False
  | _ => True
def Ev.p1 : Ev → Nat
  | .place p | .lost p | .twice p | .as' p _ => p
  | .name _ => 0
def semLaw (ds : List D) (Q : Sl → Prop) : Prop := ∃ ns : List Int, ds = [.list (ns.map PyData.int)] ∧ ns.length ≤ 63 ∧ Q (.sh (.bool true))
end TN
set_option Elab.async false
set_option linter.all false
set_option maxRecDepth 100000
set_option maxHeartbeats 2000000
set_option autoImplicit false
namespace TN
open PySem PySem.Spec PyProof.Rows L2
theorem runT_ok : ∀ (es : List Ev) (t : List Str), (∀ e ∈ es, e.ok t) → (runT t es).1.Perm t ∧ ∀ x ∈ (runT t es).2, x ∈ t
  | [], t, _ => ⟨.refl _, fun x hx => by cases hx⟩
  | e :: es, t, h => by
    have h0 := Ev.at_lt (h e List.mem_cons_self)
    have p := toF_perm h0
    obtain ⟨a, b⟩ := runT_ok es (toF t (e.at t)) fun x hx => Ev.ok_perm p.symm (h x (List.mem_cons_of_mem _ hx))
    refine ⟨a.trans p, fun x hx => ?_⟩
    rcases List.mem_cons.mp hx with rfl | z
    · rw [getD_of h0]; exact List.getElem_mem _
    · exact p.mem_iff.mp (b x z)
theorem takeAll_mem : ∀ (ps : List Nat) (r : List Str), (∀ p ∈ ps, p < r.length) → ∀ x ∈ (takeAll r ps).2, x ∈ r
  | [], r, _ => fun x hx => by cases hx
  | p :: ps, r, h => fun x hx => by
    have h0 := h p List.mem_cons_self
    rcases List.mem_cons.mp hx with rfl | z
    · rw [getD_of h0]; exact List.getElem_mem _
    · exact (toF_perm h0).mem_iff.mp (takeAll_mem ps (toF r p) (fun q hq => toF_len h0 ▸ h q (List.mem_cons_of_mem _ hq)) x z)
theorem runH_ok : ∀ (es : List Ev) (t : List Str), (∀ e ∈ es, e.ok t) → (runH t es).1.Perm t ∧ ∀ x ∈ (runH t es).2, x ∈ t
  | [], t, _ => ⟨.refl _, fun x hx => by cases hx⟩
  | e :: es, t, h => by
    have h0 := Ev.takes_lt (h e List.mem_cons_self)
    have p := takeAll_perm (e.takes t) h0
    obtain ⟨a, b⟩ := runH_ok es (takeAll t (e.takes t)).1 fun x hx => Ev.ok_perm p.symm (h x (List.mem_cons_of_mem _ hx))
    refine ⟨a.trans p, fun x hx => ?_⟩
    rcases List.mem_append.mp hx with z | z
    · exact takeAll_mem _ t h0 x z
    · exact p.mem_iff.mp (b x z)
end TN
set_option Elab.async false
set_option linter.all false
set_option maxRecDepth 100000
set_option maxHeartbeats 4000000
set_option autoImplicit false
namespace TN
open PySem PySem.Spec PyProof.Rows
section
variable {prog : Program} {w : World} {A : Around} {E : Value → Shared → Prop} {s : Shared} {z TI TO i1 i2 S0 : Addr} {fp1 fp2 : List Addr} {n1 n2 i : Nat} {P1 P2 : Nat → Value → Prop} {St1 St2 : Nat → Heap → Prop}
theorem zipH_item {T : Addr} {f : Bool} {oT : Obj} {Q : Value → Shared → Prop} (S : ZipSep2 z TI TO i1 i2 fp1 fp2) (D1 : Draws prog w A i1 fp1 n1 P1 St1) (D2 : Draws prog w A i2 fp2 n2 P2 St2)
    (hz : IsZipHeld s.heap z TI TO T f) (hT : s.heap.get? T = some oT) (hTI : IsTupOf2 s.heap TI (.ref i1) (.ref i2)) (st1 : St1 i s.heap) (st2 : St2 i s.heap) (hlt1 : i < n1) (hlt2 : i < n2)
    (hQ : ∀ x1 x2 h' tk, P1 i x1 → P2 i x2 → IsZipHeld h' z TI TO T true → St1 (i + 1) h' → St2 (i + 1) h' → IsTupOf2 h' s.heap.objs.size x1 x2 → h'.objs.size = s.heap.objs.size + 1 →
      (∀ c o, c ≠ z → c ≠ i1 → c ≠ i2 → s.heap.get? c = some o → h'.get? c = some o) → Q (.ref s.heap.objs.size) { s with heap := h', toks := tk }) :
    wpAny (model prog w) A (Builtin.«zip.__next__» ⟨[.ref z], []⟩) (fun fin s' => ∃ v, fin = .done (.ret v) ∧ Q v s') E s := by
  obtain ⟨hp, g, d, tk0, os⟩ := s
  show wpAny _ _ (field (.ref z) 2 >>= _) _ _ _
  refine wpAny_bind (wpAny_field hz rfl (x := .bool false) rfl ?_)
  show wpAny _ _ (field (.ref z) 3 >>= _) _ _ _
  refine wpAny_bind (wpAny_field hz rfl (x := .ref TI) rfl ?_)
  refine wpAny_bind (wpAny_seqItems hTI rfl ?_)
  show wpAny _ _ (Builtin.SmallTypes.ownedTupleIsFree (.ref z) >>= _) _ _ _
  refine wpAny_bind (wpAny_tupleHeld_zip hz hT fun g0 hz0 hs0 => ?_)
  replace hs0 : Heap.SameBut z hp g0 := hs0
  simp only [Bool.false_eq_true, if_false]
  refine wpAny_bind ?_
  rw [← Array.forIn_toList]
  simp only [List.forIn_cons, List.forIn_nil]
  refine wpAny_bind (wpAny_bind (wpAny_holding ?_))
  show wpAny _ _ (Builtin.SmallTypes.nextOf (.ref i1) >>= _) _ _ ⟨g0, g, d, tk0, os⟩
  refine wpAny_bind (D1.item i _ _ _ hlt1 (D1.over st1 hs0 S.zf1) fun x1 p1 tk1 hx1 sn1 hp1 => wpAny_pure ?_)
  replace hp1 : Heap.SameBut i1 g0 p1 := hp1
  refine wpAny_pure ?_
  refine wpAny_bind (wpAny_bind (wpAny_holding ?_))
  show wpAny _ _ (Builtin.SmallTypes.nextOf (.ref i2) >>= _) _ _ ⟨p1, g, d, tk1, os⟩
  refine wpAny_bind (D2.item i _ _ _ hlt2 (D2.over (D2.over st2 hs0 S.zf2) hp1 S.sep1_2) fun x2 p2 tk2 hx2 sn2 hp2 => wpAny_pure ?_)
  replace hp2 : Heap.SameBut i2 p1 p2 := hp2
  refine wpAny_pure (wpAny_pure ?_)
  show wpAny _ _ (newTuple [x1, x2] >>= _) _ _ _
  refine wpAny_bind (wpAny_newTuple ?_)
  have hsz : p2.objs.size = hp.objs.size := by rw [hp2.1, hp1.1, hs0.1]
  have hz3 : IsZipHeld p2 z TI TO T true := hp2.extBut _ _ S.zi2 (hp1.extBut _ _ S.zi1 hz0)
  have hk : ∀ c o, c ≠ z → c ≠ i1 → c ≠ i2 → hp.get? c = some o → p2.get? c = some o := fun c o c1 c2 c3 e => hp2.extBut _ _ c3 (hp1.extBut _ _ c2 (hs0.extBut _ _ c1 e))
  refine wpAny_pure ⟨_, rfl, ?_⟩
  show Q (.ref p2.objs.size) ⟨p2.push { cls := .type "tuple", data := .seq #[x1, x2] }, g, d, tk2, os⟩
  have hp4 : IsTupOf2 (p2.push { cls := .type "tuple", data := .seq #[x1, x2] }) p2.objs.size x1 x2 := Heap.get?_push_size _ rfl
  have hz4 : (p2.push { cls := .type "tuple", data := .seq #[x1, x2] }).objs.size = p2.objs.size + 1 := Heap.size_push ..
  have up : ∀ c o, p2.get? c = some o → (p2.push { cls := .type "tuple", data := .seq #[x1, x2] }).get? c = some o := fun c o e => Heap.get?_push_of_some _ e
  rw [hsz] at hp4 hz4 ⊢
  exact hQ x1 x2 _ tk2 hx1 hx2 (up _ _ hz3) (D1.frame _ _ _ (D1.over sn1 hp2 S.sep2_1) fun b _ o e => up b o e) (D2.frame _ _ _ sn2 fun b _ o e => up b o e) hp4 hz4 fun c o c1 c2 c3 e => up _ _ (hk c o c1 c2 c3 e)
theorem zipH_end {T : Addr} {f : Bool} {oT : Obj} {Q : Fin → Shared → Prop} (S : ZipSep2 z TI TO i1 i2 fp1 fp2) (D1 : Draws prog w A i1 fp1 n1 P1 St1) (D2 : Draws prog w A i2 fp2 n2 P2 St2)
    (hz : IsZipHeld s.heap z TI TO T f) (hT : s.heap.get? T = some oT) (hTI : IsTupOf2 s.heap TI (.ref i1) (.ref i2)) (st1 : St1 i s.heap) (st2 : St2 i s.heap) (hle1 : i ≤ n1) (hle2 : i ≤ n2) (hend : i = n1 ∨ i = n2)
    (hE : ∀ h' tk e, (∀ c o, c ≠ z → c ≠ i1 → c ≠ i2 → s.heap.get? c = some o → h'.get? c = some o) → (∃ o, h'.get? e = some o ∧ o.cls = .type "StopIteration") → E (.ref e) { s with heap := h', toks := tk }) :
    wpAny (model prog w) A (Builtin.«zip.__next__» ⟨[.ref z], []⟩) Q E s := by
  obtain ⟨hp, g, d, tk0, os⟩ := s
  show wpAny _ _ (field (.ref z) 2 >>= _) _ _ _
  refine wpAny_bind (wpAny_field hz rfl (x := .bool false) rfl ?_)
  show wpAny _ _ (field (.ref z) 3 >>= _) _ _ _
  refine wpAny_bind (wpAny_field hz rfl (x := .ref TI) rfl ?_)
  refine wpAny_bind (wpAny_seqItems hTI rfl ?_)
  show wpAny _ _ (Builtin.SmallTypes.ownedTupleIsFree (.ref z) >>= _) _ _ _
  refine wpAny_bind (wpAny_tupleHeld_zip hz hT fun g0 hz0 hs0 => ?_)
  replace hs0 : Heap.SameBut z hp g0 := hs0
  simp only [Bool.false_eq_true, if_false]
  refine wpAny_bind ?_
  rw [← Array.forIn_toList]
  simp only [List.forIn_cons, List.forIn_nil]
  refine wpAny_bind (wpAny_bind (wpAny_holding ?_))
  show wpAny _ _ (Builtin.SmallTypes.nextOf (.ref i1) >>= _) _ _ ⟨g0, g, d, tk0, os⟩
  by_cases h1 : i = n1
  · subst h1
    refine wpAny_bind (D1.done _ _ _ (D1.over st1 hs0 S.zf1) fun p1 e hp1 he => ?_)
    exact hE p1 tk0 e (fun c o c1 c2 _ x => hp1 _ _ c2 (hs0.extBut _ _ c1 x)) he
  · refine wpAny_bind (D1.item i _ _ _ (by omega) (D1.over st1 hs0 S.zf1) fun x1 p1 tk1 hx1 sn1 hp1 => wpAny_pure ?_)
    replace hp1 : Heap.SameBut i1 g0 p1 := hp1
    refine wpAny_pure ?_
    have h2 : i = n2 := hend.resolve_left h1
    subst h2
    refine wpAny_bind (wpAny_bind (wpAny_holding ?_))
    show wpAny _ _ (Builtin.SmallTypes.nextOf (.ref i2) >>= _) _ _ ⟨p1, g, d, tk1, os⟩
    refine wpAny_bind (D2.done _ _ _ (D2.over (D2.over st2 hs0 S.zf2) hp1 S.sep1_2) fun p2 e hp2 he => ?_)
    exact hE p2 tk1 e (fun c o c1 c2 c3 x => hp2 _ _ c3 (hp1.extBut _ _ c2 (hs0.extBut _ _ c1 x))) he


structure ZSt (z TI TO i1 i2 S0 : Addr) (St1 St2 : Nat → Heap → Prop) (i : Nat) (h : Heap) : Prop where
  ti : IsTupOf2 h TI (.ref i1) (.ref i2)
  s1 : St1 i h
  s2 : St2 i h
  zz : (IsZip h z TI TO .none ∧ ∃ a b, IsTupOf2 h TO a b) ∨ ∃ T f oT, IsZipHeld h z TI TO T f ∧ h.get? T = some oT ∧ T ≠ z ∧ T ≠ i1 ∧ T ≠ i2 ∧ T ≠ S0
theorem ZSt.frame {h h' : Heap} (S : ZipSep2 z TI TO i1 i2 fp1 fp2) (D1 : Draws prog w A i1 fp1 n1 P1 St1) (D2 : Draws prog w A i2 fp2 n2 P2 St2) (n0 : S0 ≠ z ∧ S0 ≠ TI ∧ S0 ≠ TO ∧ S0 ∉ fp1 ∧ S0 ∉ fp2)
    (st : ZSt z TI TO i1 i2 S0 St1 St2 i h) (k : ∀ b o, b ≠ S0 → h.get? b = some o → h'.get? b = some o) : ZSt z TI TO i1 i2 S0 St1 St2 i h' where
  ti := k _ _ (Ne.symm n0.2.1) st.ti
  s1 := D1.frame _ _ _ st.s1 fun b hb o e => k b o (fun x => n0.2.2.2.1 (x ▸ hb)) e
  s2 := D2.frame _ _ _ st.s2 fun b hb o e => k b o (fun x => n0.2.2.2.2 (x ▸ hb)) e
  zz := by
    rcases st.zz with ⟨a, x, y, b⟩ | ⟨T, f, oT, a, b, c1, c2, c3, c4⟩
    · exact .inl ⟨k _ _ (Ne.symm n0.1) a, x, y, k _ _ (Ne.symm n0.2.2.1) b⟩
    · exact .inr ⟨T, f, oT, k _ _ (Ne.symm n0.1) a, k _ _ c4 b, c1, c2, c3, c4⟩
theorem zip_pull {Q : Option Value → Shared → Prop} (S : ZipSep2 z TI TO i1 i2 fp1 fp2) (D1 : Draws prog w A.in1 i1 fp1 n1 P1 St1) (D2 : Draws prog w A.in1 i2 fp2 n2 P2 St2) (hS : S0 < s.heap.objs.size)
    (st : ZSt z TI TO i1 i2 S0 St1 St2 i s.heap) (hlt1 : i < n1) (hlt2 : i < n2)
    (hQ : ∀ x1 x2 h' tk, P1 i x1 → P2 i x2 → ZSt z TI TO i1 i2 S0 St1 St2 (i + 1) h' → IsTupOf2 h' s.heap.objs.size x1 x2 → h'.objs.size = s.heap.objs.size + 1 →
      (∀ c o, c ≠ z → c ≠ TO → c ≠ i1 → c ≠ i2 → s.heap.get? c = some o → h'.get? c = some o) → Q (some (.ref s.heap.objs.size)) { s with heap := h', toks := tk }) :
    wpAny (model prog w) A (pyNext (.ref z)) Q E s := by
  obtain ⟨o1, l1⟩ := D1.live _ _ st.s1
  obtain ⟨o2, l2⟩ := D2.live _ _ st.s2
  have lt : ∀ {c o}, s.heap.get? c = some o → s.heap.objs.size ≠ c := fun e => Nat.ne_of_gt (Heap.lt_size e)
  rcases st.zz with ⟨hz, a, b, hTO⟩ | ⟨T, f, oT, hz, hT, r1, r2, r3, r4⟩
  · have hTy : s.TypeIs (.ref z) "zip" := ⟨_, hz, rfl⟩
    unfold pyNext
    refine wpAny_bind (wpAny_attempt (wpAny_callSpecial?_slot (name := Str.ofString "__next__") hTy F.slot_zip_next
      (wpAny_call_entry F.slot_zip_next hTy F.entry_zip_next
        (zipD2_next_item S D1 D2 hz st.ti hTO st.s1 st.s2 hlt1 hlt2 fun x1 x2 h' tk q1 q2 a1 a2 a3 a4 a5 a6 kk => wpAny_pure ?_) (F.args_zip_next_1 _))))
    exact hQ x1 x2 h' tk q1 q2 ⟨kk _ _ S.TIz S.TITO S.TIi1 S.TIi2 st.ti, a3, a4, .inr ⟨s.heap.objs.size, false, _, a1, a5, lt hz, lt l1, lt l2, Nat.ne_of_gt hS⟩⟩ a5 a6 kk
  · have hTy : s.TypeIs (.ref z) "zip" := ⟨_, hz, rfl⟩
    unfold pyNext
    refine wpAny_bind (wpAny_attempt (wpAny_callSpecial?_slot (name := Str.ofString "__next__") hTy F.slot_zip_next
      (wpAny_call_entry F.slot_zip_next hTy F.entry_zip_next
        (zipH_item S D1 D2 hz hT st.ti st.s1 st.s2 hlt1 hlt2 fun x1 x2 h' tk q1 q2 a1 a3 a4 a5 a6 kk => wpAny_pure ?_) (F.args_zip_next_1 _))))
    exact hQ x1 x2 h' tk q1 q2 ⟨kk _ _ S.TIz S.TIi1 S.TIi2 st.ti, a3, a4, .inr ⟨T, true, oT, a1, kk _ _ r1 r2 r3 hT, r1, r2, r3, r4⟩⟩ a5 a6 fun c o c1 _ c3 c4 e => kk c o c1 c3 c4 e
theorem zip_stop {Q : Option Value → Shared → Prop} (S : ZipSep2 z TI TO i1 i2 fp1 fp2) (D1 : Draws prog w A.in1 i1 fp1 n1 P1 St1) (D2 : Draws prog w A.in1 i2 fp2 n2 P2 St2)
    (st : ZSt z TI TO i1 i2 S0 St1 St2 i s.heap) (hle1 : i ≤ n1) (hle2 : i ≤ n2) (hend : i = n1 ∨ i = n2)
    (hQ : ∀ h' tk, (∀ c o, c ≠ z → c ≠ TO → c ≠ i1 → c ≠ i2 → s.heap.get? c = some o → h'.get? c = some o) → Q none { s with heap := h', toks := tk }) :
    wpAny (model prog w) A (pyNext (.ref z)) Q E s := by
  rcases st.zz with ⟨hz, a, b, hTO⟩ | ⟨T, f, oT, hz, hT, r1, r2, r3, r4⟩
  · have hTy : s.TypeIs (.ref z) "zip" := ⟨_, hz, rfl⟩
    unfold pyNext
    refine wpAny_bind (wpAny_attempt (wpAny_callSpecial?_slot (name := Str.ofString "__next__") hTy F.slot_zip_next
      (wpAny_call_entry F.slot_zip_next hTy F.entry_zip_next (zipD2_next_end S D1 D2 hz st.ti hTO st.s1 st.s2 hle1 hle2 hend fun h' tk e kk he => ?_) (F.args_zip_next_1 _))))
    obtain ⟨o, ho, hc⟩ := he
    refine wpAny_bind (wpAny_isInstance (T := "StopIteration") (b := true) ⟨o, ho, hc⟩ isSubtype_stop ?_)
    exact wpAny_pure (hQ _ tk kk)
  · have hTy : s.TypeIs (.ref z) "zip" := ⟨_, hz, rfl⟩
    unfold pyNext
    refine wpAny_bind (wpAny_attempt (wpAny_callSpecial?_slot (name := Str.ofString "__next__") hTy F.slot_zip_next
      (wpAny_call_entry F.slot_zip_next hTy F.entry_zip_next (zipH_end S D1 D2 hz hT st.ti st.s1 st.s2 hle1 hle2 hend fun h' tk e kk he => ?_) (F.args_zip_next_1 _))))
    obtain ⟨o, ho, hc⟩ := he
    refine wpAny_bind (wpAny_isInstance (T := "StopIteration") (b := true) ⟨o, ho, hc⟩ isSubtype_stop ?_)
    exact wpAny_pure (hQ _ tk fun c o c1 _ c3 c4 e => kk c o c1 c3 c4 e)
end
end TN
set_option Elab.async false
set_option linter.all false
set_option maxRecDepth 100000
set_option maxHeartbeats 4000000
set_option autoImplicit false
namespace TN
open PySem PySem.Spec PyProof.Rows
theorem ngt {a b N : Addr} (h : a < N) (g : N ≤ b) : b ≠ a := Nat.ne_of_gt (Nat.lt_of_lt_of_le h g)

def Got (N : Addr) (P1 P2 : Nat → Value → Prop) (i : Nat) (acc : Array Value) (h : Heap) : Prop :=
  ∃ Ts : List Addr, acc.toList = Ts.map Value.ref ∧ Ts.length = i ∧ Ts.Pairwise (· < ·) ∧ ∀ (j : Nat) (T : Addr), Ts[j]? = some T → N ≤ T ∧ T < h.objs.size ∧ ∃ x y, P1 j x ∧ P2 j y ∧ IsTupOf2 h T x y
theorem Got.nil {N : Addr} {P1 P2 : Nat → Value → Prop} {h : Heap} : Got N P1 P2 0 #[] h := ⟨[], rfl, rfl, .nil, fun j T e => by simp at e⟩
theorem Got.size {N : Addr} {P1 P2 : Nat → Value → Prop} {h : Heap} {i : Nat} {acc : Array Value} (g : Got N P1 P2 i acc h) : acc.size = i := by
  obtain ⟨Ts, e, l, _⟩ := g
  rw [← Array.length_toList, e, List.length_map, l]
theorem Got.keep {N : Addr} {P1 P2 : Nat → Value → Prop} {h h' : Heap} {i : Nat} {acc : Array Value} (g : Got N P1 P2 i acc h) (sz : h.objs.size ≤ h'.objs.size) (k : ∀ b o, N ≤ b → h.get? b = some o → h'.get? b = some o) : Got N P1 P2 i acc h' := by
  obtain ⟨Ts, e, l, pw, a⟩ := g
  refine ⟨Ts, e, l, pw, fun j T hj => ?_⟩
  obtain ⟨a1, a2, x, y, p, q, t⟩ := a j T hj
  exact ⟨a1, Nat.lt_of_lt_of_le a2 sz, x, y, p, q, k _ _ a1 t⟩
theorem Got.push {N : Addr} {P1 P2 : Nat → Value → Prop} {h h' : Heap} {i : Nat} {acc : Array Value} {x y : Value} (g : Got N P1 P2 i acc h) (hN : N ≤ h.objs.size) (sz : h'.objs.size = h.objs.size + 1) (k : ∀ b o, N ≤ b → h.get? b = some o → h'.get? b = some o)
    (p : P1 i x) (q : P2 i y) (t : IsTupOf2 h' h.objs.size x y) : Got N P1 P2 (i + 1) (acc.push (.ref h.objs.size)) h' := by
  obtain ⟨Ts, e, l, pw, a⟩ := g
  have below : ∀ T ∈ Ts, T < h.objs.size := fun T hT => by
    obtain ⟨j, hj, e⟩ := List.mem_iff_getElem.mp hT
    exact (a j T (by rw [List.getElem?_eq_getElem hj, e])).2.1
  refine ⟨Ts ++ [h.objs.size], by rw [Array.toList_push, e, List.map_append]; rfl, by rw [List.length_append, l]; rfl, ?_, fun j T hj => ?_⟩
  · refine List.pairwise_append.mpr ⟨pw, List.pairwise_singleton _ _, fun a ha b hb => ?_⟩
    rw [List.mem_singleton.mp hb]; exact below a ha
  · by_cases hi : j < Ts.length
    · rw [List.getElem?_append_left hi] at hj
      obtain ⟨a1, a2, x', y', p', q', t'⟩ := a j T hj
      exact ⟨a1, by rw [sz]; exact Nat.lt_succ_of_lt a2, x', y', p', q', k _ _ a1 t'⟩
    · rw [List.getElem?_append_right (by omega)] at hj
      have : j - Ts.length = 0 := by
        cases h0 : j - Ts.length with
        | zero => rfl
        | succ m => rw [h0] at hj; simp at hj
      rw [this] at hj
      injection hj with hj
      subst hj
      have : j = i := by omega
      subst this
      exact ⟨hN, by rw [sz]; exact Nat.lt_succ_self _, x, y, p, q, t⟩
section
variable {prog : Program} {w : World} {A : Around} {E : Value → Shared → Prop} {s : Shared} {z TI TO i1 i2 S0 N : Addr} {fp1 fp2 : List Addr} {n1 n2 n : Nat} {P1 P2 : Nat → Value → Prop} {St1 St2 : Nat → Heap → Prop}
abbrev lsAt (h : Heap) (S : Addr) (acc : Array Value) (c : Nat) : Prop := h.get? S = some { cls := .type "list", dict := none, data := .seq acc c, slots := #[] }
theorem zip_loop {R : Result → Shared → Prop} (S : ZipSep2 z TI TO i1 i2 fp1 fp2) (D1 : Draws prog w A.in1.in1 i1 fp1 n1 P1 St1) (D2 : Draws prog w A.in1.in1 i2 fp2 n2 P2 St2) (n0 : S0 ≠ z ∧ S0 ≠ TI ∧ S0 ≠ TO ∧ S0 ∉ fp1 ∧ S0 ∉ fp2)
    (big : z < N ∧ TO < N ∧ i1 < N ∧ i2 < N ∧ S0 < N) (hn : n ≤ n1 ∧ n ≤ n2 ∧ (n = n1 ∨ n = n2)) (hz : n ≤ sizeLine) (res : Value) :
    ∀ (k i : Nat) (s : Shared) (acc : Array Value) (c : Nat), n - i = k → i ≤ n → ZSt z TI TO i1 i2 S0 St1 St2 i s.heap → lsAt s.heap S0 acc c → N ≤ s.heap.objs.size → Got N P1 P2 i acc s.heap →
    (∀ h' tk acc' c', (∀ b o, b ≠ S0 → b ≠ z → b ≠ TO → b ≠ i1 → b ≠ i2 → s.heap.get? b = some o → h'.get? b = some o) → lsAt h' S0 acc' c' → Got N P1 P2 n acc' h' → R (.ok (.ret res)) { s with heap := h', toks := tk }) →
    codeAny (model prog w) A (.builtin "list.extend.loop" ⟨[.ref S0, .ref z, res], []⟩) R s := by
  intro k
  induction k with
  | zero =>
    intro i s acc c hk hi st hS hN g hR
    have hin : i = n := by omega
    subst hin
    refine codeAny_builtin F.entry_extend_loop ?_
    rw [Around.under_plainId F.plain_extend_loop _]
    show wpAny _ A.in1 (pyNext (.ref z) >>= _) _ _ s
    refine wpAny_bind (zip_stop S D1 D2 st hn.1 hn.2.1 hn.2.2 fun h' tk kk => ?_)
    refine wpAny_pure (hR h' tk acc c (fun b o b0 b1 b2 b3 b4 e => kk b o b1 b2 b3 b4 e) (kk _ _ n0.1 n0.2.2.1 (fun x => n0.2.2.2.1 (x ▸ S.mem1)) (fun x => n0.2.2.2.2 (x ▸ S.mem2)) hS) ?_)
    obtain ⟨Ts, e, l, pw, a⟩ := g
    refine ⟨Ts, e, l, pw, fun j T hj => ?_⟩
    obtain ⟨a1, a2, x, y, p, q, t⟩ := a j T hj
    have t' := kk _ _ (ngt big.1 a1) (ngt big.2.1 a1) (ngt big.2.2.1 a1) (ngt big.2.2.2.1 a1) t
    exact ⟨a1, Heap.lt_size t', x, y, p, q, t'⟩
  | succ k ih =>
    intro i s acc c hk hi st hS hN g hR
    have hlt : i < n := by omega
    refine codeAny_builtin F.entry_extend_loop ?_
    rw [Around.under_plainId F.plain_extend_loop _]
    show wpAny _ A.in1 (pyNext (.ref z) >>= _) _ _ s
    refine wpAny_bind (zip_pull S D1 D2 (Heap.lt_size hS) st (by omega) (by omega) fun x1 x2 h' tk p1 p2 st' t' sz kk => ?_)
    have hS' : lsAt h' S0 acc c := kk _ _ n0.1 n0.2.2.1 (fun x => n0.2.2.2.1 (x ▸ S.mem1)) (fun x => n0.2.2.2.2 (x ▸ S.mem2)) hS
    have g' := g.push hN sz (fun b o hb e => kk b o (ngt big.1 hb) (ngt big.2.1 hb) (ngt big.2.2.1 hb) (ngt big.2.2.2.1 hb) e) p1 p2 t'
    have as := g.size
    show wpAny _ A.in1 (updateSeq S0 (·.push (.ref s.heap.objs.size)) >>= _) _ _ _
    refine wpAny_bind ?_
    have oth : ∀ b o, b ≠ S0 → h'.get? b = some o → (h'.update S0 (Obj.mapSeq (·.push (.ref s.heap.objs.size)))).get? b = some o := fun b o hb e => (Heap.get?_update_other _ _ (Ne.symm hb)).trans e
    refine wpAny_updateSeq hS' rfl (wpAny_pure ⟨plainId_quiet F.plain_extend_loop _, ih (i + 1) { s with heap := h'.update S0 (Obj.mapSeq (·.push (.ref s.heap.objs.size))), toks := tk } (acc.push (.ref s.heap.objs.size)) _ (by omega) hlt (st'.frame S D1 D2 n0 oth) (Heap.get?_update_self _ hS' rfl)
      (by show N ≤ (h'.update S0 _).objs.size; rw [Heap.size_update, sz]; exact Nat.le_succ_of_le hN) (g'.keep (by rw [Heap.size_update]; exact Nat.le_refl _) fun b o hb e => oth b o (ngt big.2.2.2.2 hb) e) fun h'' tk' acc' c' kk' hS'' g'' => ?_⟩)
      (by rw [as]; omega) (by show (acc.push (.ref s.heap.objs.size)).size ≤ sizeLine + 1; rw [Array.size_push, as]; omega)
    exact hR h'' tk' acc' c' (fun b o b0 b1 b2 b3 b4 e => kk' b o b0 b1 b2 b3 b4 (oth b o b0 (kk b o b1 b2 b3 b4 e))) hS'' g''
theorem zip_no_len : typeLookup (.type "zip") "__len__" = pure none := am_miss_of_fast (by decide +kernel)
theorem zip_no_hint : typeLookup (.type "zip") "__length_hint__" = pure none := am_miss_of_fast (by decide +kernel)
theorem zip_hint {Q : Bool → Shared → Prop} (hT : s.TypeIs (.ref z) "zip") (h : Q false s) (h2 : Q true s) : wpAny (model prog w) A (Builtin.List.listLengthHint (.ref z)) Q E s := by
  unfold Builtin.List.listLengthHint
  refine wpAny_bind (wpAny_specialOf hT zip_no_len ?_)
  show wpAny _ A (specialOf (Value.ref z) (Str.ofString "__length_hint__") >>= _) _ _ _
  refine wpAny_bind (wpAny_specialOf hT zip_no_hint ?_)
  first | exact wpAny_pure h | exact wpAny_pure h2
theorem zip_extend {R : Result → Shared → Prop} (S : ZipSep2 z TI TO i1 i2 fp1 fp2) (D1 : Draws prog w A.in1.in1 i1 fp1 n1 P1 St1) (D2 : Draws prog w A.in1.in1 i2 fp2 n2 P2 St2) (n0 : S0 ≠ z ∧ S0 ≠ TI ∧ S0 ≠ TO ∧ S0 ∉ fp1 ∧ S0 ∉ fp2)
    (big : z < N ∧ TO < N ∧ i1 < N ∧ i2 < N ∧ S0 < N) (hn : n ≤ n1 ∧ n ≤ n2 ∧ (n = n1 ∨ n = n2)) (hz : n ≤ sizeLine) (res : Value) (c₀ : Nat) (st : ZSt z TI TO i1 i2 S0 St1 St2 0 s.heap) (hz0 : IsZip s.heap z TI TO .none) (hS : lsAt s.heap S0 #[] c₀) (hN : N ≤ s.heap.objs.size)
    (hR : ∀ h' tk acc' c', (∀ b o, b ≠ S0 → b ≠ z → b ≠ TO → b ≠ i1 → b ≠ i2 → s.heap.get? b = some o → h'.get? b = some o) → lsAt h' S0 acc' c' → Got N P1 P2 n acc' h' → R (.ok (.ret res)) { s with heap := h', toks := tk }) :
    wpAny (model prog w) A.in1 (Builtin.List.listExtendWith (.ref S0) (.ref z) res)
      (fun fin s' => match fin with | .done f => R (.ok f) s' | .again c' => c'.quiet = true ∧ codeAny (model prog w) A c' R s') (fun e s' => R (.error e) s') s := by
  have hT : s.TypeIs (.ref z) "zip" := ⟨_, hz0, rfl⟩
  have key : ∀ (h : Heap) (c₁ tk : Nat), N ≤ h.objs.size → (∀ b o, b ≠ S0 → s.heap.get? b = some o → h.get? b = some o) → lsAt h S0 #[] c₁ →
      codeAny (model prog w) A (.builtin "list.extend.loop" ⟨[.ref S0, .ref z, res], []⟩) R { s with heap := h, toks := tk } := fun h c₁ tk hN' kk hS₁ =>
    zip_loop S D1 D2 n0 big hn hz res n 0 _ #[] c₁ rfl (Nat.zero_le _) (st.frame S D1 D2 n0 kk) hS₁ hN' .nil fun h' tk' acc' c' k2 hS' g => hR h' tk' acc' c' (fun b o b0 b1 b2 b3 b4 e => k2 b o b0 b1 b2 b3 b4 (kk b o b0 e)) hS' g
  unfold Builtin.List.listExtendWith
  refine wpAny_bind (wpAny_typeOf (T := "zip") hT ?_)
  have h1 : Builtin.List.listSameRef (.ref S0) (.ref z) = false := by simp [Builtin.List.listSameRef, n0.1]
  have h2 : (Value.type "zip" == Value.type "list") = false := by decide
  have h3 : (Value.type "zip" == Value.type "tuple") = false := by decide
  simp only [h1, h2, h3, Bool.or_false, Bool.false_eq_true, if_false]
  refine wpAny_bind (wpAny_pyIter_zip hz0 ?_)
  refine wpAny_bind (wpAny_holding (zip_hint hT ?_ ?_))
  all_goals
    first
    | exact wpAny_pure ⟨plainId_quiet PySem.F.plain_extend_loop _, key _ c₀ _ hN (fun _ _ _ e => e) hS⟩
    | skip
  all_goals
    refine wpAny_ite_split (fun _ => ?_) (fun _ => wpAny_pure ⟨plainId_quiet PySem.F.plain_extend_loop _, key _ c₀ _ hN (fun _ _ _ e => e) hS⟩)
    refine wpAny_bind (wpAny_rule ?_)
    refine wpAny_bind ?_
    show wpAny _ _ (updateSeq S0 (·.push .none) >>= fun _ => updateSeq S0 (·.pop)) _ _ _
    refine wpAny_bind (wpAny_updateSeq hS rfl ?_)
    have hS₂ := Heap.get?_update_self (Obj.mapSeq (·.push Value.none)) hS rfl
    refine wpAny_updateSeq (hz := by seq_fits) hS₂ rfl ?_
    have hS₃ := Heap.get?_update_self (Obj.mapSeq (·.pop)) hS₂ rfl
    refine wpAny_pure ⟨plainId_quiet PySem.F.plain_extend_loop _, key _ _ _ (by rw [Heap.size_update, Heap.size_update]; exact hN) (fun b o hb e => (Heap.get?_update_other _ _ (Ne.symm hb)).trans ((Heap.get?_update_other _ _ (Ne.symm hb)).trans e)) hS₃⟩
end
end TN
set_option Elab.async false
set_option linter.all false
set_option maxRecDepth 100000
set_option maxHeartbeats 4000000
set_option autoImplicit false
namespace TN
open PySem PySem.Spec PyProof.Rows
section
variable {prog : Program} {w : World} {A : Around} {E : Value → Shared → Prop} {s : Shared} {z TI TO i1 i2 N : Addr} {fp1 fp2 : List Addr} {n1 n2 n : Nat} {P1 P2 : Nat → Value → Prop} {St1 St2 : Nat → Heap → Prop}
structure ZBeg (prog : Program) (w : World) (z TI TO i1 i2 N : Addr) (fp1 fp2 : List Addr) (n1 n2 n : Nat) (P1 P2 : Nat → Value → Prop) (St1 St2 : Nat → Heap → Prop) (h : Heap) : Prop where
  sep : ZipSep2 z TI TO i1 i2 fp1 fp2
  d1 : ∀ A : Around, A.handled = none → Draws prog w A i1 fp1 n1 P1 St1
  d2 : ∀ A : Around, A.handled = none → Draws prog w A i2 fp2 n2 P2 St2
  lo : z < N ∧ TI < N ∧ TO < N ∧ i1 < N ∧ i2 < N ∧ (∀ b ∈ fp1, b < N) ∧ ∀ b ∈ fp2, b < N
  hn : n ≤ n1 ∧ n ≤ n2 ∧ (n = n1 ∨ n = n2)
  hz : n ≤ sizeLine
  z0 : IsZip h z TI TO .none
  ti : IsTupOf2 h TI (.ref i1) (.ref i2)
  to : ∃ a b, IsTupOf2 h TO a b
  s1 : St1 0 h
  s2 : St2 0 h
theorem ZBeg.keep {h h' : Heap} (hh : A.handled = none) (B : ZBeg prog w z TI TO i1 i2 N fp1 fp2 n1 n2 n P1 P2 St1 St2 h) (k : ∀ b o, b < N → h.get? b = some o → h'.get? b = some o) : ZBeg prog w z TI TO i1 i2 N fp1 fp2 n1 n2 n P1 P2 St1 St2 h' where
  sep := B.sep
  d1 := B.d1
  d2 := B.d2
  lo := B.lo
  hn := B.hn
  hz := B.hz
  z0 := k _ _ B.lo.1 B.z0
  ti := k _ _ B.lo.2.1 B.ti
  to := let ⟨a, b, e⟩ := B.to; ⟨a, b, k _ _ B.lo.2.2.1 e⟩
  s1 := (B.d1 A hh).frame _ _ _ B.s1 fun b hb o e => k b o (B.lo.2.2.2.2.2.1 b hb) e
  s2 := (B.d2 A hh).frame _ _ _ B.s2 fun b hb o e => k b o (B.lo.2.2.2.2.2.2 b hb) e
theorem ZBeg.extend {S0 : Addr} {R : Result → Shared → Prop} (hh : A.handled = none) (B : ZBeg prog w z TI TO i1 i2 S0 fp1 fp2 n1 n2 n P1 P2 St1 St2 s.heap) (res : Value) (c₀ : Nat) (hS : lsAt s.heap S0 #[] c₀)
    (hR : ∀ h' tk acc' c', (∀ b o, b ≠ S0 → b ≠ z → b ≠ TO → b ≠ i1 → b ≠ i2 → s.heap.get? b = some o → h'.get? b = some o) → lsAt h' S0 acc' c' → Got (S0 + 1) P1 P2 n acc' h' → R (.ok (.ret res)) { s with heap := h', toks := tk }) :
    wpAny (model prog w) A.in1 (Builtin.List.listExtendWith (.ref S0) (.ref z) res)
      (fun fin s' => match fin with | .done f => R (.ok f) s' | .again c' => c'.quiet = true ∧ codeAny (model prog w) A c' R s') (fun e s' => R (.error e) s') s := by
  obtain ⟨l1, l2, l3, l4, l5, l6, l7⟩ := B.lo
  refine zip_extend (N := S0 + 1) B.sep (B.d1 _ hh) (B.d2 _ hh) ⟨Nat.ne_of_gt l1, Nat.ne_of_gt l2, Nat.ne_of_gt l3, fun x => Nat.lt_irrefl _ (l6 _ x), fun x => Nat.lt_irrefl _ (l7 _ x)⟩
    ⟨Nat.lt_succ_of_lt l1, Nat.lt_succ_of_lt l3, Nat.lt_succ_of_lt l4, Nat.lt_succ_of_lt l5, Nat.lt_succ_self _⟩ B.hn B.hz res c₀ ⟨B.ti, B.s1, B.s2, .inl ⟨B.z0, B.to⟩⟩ B.z0 hS (Heap.lt_size hS) hR

theorem ZBeg.list {Q : Value → Shared → Prop} (hh : A.handled = none) (B : ZBeg prog w z TI TO i1 i2 s.heap.objs.size fp1 fp2 n1 n2 n P1 P2 St1 St2 s.heap)
    (hQ : ∀ h' tk acc' c', (∀ b o, b ≠ z → b ≠ TO → b ≠ i1 → b ≠ i2 → s.heap.get? b = some o → h'.get? b = some o) → lsAt h' s.heap.objs.size acc' c' → Got (s.heap.objs.size + 1) P1 P2 n acc' h' → Q (.ref s.heap.objs.size) { s with heap := h', toks := tk }) :
    wpAny (model prog w) A (call (.type "list") [.ref z]) Q E s := by
  refine callType_codes (Q₁ := fun obj s₁ => obj = .ref s.heap.objs.size ∧ s₁ = { s with heap := s.heap.push { cls := .type "list", data := .seq #[] } }) PySem.F.called_list (PySem.F.typeCall_list_1 _) PySem.F.entry_list_init
    (code_list_new _ ⟨rfl, rfl⟩) fun obj s₁ h₁ => ?_
  obtain ⟨rfl, rfl⟩ := h₁
  have hS : (s.heap.push { cls := .type "list", data := .seq #[] }).get? s.heap.objs.size = some { cls := .type "list", data := .seq #[] } := Heap.get?_push_size _ rfl
  have oth : ∀ b o, s.heap.get? b = some o → ((s.heap.push { cls := .type "list", data := .seq #[] }).update s.heap.objs.size (Obj.mapSeq (fun _ => (#[] : Array Value)))).get? b = some o := fun b o e =>
    (Heap.get?_update_other _ _ (Nat.ne_of_gt (Heap.lt_size e))).trans (Heap.get?_push_of_some _ e)
  refine ⟨⟨_, hS, rfl⟩, PySem.F.args_list_init_2 _ _, ?_⟩
  show wpAny _ A.in1.in1 (do let old ← Builtin.List.listItems (.ref s.heap.objs.size); Builtin.List.listUpdate (.ref s.heap.objs.size) (fun _ => #[]); letGo old.toList.reverse; Builtin.List.listExtendWith (.ref s.heap.objs.size) (.ref z) .none) _ _ _
  refine wpAny_bind ?_
  unfold Builtin.List.listItems
  refine wpAny_bind (wpAny_seqItems hS rfl (wpAny_pure ?_))
  show wpAny _ _ (updateSeq s.heap.objs.size (fun _ => #[]) >>= fun _ => letGo (#[] : Array Value).toList.reverse >>= fun _ => Builtin.List.listExtendWith (.ref s.heap.objs.size) (.ref z) .none) _ _ _
  refine wpAny_bind (wpAny_updateSeq hS rfl ?_)
  have hS₂ := Heap.get?_update_self (Obj.mapSeq (fun _ => (#[] : Array Value))) hS rfl
  refine wpAny_bind (wpAny_letGo ?_)
  refine ZBeg.extend (A := A.in1) (s := { s with heap := (s.heap.push { cls := .type "list", data := .seq #[] }).update s.heap.objs.size (Obj.mapSeq (fun _ => (#[] : Array Value))) }) hh (B.keep hh fun b o _ e => oth b o e) .none _ hS₂ fun h' tk acc' c' kk hS' g => ?_
  exact ⟨rfl, hQ h' tk acc' c' (fun b o b1 b2 b3 b4 e => kk b o (Nat.ne_of_lt (Heap.lt_size e)) b1 b2 b3 b4 (oth b o e)) hS' g⟩

theorem ZBeg.collect {R : List Value → Shared → Prop} (hh : A.handled = none) (B : ZBeg prog w z TI TO i1 i2 s.heap.objs.size fp1 fp2 n1 n2 n P1 P2 St1 St2 s.heap)
    (h : ∀ (h' : Heap) (tk : Nat) (acc : Array Value), (∀ b o, b ≠ z → b ≠ TO → b ≠ i1 → b ≠ i2 → s.heap.get? b = some o → h'.get? b = some o) → s.heap.objs.size < h'.objs.size → Got (s.heap.objs.size + 1) P1 P2 n acc h' → R acc.toList { s with heap := h', toks := tk }) :
    wpAny (model prog w) A (collect (.ref z)) R E s := by
  unfold PySem.collect
  refine wpAny_bind (wpAny_runValue (codeAny_builtin entry_proto_collect' ?_))
  rw [Around.under_plainId PySem.F.plain_proto_collect _]
  show wpAny _ A.in1 (newList [] >>= fun l => again (.builtin "list.__iadd__" ⟨[l, .ref z], []⟩)) _ _ s
  refine wpAny_bind (wpAny_newObj_type ?_)
  refine wpAny_pure ⟨plainId_quiet PySem.F.plain_list_iadd _, codeAny_builtin entry_list_iadd' ?_⟩
  rw [Around.under_plainId PySem.F.plain_list_iadd _]
  have hS₁ : (s.heap.push { cls := .type "list", data := .seq ([] : List Value).toArray }).get? s.heap.objs.size = some { cls := .type "list", data := .seq #[] } := Heap.get?_push_size _ rfl
  show wpAny _ A.in1 (Builtin.List.listExtendWith (.ref s.heap.objs.size) (.ref z) (.ref s.heap.objs.size)) _ _ _
  have key := ZBeg.extend (A := A) (s := { s with heap := s.heap.push { cls := .type "list", data := .seq ([] : List Value).toArray } })
    (R := fun (q : Result) (s' : Shared) => ∃ (h' : Heap) (tk : Nat) (acc' : Array Value) (c' : Nat), q = .ok (.ret (.ref s.heap.objs.size)) ∧ s' = { s with heap := h', toks := tk } ∧
      (∀ b o, b ≠ z → b ≠ TO → b ≠ i1 → b ≠ i2 → s.heap.get? b = some o → h'.get? b = some o) ∧ h'.get? s.heap.objs.size = some { cls := .type "list", dict := none, data := .seq acc' c', slots := #[] } ∧ Got (s.heap.objs.size + 1) P1 P2 n acc' h')
    hh (B.keep hh fun b o _ e => Heap.get?_push_of_some _ e) (.ref s.heap.objs.size) 0 hS₁
    (fun h' tk acc' c' hk hS' hacc => ⟨h', tk, acc', c', rfl, rfl, fun b o b1 b2 b3 b4 e => hk b o (Nat.ne_of_lt (Heap.lt_size e)) b1 b2 b3 b4 (Heap.get?_push_of_some _ e), hS', hacc⟩)
  refine wpAny_mono key (fun fin s' x => ?_) fun e s' x => ?_
  · cases fin with
    | done f =>
      obtain ⟨h', tk, acc', c', e, rfl, hk, hS', hacc⟩ := x
      cases e
      show wpAny _ A (load s.heap.objs.size >>= _) _ _ _
      refine wpAny_bind (wpAny_load hS' ?_)
      exact wpAny_pure (h h' tk acc' hk (Heap.lt_size hS') hacc)
    | again c₁ =>
      refine ⟨x.1, codeAny_mono x.2 fun q s₂ y => ?_⟩
      obtain ⟨h', tk, acc', c', rfl, rfl, hk, hS', hacc⟩ := y
      show wpAny _ A (load s.heap.objs.size >>= _) _ _ _
      refine wpAny_bind (wpAny_load hS' ?_)
      exact wpAny_pure (h h' tk acc' hk (Heap.lt_size hS') hacc)
  · obtain ⟨_, _, _, _, e', _⟩ := x
    cases e'
theorem ZBeg.sorted {ltv : Heap → Value → Value → Bool} {Q : Value → Shared → Prop} (hh : A.handled = none) (B : ZBeg prog w z TI TO i1 i2 s.heap.objs.size fp1 fp2 n1 n2 n P1 P2 St1 St2 s.heap)
    (h : ∀ (h' : Heap) (tk : Nat) (acc : Array Value), (∀ b o, b ≠ z → b ≠ TO → b ≠ i1 → b ≠ i2 → s.heap.get? b = some o → h'.get? b = some o) → s.heap.objs.size < h'.objs.size → Got (s.heap.objs.size + 1) P1 P2 n acc h' →
      SrtO.Swo (ltv h') ∧ (2 ≤ acc.size → SrtO.SortableO prog w A.in1.in1 { s with heap := h'.push (seqObj "list" acc.toList.toArray 0), toks := tk } h'.objs.size acc.toList (ltv h')) ∧
      ∀ (h'' : Heap) (tk' : Nat) (out : List Value) (c : Nat), SrtO.Srtd (ltv h') out → SrtO.Stb (ltv h') out acc.toList → (∀ b o, h'.get? b = some o → h''.get? b = some o) → h''.get? h'.objs.size = some (seqObj "list" out.toArray c) → Q (.ref h'.objs.size) { s with heap := h'', toks := tk' }) :
    wpAny (model prog w) A (call (.builtin "sorted") [.ref z]) Q E s := by
  refine Calls.call_function_entry kind_sorted plain_sorted entry_sorted (args_sorted1 _) ?_
  unfold Builtin.«sorted»
  refine wpAny_bind (m := checkCount "sorted" 1 1 _) (wpAny_pure ?_)
  refine wpAny_bind (ZBeg.collect (A := A.in1) hh B fun h' tk acc hk lt hacc => ?_)
  obtain ⟨O, srt, fin⟩ := h h' tk acc hk lt hacc
  have hz : acc.toList.length ≤ sizeLine := by rw [Array.length_toList, hacc.size]; exact B.hz
  refine wpAny_bind (wpAny_newList ?_ hz)
  have hoL : (h'.push (seqObj "list" acc.toList.toArray 0)).get? h'.objs.size = some (seqObj "list" acc.toList.toArray 0) := Heap.get?_push_size _ rfl
  refine wpAny_bind (wpAny_holding (wpAny_call_entry slot_list_sort ⟨_, hoL, rfl⟩ entry_list_sort (SrtO.list_sort_ord O hoL hz (fun h2 => srt (by rw [← Array.length_toList]; exact h2)) fun out hs hb => ⟨_, rfl, ?_⟩) (args_list_sort _)))
  refine wpAny_pure ⟨_, rfl, ?_⟩
  obtain ⟨e, he⟩ := sortedHeap_at (out := out.toArray) hoL
  refine fin _ tk out e hs hb (fun b o e => ?_) he
  have hlt : b < h'.objs.size := Heap.lt_size e
  rw [sortedHeap_old (Nat.ne_of_lt hlt) (by rw [size_push']; exact Nat.lt_succ_of_lt hlt)]
  exact Heap.get?_push_of_some _ e
end
def ltT : List Str → List Str → Bool
  | [], [] => false
  | [], _ :: _ => true
  | _ :: _, [] => false
  | a :: as, b :: bs => if a = b then ltT as bs else decide (a.cps.toList < b.cps.toList)
theorem ltS_tri {a b : Str} (h1 : ¬ a.cps.toList < b.cps.toList) (h2 : ¬ b.cps.toList < a.cps.toList) : a = b := by
  exact leS_antisymm (by unfold leS; simpa using h2) (by unfold leS; simpa using h1)
theorem ltT_asym : ∀ {a b : List Str}, ltT a b = true → ltT b a = false
  | [], [], h => rfl
  | [], _ :: _, h => rfl
  | _ :: _, [], h => by cases h
  | a :: as, b :: bs, h => by
    unfold ltT at h ⊢
    by_cases e : a = b
    · subst e
      rw [if_pos rfl] at h ⊢
      exact ltT_asym h
    · rw [if_neg e] at h
      rw [if_neg (Ne.symm e)]
      have h := of_decide_eq_true h
      exact decide_eq_false fun z => List.lt_asymm h z
theorem ltT_no_trans : ∀ {a b c : List Str}, ltT b a = false → ltT c b = false → ltT c a = false
  | [], _, [], _, _ => rfl
  | [], [], _ :: _, _, h => h
  | [], _ :: _, _ :: _, _, _ => rfl
  | _ :: _, [], _, h, _ => by cases h
  | _ :: _, _ :: _, [], h, k => by cases k
  | a :: as, b :: bs, c :: cs, h, k => by
    unfold ltT at h k ⊢
    by_cases e1 : b = a
    · subst e1
      rw [if_pos rfl] at h
      by_cases e2 : c = b
      · subst e2
        rw [if_pos rfl] at k ⊢
        exact ltT_no_trans h k
      · rw [if_neg e2] at k ⊢; exact k
    · rw [if_neg e1] at h
      by_cases e2 : c = b
      · subst e2
        rw [if_neg e1]; exact h
      · rw [if_neg e2] at k
        have h := of_decide_eq_false h
        have k := of_decide_eq_false k
        have le1 : leS a b = true := by unfold leS; simpa using h
        have le2 : leS b c = true := by unfold leS; simpa using k
        have le3 := leS_trans _ _ _ le1 le2
        by_cases e3 : c = a
        · subst e3
          exact absurd (leS_antisymm le2 le1) (fun z => e1 z)
        · rw [if_neg e3]
          unfold leS at le3
          exact decide_eq_false (by simpa using le3)
theorem ltT_tri : ∀ {a b : List Str}, ltT a b = false → ltT b a = false → a = b
  | [], [], _, _ => rfl
  | [], _ :: _, h, _ => by cases h
  | _ :: _, [], _, h => by cases h
  | a :: as, b :: bs, h, k => by
    unfold ltT at h k
    by_cases e : a = b
    · subst e
      rw [if_pos rfl] at h k
      rw [ltT_tri h k]
    · rw [if_neg e] at h
      rw [if_neg (Ne.symm e)] at k
      exact absurd (ltS_tri (of_decide_eq_false h) (of_decide_eq_false k)) e
open L2
def IsTx (h : Heap) (v : Value) (xs : List Str) : Prop := ∃ (a : Addr) (o : Obj) (its : Array Value) (n : Nat), v = .ref a ∧ h.get? a = some o ∧ o.cls = .type "tuple" ∧ o.data = .seq its n ∧ Vals (xs.map V.str) its.toList
theorem IsTx.keeps {h h' : Heap} {v : Value} {xs : List Str} (t : IsTx h v xs) (k : ∀ b o, h.get? b = some o → o.cls = .type "tuple" → h'.get? b = some o) : IsTx h' v xs := by
  obtain ⟨a, o, its, n, e, ho, hc, hd, r⟩ := t
  exact ⟨a, o, its, n, e, k _ _ ho hc, hc, hd, r⟩
section
variable {prog : Program} {w : World} {A : Around} {s : Shared}
end
end TN
set_option Elab.async false
set_option linter.all false
set_option maxRecDepth 100000
set_option maxHeartbeats 4000000
set_option autoImplicit false
namespace TN
open PySem PySem.Spec PyProof.Rows L2
theorem vals_ix : ∀ {xs : List V} {us : List Value} {i : Nat} {u : Value}, Vals xs us → us[i]? = some u → ∃ x, xs[i]? = some x ∧ RelV x u
  | _, _, _, _, .nil, e => by simp at e
  | _, _, 0, _, .cons r _, e => by simp at e; subst e; exact ⟨_, rfl, r⟩
  | _, _, i + 1, x, .cons _ t, e => by
    obtain ⟨u, h1, h2⟩ := vals_ix (i := i) t (by simpa using e)
    exact ⟨u, by simpa using h1, h2⟩

structure SrcB (prog : Program) (w : World) (h : Heap) (u : Value) (xs : List V) : Prop where
  ex : ∃ (o : Obj) (Hc : Heap → Prop) (fp : List Addr) (P : Nat → Value → Prop) (St : Addr → Nat → Heap → Prop), Begins u o Hc ∧ Hc h ∧ (∀ b ∈ fp, b < h.objs.size) ∧
    (∀ it, h.objs.size ≤ it → ∀ A : Around, A.handled = none → Draws prog w A it (it :: fp) xs.length P (St it)) ∧
    (∀ it h', (∀ b o, h.get? b = some o → h'.get? b = some o) → h'.get? it = some o → St it 0 h') ∧ ∀ j x, P j x → ∃ v, xs[j]? = some v ∧ RelV v x
end TN
set_option Elab.async false
set_option linter.all false
set_option maxRecDepth 100000
set_option maxHeartbeats 4000000
set_option autoImplicit false
namespace TN
open PySem PySem.Spec PyProof.Rows L2
section
variable {X : Cx} {pins : List (Addr × Obj)} {σ : L2.St} {H : Hp} {s : Shared} {v1 v2 : V} {xs ys : List V}
end
section
variable {X : Cx} {e1 e2 : Expr} {p p2 pos pos2 : Pos} {ta : TA}
def decV : Value → Str
  | .str x _ => x
  | _ => Str.empty
def decT (h : Heap) : Value → List Str
  | .ref a => match h.get? a with
    | some o => match o.data with
      | .seq its _ => its.toList.map decV
      | _ => []
    | none => []
  | _ => []
end
end TN
set_option Elab.async false
set_option linter.all false
set_option maxRecDepth 100000
set_option maxHeartbeats 2000000
set_option autoImplicit false
namespace TN
open PySem PySem.Spec PyProof.Rows L2
section
variable {K : PySem.W.Frag} {bor : List Nat} {ta tb : TA} {te tf : TE}
def keyK : D → Option Key
  | .int i => some (.inl i)
  | .str x => some (.inr x)
  | _ => none
theorem keyK_is {d : D} {k : Key} (h : keyK d = some k) : d = keyD k := by
  cases d <;> first | (cases h; done) | (injection h with h; subst h; rfl)
def dctD (kvs : List (Key × D)) : List (D × D) := kvs.map fun p => (keyD p.1, p.2)
def lookD : List (D × D) → Key → Option D
  | [], _ => none
  | (a, v) :: r, k => if keyK a = some k then some v else lookD r k
def oGet : F2 := fun d e => match d with
  | .dict kvs => (keyK e).bind fun k => lookD kvs k
  | _ => none
theorem keyK_D (k : Key) : keyK (keyD k) = some k := by cases k <;> rfl
theorem look_dq {G : Hp} : ∀ {ks : List (Key × V)} {kvs : List (D × D)} {k : Key} {d : D}, DqKs K G ks kvs → lookD kvs k = some d → ∃ v, valV ks k = some v ∧ Dq K G v d
  | _, _, k, d, .nil, e => by cases e
  | _, _, k, d, .cons (k := k') (v := v) (d := d') a b, e => by
    have e : (if keyK (keyD k') = some k then some d' else lookD _ k) = some d := e
    rw [keyK_D] at e
    by_cases h : k' = k
    · subst h
      rw [if_pos rfl] at e
      injection e with e; subst e
      exact ⟨v, valV_pos rfl, a⟩
    · rw [if_neg (fun z => h (by injection z))] at e
      obtain ⟨u, e1, e2⟩ := look_dq b e
      exact ⟨u, by rw [valV_neg h]; exact e1, e2⟩
theorem lp_dget {f g : FE} (h1 : LM K bor te f) (h2 : LM K bor tf g) : LP K bor (tDGet te tf) (f2 oGet f g) := fun {c G σ H ρ d Q} hc R e k => by
  unfold f2 at e
  split at e
  · rename_i d1 d2 e1 e2
    unfold oGet at e
    split at e
    · rename_i kvs
      obtain ⟨ky, e3, e4⟩ := Option.bind_eq_some_iff.mp e
      have := keyK_is e3
      subst this
      refine h1 hc R e1 fun v G1 H1 g1 p1 => h2 hc (R.grow g1) e2 fun w G2 H2 g2 p2 => ?_
      rcases p1 with p1 | ⟨_, _, _, _, z, _⟩
      · cases p1 with
        | @dct a u ks _ ha hk =>
          have w2 : w = kV ky := by
            cases ky with
            | inl i => exact p2.int
            | inr i => exact p2.str
          subst w2
          obtain ⟨v, v1, v2⟩ := look_dq hk e4
          exact ⟨a, v, rfl, .inl ⟨ks, ky, .inr ⟨u, g2.h _ _ (g1.s _ _ ha)⟩, rfl, v1.symm⟩, k v G2 H2 (g1.trans g2) (dpS g2.g v2)⟩
      · cases z
    · cases e
  · cases e
end
end TN
set_option Elab.async false
set_option linter.all false
set_option maxRecDepth 100000
set_option maxHeartbeats 2000000
set_option autoImplicit false
namespace TN
open PySem PySem.Spec PyProof.Rows L2
section
variable {prog : Program} {w : World} {A : Around} {E : Value → Shared → Prop} {s : Shared}
theorem fm_map {α β : Type} {f : α → Option β} {g : α → β} : ∀ l : List α, (∀ x ∈ l, f x = some (g x)) → l.filterMap f = l.map g
  | [], _ => rfl
  | x :: l, h => by
    rw [List.filterMap_cons, h x List.mem_cons_self, List.map_cons, fm_map l fun y hy => h y (List.mem_cons_of_mem _ hy)]
theorem turned {items : Array Value} : ((List.range items.size).filterMap fun (k : Nat) => items[((items.size : Int) - 1 + (k : Int) * (-1)).toNat]?).toArray = items.toList.reverse.toArray := by
  congr 1
  apply List.ext_getElem?
  intro i
  have all : (List.range items.size).filterMap (fun (k : Nat) => items[((items.size : Int) - 1 + (k : Int) * (-1)).toNat]?) = (List.range items.size).map (fun (k : Nat) => items.toList.getD (items.size - 1 - k) Value.none) := by
    refine fm_map _ fun k hk => ?_
    have hk := List.mem_range.mp hk
    have e : ((items.size : Int) - 1 + (k : Int) * (-1)).toNat = items.size - 1 - k := by omega
    have lt : items.size - 1 - k < items.toList.length := by rw [Array.length_toList]; omega
    rw [e]
    simp [List.getD, List.getElem?_eq_getElem lt]
  rw [all]
  by_cases hi : i < items.size
  · have l2 : items.toList.length - 1 - i < items.toList.length := by rw [Array.length_toList]; omega
    rw [List.getElem?_map, List.getElem?_range hi, List.getElem?_reverse (by rw [Array.length_toList]; exact hi)]
    rw [Array.length_toList] at l2 ⊢
    show some (items.toList.getD (items.size - 1 - i) Value.none) = _
    rw [List.getElem?_eq_getElem (by rw [Array.length_toList]; exact l2), getD_of (by rw [Array.length_toList]; exact l2)]
  · rw [List.getElem?_eq_none (by rw [List.length_map, List.length_range]; omega), List.getElem?_eq_none (by rw [List.length_reverse, Array.length_toList]; omega)]
theorem applied_rev {sl : Addr} {x y z : Value} {n : Nat} {Q : Int × Int × Nat → Shared → Prop} (is : s.heap.IsSliceOf sl x y z) (px : IsPart x none) (py : IsPart y none) (pz : IsPart z (some (-1)))
    (q : Q ((n : Int) - 1, -1, n) s) : wpAny (model prog w) A (Builtin.Slice.sliceApplied (.ref sl) (pure (n : Int))) Q E s := by
  obtain ⟨o, h1, h2, h3⟩ := is
  unfold Builtin.Slice.sliceApplied Builtin.Slice.sliceFields
  have last : wpAny (model prog w) A (pure (match Builtin.Slice.sliceAdjust none none (-1) (n : Int) with | (lo, hi) => (lo, (-1 : Int), Builtin.Slice.slicePlaces lo hi (-1)))) Q E s := by
    refine wpAny_pure ?_
    have e : Builtin.Slice.slicePlaces ((n : Int) - 1) (-1) (-1) = n := by
      unfold Builtin.Slice.slicePlaces
      rw [if_neg (by decide)]
      by_cases h : ((n : Int) - 1) > -1
      · rw [if_pos h]
        have : ((n : Int) - 1 - -1 - 1) / (- -1) + 1 = n := by
          rw [show (- -1 : Int) = 1 from rfl, Int.ediv_one]; omega
        rw [this]; rfl
      · rw [if_neg h]
        have : n = 0 := by omega
        subst this; rfl
    show Q ((n : Int) - 1, -1, Builtin.Slice.slicePlaces ((n : Int) - 1) (-1) (-1)) s
    rw [e]; exact q
  refine wpAny_bind (wpAny_bind (wpAny_field h1 h3 (x := x) rfl (wpAny_bind (wpAny_field h1 h3 (x := y) rfl (wpAny_bind (wpAny_field h1 h3 (x := z) rfl (wpAny_pure ?_)))))))
  refine wpAny_bind (HT.slicePart_ pz ?_)
  show wpAny _ _ (if ((-1 : Int) == 0) = true then _ else _) _ _ _
  rw [if_neg (by decide)]
  exact wpAny_bind (HT.slicePart_ px (wpAny_bind (HT.slicePart_ py (wpAny_bind (wpAny_pure last)))))
theorem getItem_turned {t sl : Addr} {items : Array Value} {x y z : Value} {Q : Value → Shared → Prop} (tup : IsTup s.heap t items) (is : s.heap.IsSliceOf sl x y z) (px : IsPart x none) (py : IsPart y none) (pz : IsPart z (some (-1)))
    (q : Q (.ref s.heap.objs.size) { s with heap := s.heap.push { cls := .type "tuple", data := .seq items.toList.reverse.toArray } }) (size : items.size ≤ sizeLine) : wpAny (model prog w) A (getItem (.ref t) (.ref sl)) Q E s := by
  have fits : sizeOk (.seq items.toList.reverse.toArray) := by
    show items.toList.reverse.toArray.size ≤ sizeLine
    simpa using size
  have kind : s.TypeIs (.ref sl) "slice" := by
    obtain ⟨o, h1, h2, _⟩ := is
    exact ⟨o, h1, h2⟩
  unfold getItem
  try (with_reducible refine wpAny_holding ?_; skip)
  try (refine wpAny_bind (wpAny_pure ?_); skip)
  refine wpAny_bind (wpAny_sequenceKey tup.typeIs (by decide) (wpAny_bind
    (wpAny_callSpecial?_slot (name := Str.ofString "__getitem__") tup.typeIs PyProof.Rows.slot_tuple_getitem (wpAny_call_entry PyProof.Rows.slot_tuple_getitem tup.typeIs entry_tuple_getitem ?_ (args_tuple_getitem _ _)))))
  show wpAny _ _ (Builtin.Tuple.tupleItemsOf (.ref t) >>= _) _ _ _
  refine wpAny_bind (tupleItemsOf_ tup (wpAny_bind (wpAny_typeOf kind ?_)))
  rw [if_pos (by decide)]
  refine wpAny_bind (applied_rev is px py pz ?_)
  have no : ¬ ((((items.size : Int) - 1 == 0) && ((-1 : Int) == 1) && (items.size == items.size)) = true) := by
    rw [show ((-1 : Int) == 1) = false from by decide, Bool.and_false, Bool.false_and]
    exact Bool.false_ne_true
  show wpAny _ _ (if (((items.size : Int) - 1 == 0) && ((-1 : Int) == 1) && (items.size == items.size)) = true then _ else _) _ _ _
  rw [if_neg no, turned]
  first
    | exact wpAny_bind (m := Builtin.Tuple.tupleExact _) (wpAny_newObj_type (wpAny_pure ⟨_, rfl, wpAny_pure q⟩) fits)
    | exact wpAny_bind (m := Builtin.Tuple.tupleExact _) (wpAny_newObj_type (wpAny_bind (wpAny_pure (wpAny_pure ⟨_, rfl, wpAny_pure q⟩))) fits)
    | exact wpAny_bind (wpAny_bind (m := Builtin.Tuple.tupleExact _) (wpAny_newObj_type (wpAny_pure (wpAny_pure ⟨_, rfl, wpAny_pure q⟩)) fits))
    | exact wpAny_bind (wpAny_bind (m := Builtin.Tuple.tupleExact _) (wpAny_newObj_type (wpAny_pure ⟨_, rfl, wpAny_pure q⟩) fits))
end
section
variable {X : Cx} {K : PySem.W.Frag} {bor : List Nat} {te : TE} {f : FE} {A : TDE}
def tRevX (K : PySem.W.Frag) (te : TE) : TE := fun σ H Q => te σ H fun x H1 => ∃ a xs, x = .ref a ∧
  ((SqL K H1 a xs ∧ ∀ p, H1 p = none → Q (.ref p) (upd H1 p (.lst xs.reverse))) ∨ (SqT K H1 a xs ∧ ∀ (p : Addr) (o : Obj), o.dict = none → H1 p = none → Q (.ref p) (upd H1 p (.frz o (.tup xs.reverse)))))
theorem pe_revX {e : Expr} {k : Nat} {p1 p2 p3 pos : Pos} (he : PE X e te) : PE X (.Subscript e (.Slice none none (some (.UnaryOp .USub (.Constant (.int 1) k p1) p2)) p3) pos) (tRevX X.K te) := by
  constructor
  intro pins s σ H Q I h
  apply Subscript_
  refine thn (he.run pins s σ H _ I h) ?_
  rintro v t1 ⟨x, H1, J1, rx, a, xs, rfl, hx⟩
  cases rx
  have step : PO X (some (.UnaryOp .USub (.Constant (.int 1) k p1) p2)) (tPart (tUn (L2.rU fun i => .int (-i)) (tC (.int 1)))) := po_some (pe_un un_neg pe_int)
  apply wpAny_Slice
  refine thn (po_none.run pins t1 σ H1 (fun o H' => o = none ∧ H' = H1) J1 ⟨rfl, rfl⟩) ?_
  rintro vl t2 ⟨_, H2, J2, pl, rfl, rfl⟩
  refine thn (po_none.run pins t2 σ H2 (fun o H' => o = none ∧ H' = H2) J2 ⟨rfl, rfl⟩) ?_
  rintro vu t3 ⟨_, H3, J3, pu, rfl, rfl⟩
  refine thn (step.run pins t3 σ H3 (fun o H' => o = some (-1) ∧ H' = H3) J3 ⟨1, rfl, -1, rfl, rfl, rfl⟩) ?_
  rintro vs t4 ⟨_, H4, J4, ps, rfl, rfl⟩
  have J5 : Inv X pins σ H4 { t4 with heap := t4.heap.push { cls := .type "slice", data := .fields #[vl, vu, vs] } } := J4.kept (t' := t4.toks) fun b ob q => Heap.get?_push_of_some _ q
  show wpAny (model X.prog X.w) X.A (subscriptTail e (.Slice none none (some (.UnaryOp .USub (.Constant (.int 1) k p1) p2)) p3) (.ref a) (.ref t4.heap.objs.size)) (EP X pins σ Q) X.xe _
  rcases hx with ⟨hx, q⟩ | ⟨hx, q⟩
  · obtain ⟨its, r, ht, hz⟩ := J5.list hx
    have hl := r.length
    refine tail_any (ops := [.ref a, .ref t4.heap.objs.size]) ht.isList.typeIs (PySem.slot_list_getitem.lookup) ?_ (by with_unfolding_all rfl)
    apply wpAny_getItem_list_slice ht.isList (Heap.IsSliceOf.new _ vl vu vs) pl pu ps (by decide) _ (by rw [List.size_toArray]; omega)
    rw [PySem.W.krv_pick]
    refine ⟨.ref _, _, J5.laid (t' := t4.toks) (o := .lst xs.reverse) (fun b ob q => Heap.get?_push_of_some _ q) (Nat.le_refl _) ?_, rfl, q _ (J5.hok.fresh (Nat.le_refl _))⟩
    exact ⟨by rw [List.length_reverse]; exact hz, _, 0, r.reverse, Heap.get?_push_size _ rfl⟩
  · obtain ⟨its, r, tup, hz⟩ := J5.tuple hx
    have hl := r.length
    refine tail_any (ops := [.ref a, .ref t4.heap.objs.size]) tup.typeIs (PyProof.Rows.slot_tuple_getitem.lookup) ?_ (by with_unfolding_all rfl)
    apply getItem_turned tup (Heap.IsSliceOf.new _ vl vu vs) pl pu ps _ (by rw [List.size_toArray]; omega)
    exact ⟨.ref _, _, tup_laid J5 r.reverse (by rw [List.length_reverse]; exact hz), rfl, q _ _ rfl (J5.hok.fresh (Nat.le_refl _))⟩
def oRev : F1 := fun d => match d with
  | .list xs => some (.list xs.reverse)
  | .tuple xs => some (.tuple xs.reverse)
  | _ => none
theorem rev_run {G H : Hp} {v : V} {d z : D} {Q : VK} (s : Same G H) (p : DpM K G H v d) (e : oRev d = some z) (k : ∀ u G' H', Grow G H G' H' → Dq K G' u z → Q u H') : ∃ a xs, v = .ref a ∧
    ((SqL K H a xs ∧ ∀ p, H p = none → Q (.ref p) (upd H p (.lst xs.reverse))) ∨ (SqT K H a xs ∧ ∀ (p : Addr) (o : Obj), o.dict = none → H p = none → Q (.ref p) (upd H p (.frz o (.tup xs.reverse))))) := by
  unfold oRev at e
  split at e
  · injection e with e; subst e
    obtain ⟨a, vs, rfl, h1, h2⟩ := p.list s
    refine ⟨a, vs, rfl, .inl ⟨h1, fun l hl => ?_⟩⟩
    have g := grow_new (o := .lst vs.reverse) s hl
    exact k _ _ _ g (.lst (sqU upd_same) (dpsS g.g (dps_rev h2)))
  · injection e with e; subst e
    obtain ⟨a, vs, rfl, h1, h2⟩ := p.tup s
    refine ⟨a, vs, rfl, .inr ⟨h1, fun l o hd hl => ?_⟩⟩
    have g := grow_new (o := .frz o (.tup vs.reverse)) s hl
    exact k _ _ _ g (.tup (.inl ⟨o, upd_same, hd⟩) (dpsS g.g (dps_rev h2)))
  · cases e
theorem lp_rev (h : LM K bor te f) : LP K bor (tRevX K te) (f1 oRev f) := fun {c G σ H ρ d Q} hc R e k => by
  unfold f1 at e
  split at e
  · rename_i d1 e1
    exact h hc R e1 fun v G1 H1 g1 p1 => rev_run g1.s p1 e fun u G2 H2 g2 p2 => k u G2 H2 (g1.trans g2) p2
  · cases e
end
end TN
set_option Elab.async false
set_option linter.all false
set_option maxRecDepth 100000
set_option maxHeartbeats 2000000
set_option autoImplicit false
namespace TN
open PySem PySem.Spec PyProof.Rows L2
def Ev.even : Ev → Prop
  | .place _ | .name _ => True
  | _ => False
theorem even_run : ∀ (es : List Ev) (r : List Str), (∀ e ∈ es, e.even) → runH r es = runT r es
  | [], r, _ => rfl
  | e :: es, r, h => by
    have he := h e List.mem_cons_self
    have tk : e.takes r = [e.at r] := by cases e <;> first | rfl | exact he.elim
    show ((runH (takeAll r (e.takes r)).1 es).1, (takeAll r (e.takes r)).2 ++ (runH (takeAll r (e.takes r)).1 es).2) = ((runT (toF r (e.at r)) es).1, r.getD (e.at r) "" :: (runT (toF r (e.at r)) es).2)
    rw [tk]
    show ((runH (toF r (e.at r)) es).1, r.getD (e.at r) "" :: (runH (toF r (e.at r)) es).2) = _
    rw [even_run es _ fun x hx => h x (List.mem_cons_of_mem _ hx)]

theorem idx_at {x : Str} {r : List Str} (h : x ∈ r) : r.getD ((idxS x r).getD 0) "" = x := by
  obtain ⟨j, h1, h2⟩ := idxS_mem h
  rw [h1]
  show r.getD j "" = x
  obtain ⟨h3, _⟩ := idxS_is h1
  rw [List.getD, h3]; rfl
theorem oAdd_lst {a b : List D} (h : a.length + b.length ≤ 100000) : oAdd (.list a) (.list b) = some (.list (a ++ b)) := if_pos h
theorem oRev_tupL {u : List Str} : oRev (tupL u) = some (tupL u.reverse) := by
  show some (PyData.tuple (u.map PyData.str).reverse) = _
  rw [← List.map_reverse]
end TN
set_option Elab.async false
set_option linter.all false
set_option maxRecDepth 100000
set_option maxHeartbeats 2000000
set_option autoImplicit false
namespace TN
open PySem PySem.Spec PyProof.Rows L2
structure Seen (P : Program) (w : World) (K : PySem.W.Frag) (H : Hp) (t : Shared) (p : Addr) : Prop where
  good : HOk P w H t.heap
  one : ∀ q, H q ≠ none → q = p
  far : H p ≠ none → K.lookup p = none
  frz : ∀ q, H q = none ∨ ∃ o ws, H q = some (.frz o (.lst ws))

structure Left (K : PySem.W.Frag) (mg mb : Str → Option Value) (t : Shared) : Prop where
  kin : K.In t.heap
  main : t.heap.Ns mainGlobals mg
  blt : t.heap.Ns builtinsNs mb
  boot : ∀ y : Str, y ≠ "__name__" → mb y = bootBuiltins y
  free : t.heap.NoLimit
  gens : t.gens = #[]
section
variable {P : Program} {w : World} {K : PySem.W.Frag} {mg mb : Str → Option Value} {t : Shared} {p : Addr} {items : List Value} {H : Hp}
theorem Seen.dict (S : Seen P w K H t p) (at' : t.heap.get? p = some { cls := .type "list", data := .seq items.toArray }) {q : Addr} {o : Obj} {es : Array DictEntry} {n : Nat} (e : t.heap.get? q = some o) (d : o.data = .dict es n) : H q = none := by
  rcases hq : H q with _ | u
  · rfl
  · exfalso
    have := S.one q (by rw [hq]; exact Option.some_ne_none _)
    subst this
    rw [at'] at e
    injection e with e
    subst e
    exact Data.noConfusion d
theorem Seen.ns (S : Seen P w K H t p) (at' : t.heap.get? p = some { cls := .type "list", data := .seq items.toArray }) {q : Addr} {m : Str → Option Value} (h : t.heap.Ns q m) : (hidT t.heap H).Ns q m := by
  obtain ⟨o, es, n, e, d, more⟩ := h
  exact ⟨o, es, n, hidT_get e (S.dict at' e d), d, more⟩
theorem Seen.kin (S : Seen P w K H t p) (L : Left K mg mb t) : K.In (hidT t.heap H) := by
  intro q o e
  refine hidT_get (L.kin q o e) ?_
  rcases hq : H q with _ | u
  · rfl
  · exfalso
    have := S.one q (by rw [hq]; exact Option.some_ne_none _)
    subst this
    rw [S.far (by rw [hq]; exact Option.some_ne_none _)] at e
    cases e
theorem Seen.env (S : Seen P w K H t p) (L : Left K mg mb t) (at' : t.heap.get? p = some { cls := .type "list", data := .seq items.toArray }) : Env0 P w K mg (hidT t.heap H) callerA [] t H := by
  obtain ⟨mc, l1, l2⟩ := L.free
  have m : Mod K mg (hidT t.heap H) := ⟨S.kin L, S.ns at' L.main, ⟨mb, S.ns at' L.blt, L.boot⟩, mc, S.ns at' l1, l2⟩
  refine ⟨rfl, m, fun q o e => of_hidT e, Nat.le_of_eq (hidT_size _ _), trivial, fun q hq => ?_, S.good, .of_eq L.gens⟩
  cases hq

theorem law_goes {k : Nat} {fa : Addr} {fd : FuncData} {x : Str} {sp : Sp} (S : Seen P w K H t p) (L : Left K mg mb t) (at' : t.heap.get? p = some { cls := .type "list", data := .seq items.toArray }) (room : Room k callerA)
    (F : ∀ base : Heap, K.In base → base.Ns mainGlobals mg → FnG P w K mg base CX0 k fa fd [x] sp) (bind : ∀ (s : Shared) (u : Value), BindsTo s fd ⟨[u], []⟩ [(x, u)])
    (q : sp [.ref p] H (fun v _ => v = .bl true) fun _ _ _ => False) :
    codeAny (model P w) callerA (.call (.ref fa) ⟨[.ref p], []⟩) (fun r s' => r = .ok (.ret (.bool true)) ∧ OldK t.heap s'.heap ∧ s'.os = t.os ∧ AllBare s'.gens) t := by
  have run := (F _ (S.kin L) (S.ns at' L.main)).go callerA [] t H ⟨[.ref p], []⟩ [.ref p] [.ref p] _ _ rfl room (S.env L at') (bind t (.ref p)) (.cons rfl .nil) q
  refine codeAny_mono run fun r s' h => ?_
  rcases r with z | fl
  · exact (h : False).elim
  rcases fl with _ | _ | _ | u
  all_goals first | exact (h : False).elim | skip
  obtain ⟨v, H2, h1, h2, h3, h4, h5, h6⟩ := h
  subst h6
  have : u = Value.bool true := h5
  subst this
  refine ⟨rfl, OldK.of_keep fun y o e => ?_, h1, h2⟩
  rcases hy : H y with _ | u
  · exact h3.keep y o e hy (by intro z; cases z) (by simp)
  · rcases S.frz y with z | ⟨o', ws, z⟩
    · rw [hy] at z; cases z
    · obtain ⟨a1, _⟩ := S.good y _ z
      obtain ⟨b1, _⟩ := h4 y _ (h3.frzs y o' _ z)
      rw [a1] at e
      injection e with e
      rw [← e]; exact b1

theorem seen_script {ns : List Int} (at' : t.heap.get? p = some { cls := .type "list", data := .seq items.toArray }) (L : Left K mg mb t) (i : IntsAre items ns) (few : ns.length ≤ sizeLine) :
    ∃ H, Seen P w K H t p ∧ SqL K H p (ns.map V.int) := by
  have il := i.length
  have rv : Vals (ns.map V.int) items := vals_ints i
  rcases hk : K.lookup p with _ | o
  · let H : Hp := fun y => if y = p then some (.frz { cls := .type "list", data := .seq items.toArray } (.lst (ns.map V.int))) else none
    have at1 : H p = some (.frz { cls := .type "list", data := .seq items.toArray } (.lst (ns.map V.int))) := if_pos rfl
    have off : ∀ y, y ≠ p → H y = none := fun y hy => if_neg hy
    refine ⟨H, ⟨fun y u e => ?_, fun y hy => ?_, fun _ => hk, fun y => ?_⟩, .inl (.inr ⟨_, at1⟩)⟩
    · by_cases hy : y = p
      · subst hy
        rw [at1] at e
        injection e with e
        subst e
        exact ⟨at', by rw [List.length_map]; exact few, items, _, rv, at'⟩
      · rw [off y hy] at e; cases e
    · exact Classical.byContradiction fun z => hy (off y z)
    · by_cases hy : y = p
      · subst hy; exact .inr ⟨_, _, at1⟩
      · exact .inl (off y hy)
  · have e := L.kin p o hk
    rw [at'] at e
    injection e with e
    subst e
    refine ⟨fun _ => none, ⟨(fun y u z => by cases z), fun y z => absurd rfl z, fun z => absurd rfl z, fun _ => .inl rfl⟩, .inr ⟨_, items.toArray, _, hk, rfl, rfl, rfl, by rw [List.size_toArray, il]; exact few, by simpa using rv⟩⟩
end
theorem dq_nums {K : PySem.W.Frag} {G : Hp} : ∀ ns : List Int, DqAll K G (ns.map V.int) (ns.map PyData.int)
  | [] => .nil
  | n :: ns => .cons (.int n) (dq_nums ns)

theorem law_by {l : PySem.W.OpenLaw} {n k : Nat} {pr : Program} {loose : List Str} {XP : (Str → Option Value) → Heap → Prop} {YP : World → Heap → Prop} {d : DefRec} {K : Params → PySem.W.Frag} {x : Str} {sem : List D → (Sl → Prop) → Prop}
    (most : l.most = some n) (small : n ≤ sizeLine) (plain : d.params.defaults = []) (room : Room k callerA) (kin : ∀ (w : World) (h : Heap), YP w h → (K w.params).In h)
    (F : ∀ (w : World) (mg : Str → Option Value) (fa : Addr) (h : Heap), (K w.params).In h → h.Ns mainGlobals mg → mg d.name = some (.ref fa) →
      ∃ fd : FuncData, (∀ (s : Shared) (u : Value), BindsTo s fd ⟨[u], []⟩ [(x, u)]) ∧ ∀ base : Heap, (K w.params).In base → base.Ns mainGlobals mg → FnG l.prog w (K w.params) mg base CX0 k fa fd [x] (sp0 (K w.params) sem))
    (yes : ∀ (ns : List Int) (Q : Sl → Prop), ns.length ≤ n → Q (.sh (.bool true)) → sem [.list (ns.map PyData.int)] Q) :
    PySem.W.WalkO pr loose XP YP l.row.toRowW d [] (fun f vs => PySem.call f vs) := by
  refine Att.attach_call most plain fun w s₀ t mg mb fa o pm cd doc p items ns G Y ho hd hcd hmg at' nums len gens => ?_
  have L : Left (K w.params) mg mb t := ⟨kin w _ Y, G.T.g, G.T.b, G.T.builtins, G.T.nolimit, gens⟩
  obtain ⟨fd, bind, promise⟩ := F w mg fa _ L.kin G.T.g hmg
  obtain ⟨H, S, sq⟩ := seen_script (P := l.prog) (w := w) at' L nums (Nat.le_trans len small)
  refine law_goes S L at' room promise bind ?_
  exact ⟨H, [.list (ns.map PyData.int)], fun r => r = .sh (.bool true), fun _ _ e => e, .cons (.lst sq (dq_nums ns)) .nil, yes ns _ len rfl, fun v G2 H2 r _ ok e => by
    subst e
    have ok : Dq (K w.params) G2 v (.bool true) := ok
    cases ok; rfl⟩
end TN
set_option Elab.async false
set_option linter.all false
set_option maxRecDepth 100000
set_option maxHeartbeats 2000000
set_option autoImplicit false
namespace TN
open PySem PySem.Spec PyProof.Rows L2
theorem oSorted_lstL {r : List Str} (few : r.length < 64) : oSorted [lstL r] = some ((sortS r).map PyData.str) := by
  show (strsOf (r.map PyData.str)).bind _ = _
  rw [strsOf_map, Option.bind_some, if_pos few]
theorem oNin_tup {x : Str} {r : List Str} : oIn true (.str x) (tupL r) = some (.bool (decide (x ∉ r))) := by
  show (((strsOf (r.map PyData.str)).map fun ys => decide (x ∈ ys)).or _).map _ = _
  rw [strsOf_map]
  show some (PyData.bool (!decide (x ∈ r))) = _
  simp

theorem signs_all : cutS SIGNS none (some ((26 : Nat) : Int)) = SIGNS := by decide +kernel
theorem signs_list : oList [.str SIGNS] = some ((alpha 26).map PyData.str) := by
  obtain ⟨z, e1, e2⟩ := alpha_cut (n := 26) (by omega)
  have : oSlice none (some (26 : Nat)) (.str SIGNS) = some (.str SIGNS) := by
    show (if SIGNS.length ≤ 100000 then some (PyData.str (cutS SIGNS none (some ((26 : Nat) : Int)))) else none) = _
    rw [if_pos (by decide +kernel), signs_all]
  rw [this] at e1
  injection e1 with e1
  injection e1 with e1
  rw [e1]; exact e2
theorem oLen_ns {ns : List Int} : oLen [.list (ns.map PyData.int)] = some (.int ns.length) := by show some (PyData.int (ns.map PyData.int).length) = _; rw [List.length_map]
end TN
set_option Elab.async false
set_option linter.all false
set_option maxRecDepth 100000
set_option maxHeartbeats 2000000
set_option autoImplicit false
namespace TN
open PySem PySem.Spec PyProof.Rows L2
def fOf (ks vs : List Str) (x : Str) : Str := vs.getD ((idxS x ks).getD 0) ""
theorem fOf_mem {ks vs : List Str} {x : Str} (e : ks.length = vs.length) (h : x ∈ ks) : fOf ks vs x ∈ vs := by
  obtain ⟨j, h1, h2⟩ := idxS_mem h
  unfold fOf
  rw [h1, Option.getD_some, getD_of (by omega)]
  exact List.getElem_mem _
theorem idxS_nd : ∀ {ks : List Str} {j : Nat}, ks.Nodup → (h : j < ks.length) → idxS ks[j] ks = some j
  | k :: ks, 0, nd, h => by unfold idxS; rw [List.getElem_cons_zero, if_pos rfl]
  | k :: ks, j + 1, nd, h => by
    rw [List.nodup_cons] at nd
    unfold idxS
    rw [List.getElem_cons_succ, if_neg (fun z => nd.1 (by rw [z]; exact List.getElem_mem _)), idxS_nd nd.2 (by simpa using h)]; rfl
theorem map_fOf {ks vs : List Str} (nd : ks.Nodup) (e : ks.length = vs.length) : ks.map (fOf ks vs) = vs := by
  apply List.ext_getElem
  · rw [List.length_map, e]
  · intro j h1 h2
    rw [List.getElem_map]
    unfold fOf
    rw [idxS_nd nd (by rw [List.length_map] at h1; exact h1), Option.getD_some, getD_of h2]
theorem fOf_inj {ks vs : List Str} (nd : ks.Nodup) (nv : vs.Nodup) (e : ks.length = vs.length) {x y : Str} (hx : x ∈ ks) (hy : y ∈ ks) (h : fOf ks vs x = fOf ks vs y) : x = y := by
  obtain ⟨i, h1, h2⟩ := idxS_mem hx
  obtain ⟨j, h3, h4⟩ := idxS_mem hy
  unfold fOf at h
  rw [h1, h3, Option.getD_some, Option.getD_some, getD_of (by omega), getD_of (by omega)] at h
  have := (List.getElem_inj nv).mp h
  subst this
  have a := (idxS_is h1).1
  have b := (idxS_is h3).1
  rw [a] at b
  injection b

theorem toF_map (f : Str → Str) {r : List Str} {p : Nat} (h : p < r.length) : toF (r.map f) p = (toF r p).map f := by
  unfold toF
  rw [getD_of (by rw [List.length_map]; exact h), getD_of h, List.getElem_map, ← List.map_take, ← List.map_drop, List.map_append, List.map_append]; rfl
theorem getD_map (f : Str → Str) {r : List Str} {p : Nat} (h : p < r.length) : (r.map f).getD p "" = f (r.getD p "") := by
  rw [getD_of (by rw [List.length_map]; exact h), getD_of h, List.getElem_map]
def Ev.ren (f : Str → Str) : Ev → Ev
  | .name x => .name (f x)
  | e => e
theorem idxS_map (f : Str → Str) {x : Str} : ∀ {r : List Str}, (∀ y ∈ r, f x = f y → x = y) → idxS (f x) (r.map f) = idxS x r
  | [], _ => rfl
  | y :: r, h => by
    rw [List.map_cons]
    unfold idxS
    by_cases e : y = x
    · rw [if_pos e, if_pos (by rw [e])]
    · rw [if_neg e, if_neg (fun z => e (h y List.mem_cons_self z.symm).symm), idxS_map f fun z hz => h z (List.mem_cons_of_mem _ hz)]
theorem Ev.at_ren (f : Str → Str) {r : List Str} {e : Ev} (inj : ∀ x ∈ r, ∀ y ∈ r, f x = f y → x = y) (h : e.ok r) : (e.ren f).at (r.map f) = e.at r := by
  cases e with
  | name x => show (idxS (f x) (r.map f)).getD 0 = _; rw [idxS_map f fun y hy => inj x h y hy]; rfl
  | _ => rfl
theorem runT_ren (f : Str → Str) : ∀ (es : List Ev) (r : List Str), (∀ x ∈ r, ∀ y ∈ r, f x = f y → x = y) → (∀ e ∈ es, e.ok r) → runT (r.map f) (es.map (Ev.ren f)) = ((runT r es).1.map f, (runT r es).2.map f)
  | [], r, _, _ => rfl
  | e :: es, r, inj, h => by
    have h0 := h e List.mem_cons_self
    have lt := Ev.at_lt h0
    have pm := toF_perm lt
    show ((runT (toF (r.map f) ((e.ren f).at (r.map f))) (es.map (Ev.ren f))).1, (r.map f).getD ((e.ren f).at (r.map f)) "" :: (runT (toF (r.map f) ((e.ren f).at (r.map f))) (es.map (Ev.ren f))).2) = _
    rw [Ev.at_ren f inj h0, toF_map f lt, getD_map f lt, runT_ren f es (toF r (e.at r)) (fun x hx y hy => inj x (pm.mem_iff.mp hx) y (pm.mem_iff.mp hy)) fun x hx => Ev.ok_perm pm.symm (h x (List.mem_cons_of_mem _ hx))]; rfl
theorem runT_app : ∀ (es fs : List Ev) (t : List Str), runT t (es ++ fs) = ((runT (runT t es).1 fs).1, (runT t es).2 ++ (runT (runT t es).1 fs).2)
  | [], fs, t => rfl
  | e :: es, fs, t => by
    show ((runT (toF t (e.at t)) (es ++ fs)).1, t.getD (e.at t) "" :: (runT (toF t (e.at t)) (es ++ fs)).2) = _
    rw [runT_app es fs]; rfl
theorem runH_app : ∀ (es fs : List Ev) (t : List Str), runH t (es ++ fs) = ((runH (runH t es).1 fs).1, (runH t es).2 ++ (runH (runH t es).1 fs).2)
  | [], fs, t => rfl
  | e :: es, fs, t => by
    show ((runH (takeAll t (e.takes t)).1 (es ++ fs)).1, (takeAll t (e.takes t)).2 ++ (runH (takeAll t (e.takes t)).1 (es ++ fs)).2) = _
    rw [runH_app es fs]
    rw [← List.append_assoc]; rfl

def outS (f : Str → Str) : D → D
  | .str x => .str (f x)
  | d => d
end TN
set_option Elab.async false
set_option linter.all false
set_option maxRecDepth 100000
set_option maxHeartbeats 2000000
set_option autoImplicit false
namespace TN
open PySem PySem.Spec PyProof.Rows L2
section
variable {K : PySem.W.Frag} {bor : List Nat} {ta tb te : TE} {f g : FE} {A B : TDE}
def dCallF (sem : List D → List D → (Sl → List D → Prop) → Prop) (A : TDL) : TDE := fun ρ Q => A ρ fun xs ρ1 => sem xs [] fun r _ => ∃ d, r = .sh d ∧ Q d ρ1
def dLRev (f : FE) : TDL := fun ρ Q => ∃ xs, f ρ = some (.list xs) ∧ Q xs.reverse ρ
theorem ll_rev (h : LM K bor te f) : LL K bor (tRevX K te) (dLRev f) := fun {c G σ H ρ Qd Q} hc R ⟨xs, e, q⟩ k =>
  h hc R e fun v G1 H1 g1 p1 => by
    obtain ⟨a, vs, rfl, h1, h2⟩ := p1.list g1.s
    refine ⟨a, vs, rfl, .inl ⟨h1, fun l hl => ?_⟩⟩
    have R1 := R.grow g1
    exact k l _ _ G1 ρ _ g1.g (R1.grow (grow_own R1.sub hl)) (mine_new R1 hl) (dps_rev h2) q

def dLAdd (f g : FE) : TDL := fun ρ Q => ∃ xs ys, f ρ = some (.list xs) ∧ g ρ = some (.list ys) ∧ xs.length + ys.length ≤ 100000 ∧ Q (xs ++ ys) ρ
theorem ll_add (ha : LM K bor ta f) (hb : LM K bor tb g) : LL K bor (tOp (rAddU K) ta tb) (dLAdd f g) := fun {c G σ H ρ Qd Q} hc R ⟨xs, ys, e1, e2, hl, q⟩ k =>
  ha hc R e1 fun v G1 H1 g1 p1 => hb hc (R.grow g1) e2 fun w G2 H2 g2 p2 => by
    have p1 := p1.grow g2
    obtain ⟨x, vs, rfl, h1, h2⟩ := p1.list g2.s
    obtain ⟨y, ws, rfl, h3, h4⟩ := p2.list g2.s
    refine .inr (.inr (.inl ⟨x, y, vs, ws, rfl, rfl, h1, h3, by rw [dps_len h2, dps_len h4]; exact Nat.le_trans hl (by decide), fun p hp => ?_⟩))
    have R2 := R.grow (g1.trans g2)
    exact k p _ _ G2 ρ _ (g1.trans g2).g (R2.grow (grow_own R2.sub hp)) (mine_new R2 hp) (dps_app h2 h4) q

abbrev TDO := List Sl → (Option Int → List Sl → Prop) → Prop
def dNo : TDO := fun ρ Q => Q none ρ
def dEnd (A : TDE) : TDO := fun ρ Q => A ρ fun d ρ1 => ∃ i, d = .int i ∧ Q (some i) ρ1
def dSliceE (A : TDE) (L U : TDO) : TDE := fun ρ Q => A ρ fun d ρ1 => L ρ1 fun l ρ2 => U ρ2 fun h ρ3 => ∃ z, oSlice l h d = some z ∧ Q z ρ3
def dLSlice (A : TDE) (L U : TDO) : TDL := fun ρ Q => A ρ fun d ρ1 => L ρ1 fun l ρ2 => U ρ2 fun h ρ3 => ∃ xs, d = .list xs ∧ Q (cutD xs l h) ρ3
def dLSlP (f : FE) (lo hi : FO) : TDL := fun ρ Q => ∃ xs l h, f ρ = some (.list xs) ∧ lo ρ = some l ∧ hi ρ = some h ∧ Q (cutD xs l h) ρ
def isNoneD : D → Bool
  | .none => true
  | _ => false
def oIsNone (neg : Bool) : F2 := fun d e => match e with
  | .none => some (.bool (if neg then !isNoneD d else isNoneD d))
  | _ => none
theorem isNone_v {G H : Hp} {v : V} {d : D} (p : DpM K G H v d) : decide (v = V.non) = isNoneD d := by
  rcases p with p | ⟨_, _, _, rfl, rfl, _⟩
  · cases p <;> simp [isNoneD]
  · simp [isNoneD]
theorem non_v {G H : Hp} {v : V} (p : DpM K G H v .none) : v = .non := by
  rcases p with p | ⟨_, _, _, _, e, _⟩
  · cases p; rfl
  · cases e
theorem rb_isN : RB K rIsN (oIsNone false) := fun {G H v w d e z Q} s p1 p2 h k => by
  unfold oIsNone at h
  split at h
  · injection h with h; subst h
    refine ⟨non_v p2, ?_⟩
    rw [isNone_v p1]
    exact k _ G H (.refl s) (.bl _)
  · cases h
end
theorem has_zero {P : Program} {w : World} {K : PySem.W.Frag} {mg : Str → Option Value} {base : Heap} {name : Str} {ps : List Str} {f : Addr} {fd : FuncData} {qual : Str} {st : Stmt} (m : mg name = some (.ref f)) (F : Fun K name qual st f fd)
    (h : ∀ (kV doc pm : Value) (an : Option Addr) (cdv ct : Value) (us : List Value), us.length = ps.length → bindArgs (PySem.W.fnOf name qual (defArgs st) (defBody st) (defScope st) .none kV doc pm an cdv ct) ⟨us, []⟩ = pure (ps.zip us)) :
    Has P w K mg base name 0 ps (sp0 K fun _ _ => False) :=
  has_of ⟨fun vs H Q E ⟨_, _, _, _, _, z, _⟩ => z.elim, fun A o s H a us vs Q E _ _ _ _ _ ⟨_, _, _, _, _, z, _⟩ => z.elim⟩ m F h
end TN
set_option Elab.async false
set_option linter.all false
set_option maxRecDepth 100000
set_option maxHeartbeats 1000000
set_option autoImplicit false
namespace TN
open PySem PySem.Spec PyProof.Rows L2
section
variable {P : Program} {w : World} {K : PySem.W.Frag} {mg : Str → Option Value} {base : Heap} {k : Nat} {f : Addr} {fd : FuncData} {ps : List Str}
def startF (n : Nat) (ds : List D) (fv : Addr) : List Sl := ds.map .sh ++ .fn fv :: List.replicate (n - (ds.length + 1)) .no
end
structure HasAt (P : Program) (w : World) (K : PySem.W.Frag) (mg : Str → Option Value) (base : Heap) (f : Addr) (k : Nat) (ps : List Str) (sp : Sp) : Prop where
  ex : ∃ fd, FnG P w K mg base CX0 k f fd ps sp ∧ PySem.W.keepIn K (.ref f) = true ∧ Binds K fd ps []
theorem HasAt.up {P : Program} {w : World} {K : PySem.W.Frag} {mg : Str → Option Value} {base : Heap} {f : Addr} {j k : Nat} {ps : List Str} {sp : Sp} (h : HasAt P w K mg base f j ps sp) (le : j ≤ k) : HasAt P w K mg base f k ps sp := by
  obtain ⟨fd, a, c, d⟩ := h.ex
  exact ⟨fd, a.up le, c, d⟩
section
variable {X : Cx} {k i : Nat} {f : Addr} {fd : FuncData} {ps : List Str} {sp : Sp} {x : Str} {p pos : Pos} {e : Expr} {es : List Expr} {t : TA}
end
section
variable {K : PySem.W.Frag} {bor : List Nat} {ta : TA} {te : TE}
def dCallV (i : Nat) (f : Addr) (sem : List D → (Sl → Prop) → Prop) (A : TDA) : TDE := fun ρ Q => ρ[i]? = some (.fn f) ∧ A ρ fun ds ρ1 => sem ds fun r => ∃ d, r = .sh d ∧ Q d ρ1
end
end TN
set_option Elab.async false
set_option linter.all false
set_option maxRecDepth 100000
set_option maxHeartbeats 2000000
set_option autoImplicit false
namespace TN
open PySem PySem.Spec PyProof.Rows L2
structure Tk (X : List Str → Nat → List Str) : Prop where
  pm : ∀ {r : List Str} {p : Nat}, p < r.length → (X r p).Perm r
variable {X : List Str → Nat → List Str}
end TN
namespace TN
open PySem PySem.Spec PyProof.Rows L2
def semUnlikeL (ds : List D) (Q : Sl → Prop) : Prop := ∃ r, ds = [tupL r] ∧ GRow r ∧ Q (.sh (.bool true))
end TN
namespace TN
open PySem PySem.Spec PyProof.Rows L2
theorem comp_map {α : Type} {j : Nat} {vs : List Nat} {A : TDE} {Q : List D → List Sl → Prop} {ρ0 : List Sl} (e o : α → D) (I : α → Prop)
    (own : (vs.all fun v => plainAt v ρ0) = true) (back : ∀ d, backD ρ0 ((wipeD ρ0 vs).set j (.sh d)) vs = ρ0)
    (turn : ∀ x (R : D → List Sl → Prop), I x → R (o x) ((wipeD ρ0 vs).set j (.sh (e x))) → A ((wipeD ρ0 vs).set j (.sh (e x))) R) :
    ∀ (xs : List α) (acc : List D), (∀ x ∈ xs, I x) → acc.length + xs.length ≤ 100000 → Q (acc ++ xs.map o) ρ0 → compD j vs dYes A Q (xs.map e) acc ρ0
  | [], acc, _, _, q => by simpa [compD] using q
  | x :: xs, acc, hI, few, q => by
    rw [List.length_cons] at few
    refine ⟨own, fun _ => ?_, (fun z => by cases z)⟩
    refine turn x _ (hI x List.mem_cons_self) ⟨by omega, ?_⟩
    rw [back]
    refine comp_map e o I own back turn xs (acc ++ [o x]) (fun y hy => hI y (List.mem_cons_of_mem _ hy)) (by rw [List.length_append, List.length_singleton]; omega) ?_
    rw [List.append_assoc]
    exact q
theorem oAll_map {α : Type} (f : α → Bool) (xs : List α) : oAll [.list (xs.map fun x => PyData.bool (f x))] = some (.bool (xs.all f)) := by
  have e : (xs.map fun x => PyData.bool (f x)) = (xs.map f).map PyData.bool := by rw [List.map_map]; rfl
  show (blsOf _).map _ = _
  rw [e, blsOf_map]
  show some (PyData.bool ((xs.map f).all id)) = _
  rw [List.all_map]; rfl
end TN
set_option Elab.async false
set_option linter.all false
set_option maxRecDepth 100000
set_option maxHeartbeats 2000000
set_option autoImplicit false
namespace TN
open PySem PySem.Spec PyProof.Rows L2
def semCell (ds : List D) (Q : Sl → Prop) : Prop := ∃ (ns : List Int) (k : Nat), ds = [.list (ns.map PyData.int), .int k] ∧ ∀ c : Int, Q (.sh (.int c))
def semBag (ds : List D) (Q : Sl → Prop) : Prop := ∃ (c : Int) (k : Nat), ds = [.int c, .int k] ∧ k ≤ 1000 ∧ ∀ xs : List D, Spl 0 xs → Q (.ow xs)
def semMixedL (xs ds : List D) (Q : Sl → List D → Prop) : Prop := ∃ (n : Int) (d : D) (L : List D), Spl n xs ∧ n + 100 ≤ big ∧ ds = [d] ∧ oList [d] = some L ∧ L.length ≤ 64 ∧
  ∀ (L' ys : List D), L'.Perm L → Spl (n + 100) ys → Q (.ow L') ys
def semLine (xs ds : List D) (Q : Sl → List D → Prop) : Prop := ∃ (n m : Int), Spl n xs ∧ n + 200 ≤ big ∧ ds = [.int m] ∧ 1 ≤ m ∧ m ≤ 16 ∧
  ∀ (r : List Str) (ys : List D), GRow r → (r.length : Int) = m → Spl (n + 200) ys → Q (.sh (tupL r)) ys
def semHear (xs ds : List D) (Q : Sl → List D → Prop) : Prop := ∃ (n : Int) (r : List Str), Spl n xs ∧ n + 500 ≤ big ∧ ds = [tupL r] ∧ GRow r ∧
  ∀ (h : List Str) (ys : List D), h.Perm r → Spl (n + 500) ys → Q (.sh (tupL h)) ys

def semOwnBag (xs ds : List D) (Q : Sl → List D → Prop) : Prop := ∃ n : Int, Spl n xs ∧ n + 1000000 ≤ big ∧ ds = [] ∧ ∀ ys, Q (.sh (.bool true)) ys
theorem oPow5 {x : Int} (h0 : 0 ≤ x) (h1 : x < 1000000000000000000000000000000000000000000) : oPow (.int x) (.int 5) = some (.int (x ^ 5)) :=
  if_pos ⟨by omega, by omega, Nat.lt_of_lt_of_le (show x.natAbs < 1000000000000000000000000000000000000000000 by omega) (by decide +kernel)⟩

inductive AlkD : Nat → D → Prop
  | none {k : Nat} : AlkD k .none
  | int {k : Nat} (i : Int) : AlkD k (.int i)
  | bl {k : Nat} (i : Bool) : AlkD k (.bool i)
  | str {k : Nat} {x : Str} (h : okS x) : AlkD k (.str x)
  | list {k : Nat} {xs : List D} (h : ∀ x ∈ xs, AlkD k x) (few : xs.length ≤ 10000) : AlkD (k + 1) (.list xs)
  | tuple {k : Nat} {xs : List D} (h : ∀ x ∈ xs, AlkD k x) (few : xs.length ≤ 10000) : AlkD (k + 1) (.tuple xs)
def semAlike : Nat → List D → (Sl → Prop) → Prop
  | 0 => fun _ _ => False
  | n + 1 => fun ds Q => ∃ d, ds = [d, d] ∧ AlkD n d ∧ Q (.sh (.bool true))
theorem AlkD.up {k : Nat} {d : D} (h : AlkD k d) : ∀ {m : Nat}, k ≤ m → AlkD m d := by
  induction h with
  | none => intro m _; exact .none
  | int i => intro m _; exact .int i
  | bl i => intro m _; exact .bl i
  | str h => intro m _; exact .str h
  | list h few ih => intro m hm; cases m with
    | zero => omega
    | succ m => exact .list (fun x hx => ih x hx (by omega)) few
  | tuple h few ih => intro m hm; cases m with
    | zero => omega
    | succ m => exact .tuple (fun x hx => ih x hx (by omega)) few
theorem alk_strs {k : Nat} {xs : List Str} (h : ∀ x ∈ xs, okS x) : ∀ d ∈ xs.map PyData.str, AlkD k d := fun d hd => by
  obtain ⟨x, hx, rfl⟩ := List.mem_map.mp hd
  exact .str (h x hx)
theorem alk_lstL {k : Nat} {xs : List Str} (h : ∀ x ∈ xs, okS x) (few : xs.length ≤ 10000) : AlkD (k + 1) (lstL xs) := .list (alk_strs h) (by rw [List.length_map]; exact few)
theorem shaped_bl (a : Bool) : SeqAt.shaped (.bool a) = true := by simp [SeqAt.shaped, PyData.canLay0, PyData.depth]
theorem oEq_bl {a b : Bool} : oEq (.bool a) (.bool b) = some (.bool (decide (a = b))) := by
  unfold oEq
  rw [if_pos ⟨shaped_bl a, shaped_bl b⟩]
  cases a <;> cases b <;> simp [PyData.eqv]
theorem oNe_bl {a b : Bool} : oNe (.bool a) (.bool b) = some (.bool (!decide (a = b))) := by
  unfold oNe
  rw [if_pos ⟨shaped_bl a, shaped_bl b⟩]
  cases a <;> cases b <;> simp [PyData.eqv]
theorem isD_ll {xs : List D} : isD "list" (.list xs) = true := by show (kitB "list" "list").getD false = true; decide +kernel
theorem isD_lt {xs : List D} : isD "list" (.tuple xs) = false := by show (kitB "tuple" "list").getD false = false; decide +kernel
theorem isD_tl {xs : List D} : isD "tuple" (.list xs) = false := by show (kitB "list" "tuple").getD false = false; decide +kernel
theorem isD_tt {xs : List D} : isD "tuple" (.tuple xs) = true := by show (kitB "tuple" "tuple").getD false = true; decide +kernel
theorem isD_ln : isD "list" .none = false := by show (kitB "NoneType" "list").getD false = false; decide +kernel
theorem isD_tn : isD "tuple" .none = false := by show (kitB "NoneType" "tuple").getD false = false; decide +kernel
theorem isD_li {i : Int} : isD "list" (.int i) = false := by show (kitB "int" "list").getD false = false; decide +kernel
theorem isD_ti {i : Int} : isD "tuple" (.int i) = false := by show (kitB "int" "tuple").getD false = false; decide +kernel
theorem isD_bi {i : Int} : isD "bool" (.int i) = false := by show (kitB "int" "bool").getD false = false; decide +kernel
theorem isD_ls {i : Str} : isD "list" (.str i) = false := by show (kitB "str" "list").getD false = false; decide +kernel
theorem isD_ts {i : Str} : isD "tuple" (.str i) = false := by show (kitB "str" "tuple").getD false = false; decide +kernel
theorem isD_bs {i : Str} : isD "bool" (.str i) = false := by show (kitB "str" "bool").getD false = false; decide +kernel
theorem isD_lb {i : Bool} : isD "list" (.bool i) = false := by show (kitB "bool" "list").getD false = false; decide +kernel
theorem isD_tb {i : Bool} : isD "tuple" (.bool i) = false := by show (kitB "bool" "tuple").getD false = false; decide +kernel
theorem isD_bb {i : Bool} : isD "bool" (.bool i) = true := by show (kitB "bool" "bool").getD false = true; decide +kernel
theorem isN_n : oIsNone false .none .none = some (.bool true) := rfl
theorem isN_i {i : Int} : oIsNone false (.int i) .none = some (.bool false) := rfl
theorem isN_s {i : Str} : oIsNone false (.str i) .none = some (.bool false) := rfl
theorem isN_b {i : Bool} : oIsNone false (.bool i) .none = some (.bool false) := rfl
theorem oIx_lst {xs : List D} {p : Nat} (h : p < xs.length) : oIx (.list xs) (.int p) = some xs[p] := atI_nat h
theorem oIx_tpl {xs : List D} {p : Nat} (h : p < xs.length) : oIx (.tuple xs) (.int p) = some xs[p] := atI_nat h
theorem oLen_lst {xs : List D} : oLen [.list xs] = some (.int xs.length) := rfl
theorem oLen_tpl {xs : List D} : oLen [.tuple xs] = some (.int xs.length) := rfl
theorem oAll_true {n : Nat} : oAll [.list ((rangeD 0 n).map fun _ => PyData.bool true)] = some (.bool true) := by
  rw [List.map_const', rangeD_len]; exact oAll_rep _
theorem rangeI {n : Nat} : ∀ d ∈ rangeD 0 (n : Int).toNat, ∃ p : Nat, p < n ∧ d = .int p := by
  intro d hd
  unfold rangeD at hd
  obtain ⟨p, hp, rfl⟩ := List.mem_map.mp hd
  have := List.mem_range.mp hp
  exact ⟨p, by omega, by rw [Int.zero_add]⟩
theorem mixSL {n : Int} {d : D} {l : List Str} {xs : List D} {Q : Sl → List D → Prop} (sp : Spl n xs) (hn : n + 100 ≤ big) (l1 : oList [d] = some (l.map PyData.str)) (few : l.length ≤ 64)
    (q : ∀ (l' : List Str) (ys : List D), l'.Perm l → Spl (n + 100) ys → Q (.ow (l'.map PyData.str)) ys) : semMixedL xs [d] Q :=
  ⟨n, d, l.map PyData.str, sp, hn, rfl, l1, by rw [List.length_map]; exact few, fun L' ys p sp' => by
    have un : ∀ L : List D, (∀ x ∈ L, ∃ s, x = PyData.str s) → ∃ l : List Str, L = l.map PyData.str := by
      intro L
      induction L with
      | nil => intro _; exact ⟨[], rfl⟩
      | cons x L ih =>
        intro h
        obtain ⟨s, rfl⟩ := h x List.mem_cons_self
        obtain ⟨l, rfl⟩ := ih fun y hy => h y (List.mem_cons_of_mem _ hy)
        exact ⟨s :: l, rfl⟩
    obtain ⟨l', rfl⟩ := un L' fun x hx => by
      obtain ⟨s, _, e⟩ := List.mem_map.mp (p.mem_iff.mp hx)
      exact ⟨s, e.symm⟩
    have p2 := p.map unS
    rw [List.map_map, List.map_map] at p2
    have e : unS ∘ PyData.str = id := rfl
    rw [e, List.map_id, List.map_id] at p2
    exact q l' ys p2 sp'⟩
abbrev hearEl : TDS := sDrop (dInsert 3 (dP (fC (.int 0))) (dPopAt 3 (dCallB semWind 0 (dCons (dP (fCB oLen (fCons (fPeek 3) fNil))) dNil))))
theorem hear_turns {E : DEnds} {a1 a2 a5 : Sl} : ∀ (ds : List D) (l : List Str) (xs : List D) (n : Int) (z : Sl), Spl n xs → n + ds.length ≤ big → l ≠ [] → l.length ≤ 1000 →
    (∀ (l' : List Str) (ys : List D) (z' : Sl), l'.Perm l → Spl (n + ds.length) ys → E.nx [.ow ys, a1, a2, .ow (l'.map PyData.str), z', a5]) →
    forD (tgN 4) hearEl E ds [.ow xs, a1, a2, .ow (l.map PyData.str), z, a5]
  | [], l, xs, n, z, sp, _, _, _, q => q l xs z (.refl _) (by simpa using sp)
  | d :: ds, l, xs, n, z, sp, hb, ne, few, q => by
    rw [List.length_cons] at hb
    have hb' : n + ((ds.length + 1 : Nat) : Int) ≤ 1000000000000 := hb
    have l0 : 0 < l.length := List.length_pos_iff.mpr ne
    show hearEl _ _
    (simp only [TN.sSeq, TN.sNext, TN.sDrop, TN.sRet, TN.sRetL, TN.sRetN, TN.sIf, TN.sAsg, TN.sAsgL, TN.sStore, TN.sForL, TN.sForT, TN.sForR, TN.sForR2, TN.tgN, TN.tgTup, TN.tgCons, TN.tgNil, TN.dP, TN.dB, TN.dCall, TN.dCallL, TN.dCallB, TN.dCallBL, TN.dCons, TN.dNil, TN.dTup, TN.dLst, TN.dKeep, TN.dVar, TN.fVar, TN.fPeek, TN.fC, TN.f2, TN.d2, TN.d2V, TN.f1, TN.d1, TN.fCB, TN.dCB, TN.dCBL, TN.fNil, TN.fCons, TN.asBool, TN.dTest, TN.bAnd, TN.bOr, TN.bNot, TN.dAnd, TN.dOr, TN.dNot, TN.fAndV, TN.fOrV, TN.fNotV, TN.dAndV, TN.dOrV, TN.dNotV, TN.dIfE, TN.dIfL, TN.fIfE, TN.fChain, TN.fSlice, TN.dSlice, TN.fNo, TN.fEnd, TN.dAppend, TN.dInsert, TN.dPopAt, TN.ownL, TN.start0, TN.begB, TN.backD, TN.wipeD, TN.dYes, TN.sNever, List.getElem?_cons_zero, List.getElem?_cons_succ, List.set_cons_zero, List.set_cons_succ, List.map_cons, List.map_nil, List.length_cons, List.length_nil, List.cons_append, List.nil_append, List.replicate_succ, List.replicate_zero, Option.map_some, Option.map_none, Nat.add_one_sub_one, Nat.sub_zero, Nat.sub_self, Nat.zero_add, reduceCtorEq, Option.some.injEq, PyData.int.injEq, PyData.str.injEq, PyData.bool.injEq, PyData.list.injEq, PyData.tuple.injEq, Sl.sh.injEq, Sl.ow.injEq, List.cons.injEq, exists_eq_left', exists_eq_left, true_implies, false_implies, and_true, true_and, forall_const, Option.isSome_some, TN.imp_ff, TN.imp_tf, TN.imp_tt, exists_eq_left, exists_eq_left', exists_eq])
    have l1 : oLen [.list (l.map PyData.str)] = some (.int l.length) := oLen_lstL
    rw [l1]
    refine ⟨_, rfl, windN sp (by show n ≤ 1000000000000; omega) (by omega) (by omega) fun k ys hk sp' => ⟨_, rfl, ?_⟩⟩
    have hk : k < l.length := by omega
    have hk2 : k < (l.map PyData.str).length := by rw [List.length_map]; exact hk
    have hd : (l.map PyData.str)[k]? = some (PyData.str l[k]) := by rw [List.getElem?_map, List.getElem?_eq_getElem hk]; rfl
    refine ⟨_, (k : Int), k, _, rfl, by rw [List.length_map]; omega, rfl, ixN_nat hk2, hd, _, 0, rfl, by rw [List.length_eraseIdx_of_lt hk2, List.length_map]; omega, rfl, by omega, by omega, ?_⟩
    have e : List.take (0 : Int).toNat ((l.map PyData.str).eraseIdx k) ++ PyData.str l[k] :: List.drop (0 : Int).toNat ((l.map PyData.str).eraseIdx k) = (l[k] :: l.eraseIdx k).map PyData.str := by
      show PyData.str l[k] :: (l.map PyData.str).eraseIdx k = _
      rw [List.eraseIdx_eq_take_drop_succ, List.eraseIdx_eq_take_drop_succ, List.map_cons, List.map_append, List.map_take, List.map_drop]
    rw [e]
    have pe : l.Perm (l[k] :: l.eraseIdx k) := by
      rw [List.eraseIdx_eq_take_drop_succ]
      refine List.Perm.trans (List.Perm.of_eq ?_) (List.perm_middle (a := l[k]) (l₁ := l.take k) (l₂ := l.drop (k + 1)))
      rw [← List.drop_eq_getElem_cons hk, List.take_append_drop]
    refine hear_turns ds (l[k] :: l.eraseIdx k) ys (n + 1) _ sp' (by show n + 1 + (ds.length : Int) ≤ 1000000000000; omega) (by simp) (by rw [← pe.length_eq]; exact few) fun l' ys' z' p sp2 => ?_
    refine q l' ys' z' (p.trans pe.symm) ?_
    rw [List.length_cons]
    exact (by have : n + 1 + (ds.length : Int) = n + ((ds.length + 1 : Nat) : Int) := by omega
              rw [← this]; exact sp2)
theorem oSlL_from {r : List Str} {p : Nat} : oSlice (some p) none (lstL r) = some (lstL (r.drop p)) := by
  show some (PyData.list (cutD _ _ _)) = _; rw [cut_from, ← List.map_drop]

end TN
set_option Elab.async false
set_option linter.all false
set_option maxRecDepth 100000
set_option maxHeartbeats 2000000
set_option autoImplicit false
namespace TN
open PySem PySem.Spec PyProof.Rows L2
end TN
set_option Elab.async false
set_option linter.all false
set_option maxRecDepth 100000
set_option maxHeartbeats 4000000
set_option autoImplicit false
namespace TN
open PySem PySem.Spec PyProof.Rows L2
section
variable {prog : Program} {w : World} {z TI TO i1 i2 N : Addr} {fp1 fp2 : List Addr} {n1 n2 n : Nat} {P1 P2 : Nat → Value → Prop} {St1 St2 : Nat → Heap → Prop} {h0 : Heap}
end
section
variable {X : Cx} {pins : List (Addr × Obj)} {σ : L2.St} {H : Hp} {s : Shared}
structure SrcB2 (prog : Program) (w : World) (h : Heap) (u : Value) (n : Nat) (its : List Value) : Prop where
  ex : ∃ (a : Addr) (o o' : Obj) (Hc : Heap → Prop) (St : Addr → Nat → Heap → Prop), Begins u o Hc ∧ Hc h ∧ h.get? a = some o' ∧
    (∀ it, h.objs.size ≤ it → ∀ A : Around, A.handled = none → Draws prog w A it [it, a] n (fun i v => its.toArray[i]? = some v) (St it)) ∧
    (∀ it h', (∀ b o, h.get? b = some o → h'.get? b = some o) → h'.get? it = some o → St it 0 h')
end
section
variable {X : Cx} {e1 e2 : Expr} {p p2 pos pos2 : Pos} {ta : TA}
end
def keysOf : List D → Option (List Key)
  | [] => some []
  | d :: ds => match keyK d, keysOf ds with
    | some k, some r => some (k :: r)
    | _, _ => none
end TN
set_option Elab.async false
set_option linter.all false
set_option maxRecDepth 100000
set_option maxHeartbeats 1000000
set_option autoImplicit false
namespace TN
open PySem PySem.Spec PyProof.Rows L2
theorem wipe_set {σ : L2.St} {vs : List Nat} {j : Nat} {x : Option V} (hj : j ∈ vs) : wipe (σ.set j x) vs = wipe σ vs := by
  apply List.ext_getElem?
  intro i
  rw [wipe_get, wipe_get, List.length_set]
  by_cases hi : i ∈ vs
  · rw [if_pos hi, if_pos hi]
  · rw [if_neg hi, if_neg hi, List.getElem?_set_ne (fun z => by subst z; exact hi hj)]
theorem wipe_wipe {σ : L2.St} {vs : List Nat} : wipe (wipe σ vs) vs = wipe σ vs := by
  apply List.ext_getElem?
  intro i
  by_cases hi : i ∈ vs
  · simp only [wipe_get, wipe_length, if_pos hi]
  · simp only [wipe_get, if_neg hi]

section
variable {K : PySem.W.Frag} {bor : List Nat} {tt : TT} {te : TE} {C : TDT} {A : TDE}
theorem MineO.put {c : C0} {G0 : Hp} {σ : L2.St} {H : Hp} {ρ : List Sl} {L : Addr} {o : HO} {j : Nat} {x : V} {d : D} (mw : MineO c G0 σ H ρ L o) : MineO c G0 (σ.set j (some x)) H (ρ.set j (.sh d)) L o := mineO_set mw fun _ z => z
theorem Mine.put {c : C0} {G0 : Hp} {σ : L2.St} {H : Hp} {ρ : List Sl} {L : Addr} {ws : List V} {j : Nat} {x : V} {d : D} (mw : Mine c G0 σ H ρ L ws) : Mine c G0 (σ.set j (some x)) H (ρ.set j (.sh d)) L ws := mineO_set mw fun _ z => z
end
end TN
set_option Elab.async false
set_option linter.all false
set_option maxRecDepth 100000
set_option maxHeartbeats 2000000
set_option autoImplicit false
namespace TN
open PySem PySem.Spec PyProof.Rows L2
theorem cmp_strs {prog : Program} {w : World} {A : Around} {P : Nat → Value → Prop} (val : Nat → Str) (hval : ∀ i v, P i v → ∃ t, v = .str (val i) t) :
    CmpOf prog w A .Lt P (fun i j => decide ((val i).cps.toList < (val j).cps.toList)) := fun i j vi vj s Q E hi hj h => by
  obtain ⟨t, rfl⟩ := hval i vi hi
  obtain ⟨u, rfl⟩ := hval j vj hj
  exact richCompare_gives (op := .Lt) (typeIs_str s _ t) (typeIs_str s _ u) PySem.F.slot_str_lt PySem.F.entry_str_lt (PySem.F.args_str_lt_2 _ _) (gives_str_lt _ _ t u) (fun x => nomatch x) h
theorem best_strs (val : Nat → Str) : ∀ k, argBest (fun i j => decide ((val i).cps.toList < (val j).cps.toList)) k ≤ k ∧ ∀ j, j ≤ k → leS (val (argBest (fun i j => decide ((val i).cps.toList < (val j).cps.toList)) k)) (val j) = true
  | 0 => ⟨Nat.le_refl _, fun j hj => by
    have : j = 0 := Nat.le_zero.mp hj
    subst this
    show leS (val 0) (val 0) = true
    have := leS_total (val 0) (val 0)
    simpa using this⟩
  | k + 1 => by
    obtain ⟨h1, h2⟩ := best_strs val k
    generalize eb : argBest (fun i j => decide ((val i).cps.toList < (val j).cps.toList)) k = b at h1 h2
    have e : argBest (fun i j => decide ((val i).cps.toList < (val j).cps.toList)) (k + 1) = if decide ((val (k + 1)).cps.toList < (val b).cps.toList) = true then k + 1 else b := by rw [← eb]; rfl
    rw [e]
    split
    · rename_i hl
      have hl := of_decide_eq_true hl
      refine ⟨Nat.le_refl _, fun j hj => ?_⟩
      have q : leS (val (k + 1)) (val b) = true := by
        have := leS_total (val (k + 1)) (val b)
        rw [Bool.or_eq_true] at this
        rcases this with a | a
        · exact a
        · unfold leS at a
          simp [hl] at a
      by_cases hjk : j = k + 1
      · subst hjk
        have := leS_total (val (k + 1)) (val (k + 1))
        simpa using this
      · exact leS_trans _ _ _ q (h2 j (by omega))
    · rename_i hl
      refine ⟨Nat.le_succ_of_le h1, fun j hj => ?_⟩
      by_cases hjk : j = k + 1
      · subst hjk
        unfold leS
        simpa using hl
      · exact h2 j (by omega)
section
variable {X : Cx}
def rMinS (K : PySem.W.Frag) : List V → Hp → VK → Prop := fun vs H Q => ∃ (a : Addr) (xs : List Str), vs = [V.ref a] ∧ (SqL K H a (xs.map V.str) ∨ SqT K H a (xs.map V.str)) ∧ xs ≠ [] ∧ ∀ m, m ∈ xs → (∀ y ∈ xs, leS m y = true) → Q (.str m) H
theorem vals_strs_at {xs : List Str} {its : List Value} (rv : Vals (xs.map V.str) its) {i : Nat} {v : Value} (e : its.toArray[i]? = some v) : ∃ t, v = .str (xs.getD i "") t := by
  have e : its[i]? = some v := by simpa using e
  obtain ⟨x, ex, rx⟩ := vals_ix rv e
  rw [List.getElem?_map] at ex
  obtain ⟨y, ey, rfl⟩ := Option.map_eq_some_iff.mp ex
  obtain ⟨t, rfl⟩ : ∃ t, v = .str y t := rx
  exact ⟨t, by rw [List.getD_eq_getElem?_getD, ey]; rfl⟩
theorem best_done {xs : List Str} {its : List Value} {v : Value} (rv : Vals (xs.map V.str) its) (ne : xs ≠ []) (hP : its.toArray[argBest (fun i j => decide ((xs.getD i "").cps.toList < (xs.getD j "").cps.toList)) (its.toArray.size - 1)]? = some v) :
    ∃ m t, v = .str m t ∧ m ∈ xs ∧ ∀ y ∈ xs, leS m y = true := by
  obtain ⟨t, e⟩ := vals_strs_at rv hP
  have l := rv.length
  rw [List.length_map] at l
  have l0 : 0 < xs.length := List.length_pos_iff.mpr ne
  obtain ⟨h1, h2⟩ := best_strs (fun i => xs.getD i "") (its.toArray.size - 1)
  rw [List.size_toArray] at h1 h2 e
  refine ⟨_, t, e, ?_, fun y hy => ?_⟩
  · rw [List.getD_eq_getElem?_getD, List.getElem?_eq_getElem (by omega)]
    exact List.getElem_mem _
  · obtain ⟨j, hj, rfl⟩ := List.mem_iff_getElem.mp hy
    have := h2 j (by omega)
    have ej : xs.getD j "" = xs[j] := by rw [List.getD_eq_getElem?_getD, List.getElem?_eq_getElem hj]; rfl
    rw [ej] at this
    exact this
theorem cr_minS (hc : X.calm = true) : CallR X (.builtin "min") (rMinS X.K) := by
  intro pins s σ H vs us Q I r h
  obtain ⟨a, xs, rfl, hs, ne, q⟩ := h
  have l0 : 0 < xs.length := List.length_pos_iff.mpr ne
  rw [Vals.ref1 r]
  rcases hs with hs | hs
  · obtain ⟨its, rv, hl, _⟩ := I.list hs
    have l := rv.length
    rw [List.length_map] at l
    have hl := hl.isList
    have hlt : a < s.heap.objs.size := by obtain ⟨_, e, _⟩ := hl; exact Heap.lt_size e
    refine call_min_walk (wpAny_pyIter_list hl ?_)
    refine ⟨_, _, _, _, _, _, _, rfl, Walks.list (A := X.A.in1) (I.ok.hd hc) _ a (Nat.ne_of_lt hlt) its.toArray, ⟨⟨_, Heap.get?_push_size _ rfl, rfl, rfl⟩, hl.push _⟩, fun b hb => ?_, by rw [List.size_toArray]; omega, cmp_strs (fun i => xs.getD i "") (fun i v e => vals_strs_at rv e), fun v h' tk hP hk => ?_⟩
    · show b < (s.heap.push _).objs.size
      rw [Heap.size_push]
      rcases List.mem_cons.mp hb with rfl | hb
      · exact Nat.lt_succ_self _
      · rw [List.mem_singleton.mp hb]; exact Nat.lt_succ_of_lt hlt
    · obtain ⟨m, t, rfl, h1, h2⟩ := best_done rv ne hP
      refine ⟨.str m, H, I.kept (t' := tk) fun b o e => ?_, ⟨t, rfl⟩, q m h1 h2⟩
      exact hk b o (fun z => by rw [List.mem_singleton.mp z] at e; exact absurd (Heap.lt_size e) (Nat.lt_irrefl _)) (Heap.get?_push_of_some _ e)
  · obtain ⟨its, rv, hl, _⟩ := I.tuple hs
    have l := rv.length
    rw [List.length_map] at l
    have hlt : a < s.heap.objs.size := by obtain ⟨_, e, _⟩ := hl; exact Heap.lt_size e
    refine call_min_walk (wpAny_pyIter_tuple hl ?_)
    refine ⟨_, _, _, _, _, _, _, rfl, Walks.tuple (A := X.A.in1) (I.ok.hd hc) _ a (Nat.ne_of_lt hlt) its.toArray, ⟨⟨_, Heap.get?_push_size _ rfl, rfl, rfl⟩, hl.push _⟩, fun b hb => ?_, by rw [List.size_toArray]; omega, cmp_strs (fun i => xs.getD i "") (fun i v e => vals_strs_at rv e), fun v h' tk hP hk => ?_⟩
    · show b < (s.heap.push _).objs.size
      rw [Heap.size_push]
      rcases List.mem_cons.mp hb with rfl | hb
      · exact Nat.lt_succ_self _
      · rw [List.mem_singleton.mp hb]; exact Nat.lt_succ_of_lt hlt
    · obtain ⟨m, t, rfl, h1, h2⟩ := best_done rv ne hP
      refine ⟨.str m, H, I.kept (t' := tk) fun b o e => ?_, ⟨t, rfl⟩, q m h1 h2⟩
      exact hk b o (fun z => by rw [List.mem_singleton.mp z] at e; exact absurd (Heap.lt_size e) (Nat.lt_irrefl _)) (Heap.get?_push_of_some _ e)
end
def minS (xs : List Str) : Option Str := (sortS xs).head?
theorem minS_is {xs : List Str} {m z : Str} (h1 : m ∈ xs) (h2 : ∀ y ∈ xs, leS m y = true) (e : minS xs = some z) : m = z := by
  have p2 : (sortS xs).Pairwise (fun a b => leS a b = true) := List.pairwise_mergeSort leS_trans leS_total xs
  have p := sortS_perm xs
  unfold minS at e
  cases q : sortS xs with
  | nil => rw [q] at e; cases e
  | cons a r =>
    rw [q] at e p p2
    injection e with e; subst e
    have hm := p.mem_iff.mpr h1
    rcases List.mem_cons.mp hm with rfl | hm
    · rfl
    · exact leS_antisymm (h2 a (p.mem_iff.mp List.mem_cons_self)) (List.rel_of_pairwise_cons p2 hm)
def oMinS : OC := fun ds => match ds with
  | [.list xs] => (strsOf xs).bind fun ys => (minS ys).map PyData.str
  | [.tuple xs] => (strsOf xs).bind fun ys => (minS ys).map PyData.str
  | _ => none
theorem rc_minS {K : PySem.W.Frag} : RC K (rMinS K) oMinS := fun {G H vs ds z Q} s p e k => by
  unfold oMinS at e
  split at e
  · rename_i xs
    obtain ⟨ys, e1, e2⟩ := Option.bind_eq_some_iff.mp e
    obtain ⟨m, e3, rfl⟩ := Option.map_eq_some_iff.mp e2
    cases p with
    | cons a b =>
      cases b
      rw [strsOf_is e1] at a
      obtain ⟨x, us, rfl, h1, h2⟩ := a.list s
      rw [dq_strs h2] at h1
      refine ⟨x, ys, rfl, .inl h1, fun z => ?_, fun m' a1 a2 => ?_⟩
      · subst z; simp [minS, sortS] at e3
      · rw [minS_is a1 a2 e3]; exact k _ G H (.refl s) (.str _)
  · rename_i xs
    obtain ⟨ys, e1, e2⟩ := Option.bind_eq_some_iff.mp e
    obtain ⟨m, e3, rfl⟩ := Option.map_eq_some_iff.mp e2
    cases p with
    | cons a b =>
      cases b
      rw [strsOf_is e1] at a
      obtain ⟨x, us, rfl, h1, h2⟩ := a.tup s
      rw [dq_strs h2] at h1
      refine ⟨x, ys, rfl, .inr h1, fun z => ?_, fun m' a1 a2 => ?_⟩
      · subst z; simp [minS, sortS] at e3
      · rw [minS_is a1 a2 e3]; exact k _ G H (.refl s) (.str _)
  · cases e
end TN
set_option Elab.async false
set_option linter.all false
set_option maxRecDepth 100000
set_option maxHeartbeats 2000000
set_option autoImplicit false
namespace TN
open PySem PySem.Spec PyProof.Rows L2
structure RG (ks : List Str) (f : Str → Str) : Prop where
  ne : ks ≠ []
  few : ks.length ≤ 16
  nd : ks.Nodup
  isl : ∀ x ∈ ks, isL x
  mem : ∀ x ∈ ks, f x ∈ ks
  inj : ∀ x ∈ ks, ∀ y ∈ ks, f x = f y → x = y
theorem RG.of {t h : List Str} (gp : GPair t h) : RG t (fOf t h) := ⟨gp.gt.ne, gp.gt.few, gp.gt.nd, gp.gt.let', fun x hx => gp.pm.mem_iff.mpr (fOf_mem gp.pm.length_eq hx), fun x hx y hy e => fOf_inj gp.gt.nd gp.gh.nd gp.pm.length_eq hx hy e⟩
theorem RG.sorted {ks : List Str} {f : Str → Str} (g : RG ks f) : RG (sortS ks) f := by
  have p := sortS_perm ks
  exact ⟨fun z => g.ne (by rw [z] at p; exact p.nil_eq.symm), by rw [p.length_eq]; exact g.few, p.nodup_iff.mpr g.nd, fun x hx => g.isl x (p.mem_iff.mp hx), fun x hx => p.mem_iff.mpr (g.mem x (p.mem_iff.mp hx)), fun x hx y hy => g.inj x (p.mem_iff.mp hx) y (p.mem_iff.mp hy)⟩
theorem strs_strs : ∀ xs : List Str, strsOf (xs.map PyData.str) = some xs
  | [] => rfl
  | x :: xs => by show (strsOf (xs.map PyData.str)).map _ = _; rw [strs_strs xs]; rfl
structure Ch (ks : List Str) (f : Str → Str) (x : Str) (r : List Str) : Prop where
  hd : r.head? = some x
  nd : r.Nodup
  mem : ∀ y ∈ r, y ∈ ks
  step : ∀ i (h : i + 1 < r.length), r[i + 1] = f (r[i]'(by omega))
theorem Ch.ne {ks : List Str} {f : Str → Str} {x : Str} {r : List Str} (c : Ch ks f x r) : 0 < r.length := List.length_pos_iff.mpr fun z => by have := c.hd; rw [z] at this; cases this
theorem last_is {r : List Str} {x : Str} (h : 0 < r.length) : r.getLastD x = r[r.length - 1] := by
  rw [List.getLastD_eq_getLast?, List.getLast?_eq_getElem?, List.getElem?_eq_getElem (by omega)]; rfl
theorem Ch.last {ks : List Str} {f : Str → Str} {x : Str} {r : List Str} (c : Ch ks f x r) : r.getLastD x ∈ ks := by
  rw [last_is c.ne]; exact c.mem _ (List.getElem_mem _)
theorem Ch.next {ks : List Str} {f : Str → Str} {x : Str} {r : List Str} (g : RG ks f) (c : Ch ks f x r) (h : f (r.getLastD x) ≠ x) : f (r.getLastD x) ∉ r := by
  intro z
  obtain ⟨j, hj, e⟩ := List.mem_iff_getElem.mp z
  have c0 := c.ne
  cases j with
  | zero =>
    refine h ?_
    rw [← e]
    have := c.hd
    rw [List.head?_eq_getElem?, List.getElem?_eq_getElem (by omega)] at this
    injection this
  | succ i =>
    rw [c.step i hj] at e
    have q := g.inj _ (c.mem _ (List.getElem_mem (by omega))) _ c.last e
    rw [last_is c0] at q
    have := (List.getElem_inj c.nd).mp q
    omega
theorem Ch.grow {ks : List Str} {f : Str → Str} {x : Str} {r : List Str} (g : RG ks f) (c : Ch ks f x r) (h : f (r.getLastD x) ≠ x) : Ch ks f x (r ++ [f (r.getLastD x)]) where
  hd := by rw [List.head?_append, c.hd]; rfl
  nd := by
    rw [List.nodup_append]
    refine ⟨c.nd, by simp, fun a ha b hb => ?_⟩
    rw [List.mem_singleton.mp hb]
    exact fun z => c.next g h (z ▸ ha)
  mem := fun y hy => by
    rcases List.mem_append.mp hy with a | a
    · exact c.mem y a
    · rw [List.mem_singleton.mp a]; exact g.mem _ c.last
  step := fun i hi => by
    have c0 := c.ne
    rw [List.length_append, List.length_singleton] at hi
    by_cases hl : i + 1 < r.length
    · rw [List.getElem_append_left hl, List.getElem_append_left (by omega)]; exact c.step i hl
    · have : i + 1 = r.length := by omega
      rw [List.getElem_append_right (by omega), List.getElem_append_left (by omega)]
      simp only [List.getElem_singleton]
      rw [last_is c0]
      congr 1
      congr 1
      omega
theorem Ch.few {ks : List Str} {f : Str → Str} {x : Str} {r : List Str} (c : Ch ks f x r) : r.length ≤ ks.length := c.nd.length_le_of_subset (fun y hy => c.mem y hy)
theorem Ch.one {ks : List Str} {f : Str → Str} {x : Str} (h : x ∈ ks) : Ch ks f x [x] := ⟨rfl, by simp, fun y hy => by rw [List.mem_singleton.mp hy]; exact h, fun i hi => by simp at hi⟩
theorem oIx_last {r : List Str} {x : Str} (h : 0 < r.length) : oIx (.list (r.map PyData.str)) (.int (-1)) = some (.str (r.getLastD x)) := by
  rw [last_is h]
  show atI (r.map PyData.str) (-1) = _
  unfold atI
  have : ixN (r.map PyData.str).length (-1) = some (r.length - 1) := by
    unfold ixN
    rw [List.length_map, if_neg (by omega), if_pos (by omega)]
    congr 1
    omega
  rw [this]
  show (r.map PyData.str)[r.length - 1]? = _
  rw [List.getElem?_map, List.getElem?_eq_getElem (by omega)]; rfl

theorem comp_fil {α : Type} {j : Nat} {vs : List Nat} {C : TDT} {A : TDE} {Q : List D → List Sl → Prop} {ρ0 : List Sl} (e o : α → D) (p : α → Bool) (I : α → Prop)
    (own : (vs.all fun v => plainAt v ρ0) = true) (back : ∀ d, backD ρ0 ((wipeD ρ0 vs).set j (.sh d)) vs = ρ0)
    (test : ∀ x (R : Bool → List Sl → Prop), I x → R (p x) ((wipeD ρ0 vs).set j (.sh (e x))) → C ((wipeD ρ0 vs).set j (.sh (e x))) R)
    (turn : ∀ x (R : D → List Sl → Prop), I x → R (o x) ((wipeD ρ0 vs).set j (.sh (e x))) → A ((wipeD ρ0 vs).set j (.sh (e x))) R) :
    ∀ (xs : List α) (acc : List D), (∀ x ∈ xs, I x) → acc.length + xs.length ≤ 100000 → Q (acc ++ (xs.filter p).map o) ρ0 → compD j vs C A Q (xs.map e) acc ρ0
  | [], acc, _, _, q => by simpa [compD] using q
  | x :: xs, acc, hi, few, q => by
    rw [List.length_cons] at few
    have ix := hi x List.mem_cons_self
    refine ⟨own, test x _ ix ?_⟩
    cases hp : p x with
    | true =>
      refine ⟨fun _ => turn x _ ix ⟨by omega, ?_⟩, (fun z => by cases z)⟩
      rw [back]
      refine comp_fil e o p I own back test turn xs (acc ++ [o x]) (fun y hy => hi y (List.mem_cons_of_mem _ hy)) (by rw [List.length_append]; simp; omega) ?_
      rw [List.filter_cons_of_pos hp] at q
      simpa using q
    | false =>
      refine ⟨(fun z => by cases z), fun _ => ?_⟩
      rw [back]
      refine comp_fil e o p I own back test turn xs acc (fun y hy => hi y (List.mem_cons_of_mem _ hy)) (by omega) ?_
      rw [List.filter_cons_of_neg (by rw [hp]; simp)] at q
      exact q
theorem oMinS_lst {r : List Str} {m : Str} (h : minS r = some m) : oMinS [.list (r.map PyData.str)] = some (.str m) := by
  show (strsOf (r.map PyData.str)).bind _ = _
  rw [strs_strs]
  show (minS r).map PyData.str = _
  rw [h]; rfl
def isPlace : Ev → Bool
  | .place _ => true
  | _ => false
theorem places_map {es : List Ev} (h : ∀ e ∈ es, isPlace e = true) (f : Str → Str) : es.map (Ev.ren f) = es := by
  conv => rhs; rw [← List.map_id es]
  refine List.map_congr_left fun e he => ?_
  have := h e he
  cases e <;> first | rfl | cases this
theorem places_go {t h : List Str} {es : List Ev} (gp : GPair t h) (ok : ∀ e ∈ es, e.ok t) (pl : ∀ e ∈ es, isPlace e = true) : (runH h es).1 = (runT t es).1.map (fOf t h) ∧ (runH h es).2 = (runT t es).2.map (fOf t h) := by
  have e1 : runH h es = runT h es := even_run es h fun e he => by
    have := pl e he
    cases e <;> first | trivial | cases this
  have g := RG.of gp
  have e2 := runT_ren (fOf t h) es t g.inj ok
  rw [places_map pl, map_fOf gp.gt.nd gp.pm.length_eq] at e2
  rw [e1, e2]; exact ⟨rfl, rfl⟩
end TN
set_option Elab.async false
set_option linter.all false
set_option maxRecDepth 100000
set_option maxHeartbeats 1000000
set_option autoImplicit false
namespace TN
open PySem PySem.Spec PyProof.Rows L2
section
variable {K : PySem.W.Frag} {bor : List Nat} {tk tv : TE} {A B : TDE}
end
section
variable {K : PySem.W.Frag} {bor : List Nat} {tk tv : TE} {A B : TDE}
end
end TN
set_option Elab.async false
set_option linter.all false
set_option maxRecDepth 100000
set_option maxHeartbeats 2000000
set_option autoImplicit false
namespace TN
open PySem PySem.Spec PyProof.Rows L2
theorem minS_mem {r : List Str} {m : Str} (e : minS r = some m) : m ∈ r ∧ ∀ y ∈ r, leS m y = true := by
  have p2 : (sortS r).Pairwise (fun a b => leS a b = true) := List.pairwise_mergeSort leS_trans leS_total r
  have p := sortS_perm r
  unfold minS at e
  cases q : sortS r with
  | nil => rw [q] at e; cases e
  | cons a s =>
    rw [q] at e p p2
    injection e with e; subst e
    refine ⟨p.mem_iff.mp List.mem_cons_self, fun y hy => ?_⟩
    rcases List.mem_cons.mp (p.mem_iff.mpr hy) with rfl | hm
    · have := leS_total y y
      simpa using this
    · exact List.rel_of_pairwise_cons p2 hm
end TN
set_option Elab.async false
set_option linter.all false
set_option maxRecDepth 100000
set_option maxHeartbeats 2000000
set_option autoImplicit false
namespace TN
open PySem PySem.Spec PyProof.Rows L2
def backF (t h T H : List Str) (x : Str) : Str := fOf h t (fOf T H x)
def rot (k : Nat) (f : List Str) : List Str := f.drop k ++ f.take k
theorem GPair.turn {t h : List Str} (gp : GPair t h) : GPair h t := ⟨gp.gh, gp.gt, gp.pm.symm⟩
theorem RG.back {t h T H : List Str} (gp : GPair t h) (gq : GPair T H) (p : T.Perm t) : RG t (backF t h T H) := by
  have g1 := RG.of gq
  have g2 := RG.of gp.turn
  have m1 : ∀ x ∈ t, fOf T H x ∈ h := fun x hx => gp.pm.mem_iff.mp (p.mem_iff.mp (g1.mem x (p.mem_iff.mpr hx)))
  exact ⟨gp.gt.ne, gp.gt.few, gp.gt.nd, gp.gt.let', fun x hx => gp.pm.mem_iff.mpr (g2.mem _ (m1 x hx)), fun x hx y hy e => g1.inj x (p.mem_iff.mpr hx) y (p.mem_iff.mpr hy) (g2.inj _ (m1 x hx) _ (m1 y hy) e)⟩
end TN
set_option Elab.async false
set_option linter.all false
set_option maxRecDepth 100000
set_option maxHeartbeats 2000000
set_option autoImplicit false
namespace TN
open PySem PySem.Spec PyProof.Rows L2
theorem toF_eq (V : List Str) (q : Nat) : toF V q = V.getD q "" :: (V.take q ++ V.drop (q + 1)) := rfl
theorem toF_zero (V : List Str) (q : Nat) : (toF V q).getD 0 "" = V.getD q "" := rfl
theorem toF_mid {V : List Str} {q i : Nat} (h : i < q) (hq : q < V.length) : (toF V q).getD (i + 1) "" = V.getD i "" := by
  rw [toF_eq, List.getD_eq_getElem?_getD, List.getElem?_cons_succ, List.getElem?_append_left (by rw [List.length_take]; omega), List.getElem?_take_of_lt h, ← List.getD_eq_getElem?_getD]
theorem toF_out {V : List Str} {q i : Nat} (h : q ≤ i) (hq : q < V.length) : (toF V q).getD (i + 1) "" = V.getD (i + 1) "" := by
  have e : (V.take q).length = q := by rw [List.length_take]; omega
  rw [toF_eq, List.getD_eq_getElem?_getD, List.getElem?_cons_succ, List.getElem?_append_right (by omega), e, List.getElem?_drop, ← List.getD_eq_getElem?_getD]
  congr 1
  omega
theorem fOf_at {T H : List Str} {i : Nat} (nd : T.Nodup) (h : i < T.length) : fOf T H (T.getD i "") = H.getD i "" := by
  have e : T.getD i "" = T[i] := by rw [List.getD_eq_getElem?_getD, List.getElem?_eq_getElem h]; rfl
  unfold fOf
  rw [e, idxS_nd nd h]; rfl
def nxtI (p i : Nat) : Nat := if p < i then i else if i = p then 0 else i + 1
def preI (q i : Nat) : Nat := if q < i then i else if i = 0 then q else i - 1

theorem lost_reads {t h : List Str} {p i : Nat} (gp : GPair t h) (hp : p < t.length) (hi : i < t.length) : fOf (toF t p) h (t.getD i "") = h.getD (nxtI p i) "" := by
  have nd : (toF t p).Nodup := (toF_perm hp).nodup_iff.mpr gp.gt.nd
  have l : (toF t p).length = t.length := (toF_perm hp).length_eq
  unfold nxtI
  by_cases h1 : p < i
  · obtain ⟨k, rfl⟩ : ∃ k, i = k + 1 := ⟨i - 1, by omega⟩
    rw [if_pos h1, ← toF_out (q := p) (by omega) hp, fOf_at nd (by omega)]
  · rw [if_neg h1]
    by_cases h2 : i = p
    · subst h2
      rw [if_pos rfl, ← toF_zero, fOf_at nd (by omega)]
    · rw [if_neg h2, ← toF_mid (q := p) (by omega) hp, fOf_at nd (by omega)]

theorem twice_reads {u v : List Str} {q i : Nat} (gu : GPair u v) (hq : q < u.length) (hi : i < u.length) : fOf (toF u q) (toF (toF v q) q) (u.getD i "") = v.getD (preI q i) "" := by
  have nd : (toF u q).Nodup := (toF_perm hq).nodup_iff.mpr gu.gt.nd
  have l : (toF u q).length = u.length := (toF_perm hq).length_eq
  have lv := gu.pm.length_eq
  have hv : q < v.length := by omega
  have hv2 : q < (toF v q).length := by rw [(toF_perm hv).length_eq]; exact hv
  unfold preI
  by_cases h1 : q < i
  · obtain ⟨k, rfl⟩ : ∃ k, i = k + 1 := ⟨i - 1, by omega⟩
    rw [if_pos h1, ← toF_out (V := u) (q := q) (by omega) hq, fOf_at nd (by omega), toF_out (by omega) hv2, toF_out (by omega) hv]
  · rw [if_neg h1]
    by_cases h2 : i = q
    · subst h2
      rw [← toF_zero u, fOf_at nd (by omega), toF_zero]
      cases i with
      | zero => rw [if_pos rfl]; rfl
      | succ k => rw [if_neg (by omega), toF_mid (by omega) hv]; rfl
    · rw [← toF_mid (V := u) (q := q) (by omega) hq, fOf_at nd (by omega), toF_mid (by omega) hv2]
      cases i with
      | zero => rw [if_pos rfl]; rfl
      | succ k => rw [if_neg (by omega), toF_mid (by omega) hv]; rfl

theorem nxt_mod {p a : Nat} (h : a ≤ p) : nxtI p a = (a + 1) % (p + 1) := by
  unfold nxtI
  rw [if_neg (by omega)]
  by_cases e : a = p
  · rw [if_pos e, e, Nat.mod_self]
  · rw [if_neg e, Nat.mod_eq_of_lt (by omega)]
theorem pre0 (i : Nat) : preI 0 i = i := by
  unfold preI
  by_cases h : 0 < i
  · rw [if_pos h]
  · rw [if_neg h, if_pos (by omega)]; omega
theorem nxt0 (i : Nat) : nxtI 0 i = i := by
  unfold nxtI
  by_cases h : 0 < i
  · rw [if_pos h]
  · rw [if_neg h, if_pos (by omega)]; omega
theorem turns_one {n p q : Nat} {π : Nat → Nat} (hp : p < n) (hq : q < n) (lt : ∀ i < n, π i < n) (inj : ∀ i < n, ∀ j < n, π i = π j → i = j) (sur : ∀ a < n, ∃ i < n, π i = a) :
    (∀ i < n, nxtI p (π (preI q i)) = π i) ↔ p = q ∧ (p = 0 ∨ ∃ k, k < p + 1 ∧ ∀ i ≤ p, π i = (i + k) % (p + 1)) := by
  constructor
  · intro z
    by_cases q0 : q = 0
    · subst q0
      obtain ⟨i, hi, e⟩ := sur 0 (by omega)
      have := z i hi
      have pi : preI 0 i = i := pre0 i
      rw [pi, e] at this
      unfold nxtI at this
      have p0 : p = 0 := by
        rw [if_neg (by omega)] at this
        by_cases e2 : 0 = p
        · exact e2.symm
        · rw [if_neg e2] at this; omega
      exact ⟨p0, .inl p0⟩
    · have s : ∀ i, 1 ≤ i → i ≤ q → π i = nxtI p (π (i - 1)) := fun i h1 h2 => by
        have := z i (by omega)
        have pi : preI q i = i - 1 := by unfold preI; rw [if_neg (by omega), if_neg (by omega)]
        rw [pi] at this; exact this.symm
      have k0 : π 0 ≤ p := by
        refine Classical.byContradiction fun h => ?_
        have e := s 1 (by omega) (by omega)
        have : nxtI p (π (1 - 1)) = π 0 := by unfold nxtI; rw [if_pos (by simpa using h)]
        rw [this] at e
        exact absurd (inj 1 (by omega) 0 (by omega) e) (by omega)
      have all : ∀ i, i ≤ q → π i = (i + π 0) % (p + 1) := by
        intro i
        induction i with
        | zero => intro _; rw [Nat.zero_add, Nat.mod_eq_of_lt (by omega)]
        | succ i ih =>
          intro h
          have e := s (i + 1) (by omega) h
          rw [Nat.add_sub_cancel, ih (by omega)] at e
          rw [e, nxt_mod (Nat.lt_succ_iff.mp (Nat.mod_lt _ (by omega))), Nat.mod_add_mod]
          congr 1
          omega
      have pq : p = q := by
        have l1 : q ≤ p := by
          refine Classical.byContradiction fun h => ?_
          have e := all (p + 1) (by omega)
          rw [show p + 1 + π 0 = π 0 + (p + 1) by omega, Nat.add_mod_right, Nat.mod_eq_of_lt (by omega)] at e
          exact absurd (inj (p + 1) (by omega) 0 (by omega) e) (by omega)
        have l2 : p ≤ q := by
          refine Classical.byContradiction fun h => ?_
          have e := z 0 (by omega)
          have pi : preI q 0 = q := by unfold preI; rw [if_neg (by omega), if_pos rfl]
          rw [pi, all q (by omega), nxt_mod (Nat.lt_succ_iff.mp (Nat.mod_lt _ (by omega))), Nat.mod_add_mod] at e
          by_cases c : q + π 0 + 1 < p + 1
          · rw [Nat.mod_eq_of_lt c] at e; omega
          · rw [Nat.mod_eq_sub_mod (by omega), Nat.mod_eq_of_lt (by omega)] at e; omega
        omega
      exact ⟨pq, .inr ⟨π 0, by omega, fun i hi => all i (by omega)⟩⟩
  · rintro ⟨rfl, z⟩ i hi
    rcases z with rfl | ⟨k, hk, all⟩
    · have pi : preI 0 i = i := pre0 i
      rw [pi]
      exact nxt0 _
    · by_cases hip : i ≤ p
      · have pr : preI p i ≤ p := by unfold preI; rw [if_neg (by omega)]; split <;> omega
        rw [all _ pr, nxt_mod (Nat.lt_succ_iff.mp (Nat.mod_lt _ (by omega))), Nat.mod_add_mod, all i hip]
        unfold preI
        rw [if_neg (by omega)]
        by_cases i0 : i = 0
        · rw [if_pos i0, i0]
          rw [show p + k + 1 = 0 + k + (p + 1) by omega, Nat.add_mod_right]
        · rw [if_neg i0]
          congr 1
          omega
      · have pi : preI p i = i := by unfold preI; rw [if_pos (by omega)]
        rw [pi]
        unfold nxtI
        rw [if_pos]
        refine Classical.byContradiction fun h => ?_
        have ha : π i ≤ p := by omega
        let j := if k ≤ π i then π i - k else π i + (p + 1) - k
        have hj : j ≤ p := by show (if k ≤ π i then π i - k else π i + (p + 1) - k) ≤ p; split <;> omega
        have ej : π j = π i := by
          rw [all j hj]
          show ((if k ≤ π i then π i - k else π i + (p + 1) - k) + k) % (p + 1) = π i
          split
          · rw [Nat.sub_add_cancel (by assumption), Nat.mod_eq_of_lt (by omega)]
          · rw [Nat.sub_add_cancel (by omega), Nat.add_mod_right, Nat.mod_eq_of_lt (by omega)]
        have := inj j (by omega) i hi ej
        omega
theorem pre_lt {n q i : Nat} (hq : q < n) (hi : i < n) : preI q i < n := by
  unfold preI
  split
  · exact hi
  · split <;> omega
theorem nxt_lt {n p i : Nat} (hp : p < n) (hi : i < n) : nxtI p i < n := by
  unfold nxtI
  split
  · exact hi
  · split <;> omega
theorem getD_in {l : List Str} {i : Nat} (h : i < l.length) : l.getD i "" ∈ l := by
  rw [List.getD_eq_getElem?_getD, List.getElem?_eq_getElem h]; exact List.getElem_mem _
theorem getD_ix {l : List Str} {i : Nat} (h : i < l.length) : l.getD i "" = l[i] := by
  rw [List.getD_eq_getElem?_getD, List.getElem?_eq_getElem h]; rfl
theorem getD_nd {l : List Str} {i j : Nat} (nd : l.Nodup) (hi : i < l.length) (hj : j < l.length) (e : l.getD i "" = l.getD j "") : i = j := by
  rw [getD_ix hi, getD_ix hj] at e
  exact (List.getElem_inj nd).mp e
theorem idx_getD {l : List Str} {j : Nat} (nd : l.Nodup) (h : j < l.length) : (idxS (l.getD j "") l).getD 0 = j := by
  rw [getD_ix h, idxS_nd nd h]; rfl
theorem rot_get {f : List Str} {k i : Nat} (hk : k < f.length) (hi : i < f.length) : (rot k f).getD i "" = f.getD ((i + k) % f.length) "" := by
  unfold rot
  have e : (f.drop k).length = f.length - k := List.length_drop
  by_cases c : i + k < f.length
  · rw [Nat.mod_eq_of_lt c, List.getD_eq_getElem?_getD, List.getElem?_append_left (by omega), List.getElem?_drop, ← List.getD_eq_getElem?_getD, Nat.add_comm]
  · rw [Nat.mod_eq_sub_mod (by omega), Nat.mod_eq_of_lt (by omega), List.getD_eq_getElem?_getD, List.getElem?_append_right (by omega), e, List.getElem?_take_of_lt (by omega), ← List.getD_eq_getElem?_getD]
    congr 1
    omega
theorem rot_len {f : List Str} {k : Nat} (hk : k < f.length) : (rot k f).length = f.length := by
  unfold rot
  rw [List.length_append, List.length_drop, List.length_take]; omega
theorem take_get {l : List Str} {m i : Nat} (h : i < m) : (l.take m).getD i "" = l.getD i "" := by
  rw [List.getD_eq_getElem?_getD, List.getElem?_take_of_lt h, ← List.getD_eq_getElem?_getD]
theorem ext_getD {a b : List Str} (l : a.length = b.length) (h : ∀ i < a.length, a.getD i "" = b.getD i "") : a = b := by
  refine List.ext_getElem l fun i h1 h2 => ?_
  have := h i h1
  rwa [getD_ix h1, getD_ix h2] at this

theorem lost_twice {t h u : List Str} {p q : Nat} (gp : GPair t h) (hp : p < t.length) (hq : q < t.length) (pu : u.Perm t) :
    (∀ x ∈ t, fOf (toF u q) (toF (toF (u.map (fOf (toF t p) h)) q) q) x = fOf t h x) ↔ p = q ∧ (p = 0 ∨ ∃ k, k < (t.take (p + 1)).length ∧ rot k (t.take (p + 1)) = u.take (q + 1)) := by
  have nu : u.Nodup := pu.nodup_iff.mpr gp.gt.nd
  have lu := pu.length_eq
  have lh := gp.pm.length_eq
  have g1 : GPair (toF t p) h := ⟨gp.gt.perm (toF_perm hp), gp.gh, (toF_perm hp).trans gp.pm⟩
  have r1 := RG.of g1
  have pu1 : u.Perm (toF t p) := pu.trans (toF_perm hp).symm
  have em := map_fOf g1.gt.nd g1.pm.length_eq
  have pv : (u.map (fOf (toF t p) h)).Perm h := by
    have := pu1.map (fOf (toF t p) h)
    rw [em] at this
    exact this
  have gu : GPair u (u.map (fOf (toF t p) h)) := ⟨gp.gt.perm pu, gp.gh.perm pv, pu.trans (gp.pm.trans pv.symm)⟩
  let π : Nat → Nat := fun i => (idxS (u.getD i "") t).getD 0
  have mu : ∀ i < t.length, u.getD i "" ∈ t := fun i hi => pu.mem_iff.mp (getD_in (by omega))
  have at' : ∀ i < t.length, t.getD (π i) "" = u.getD i "" := fun i hi => idx_at (mu i hi)
  have lt : ∀ i < t.length, π i < t.length := fun i hi => idx_lt (mu i hi)
  have inj : ∀ i < t.length, ∀ j < t.length, π i = π j → i = j := fun i hi j hj e => getD_nd nu (by omega) (by omega) (by rw [← at' i hi, ← at' j hj, e])
  have sur : ∀ a < t.length, ∃ i < t.length, π i = a := fun a ha => by
    have m : t.getD a "" ∈ u := pu.mem_iff.mpr (getD_in ha)
    have li := idx_lt m
    refine ⟨(idxS (t.getD a "") u).getD 0, by omega, ?_⟩
    show (idxS (u.getD ((idxS (t.getD a "") u).getD 0) "") t).getD 0 = a
    rw [idx_at m]
    exact idx_getD gp.gt.nd ha
  have key : ∀ i < t.length, (fOf (toF u q) (toF (toF (u.map (fOf (toF t p) h)) q) q) (u.getD i "") = fOf t h (u.getD i "")) ↔ nxtI p (π (preI q i)) = π i := fun i hi => by
    have pl := pre_lt hq hi
    have nl := nxt_lt hp (lt _ pl)
    rw [twice_reads gu (by omega) (by omega), getD_map _ (by omega), ← at' _ pl, lost_reads gp hp (lt _ pl), ← at' i hi, fOf_at gp.gt.nd (lt i hi)]
    exact ⟨fun e => getD_nd gp.gh.nd (by omega) (by have := lt i hi; omega) e, fun e => by rw [e]⟩
  have all : (∀ x ∈ t, fOf (toF u q) (toF (toF (u.map (fOf (toF t p) h)) q) q) x = fOf t h x) ↔ ∀ i < t.length, nxtI p (π (preI q i)) = π i := by
    constructor
    · exact fun z i hi => (key i hi).mp (z _ (mu i hi))
    · intro z x hx
      have m : x ∈ u := pu.mem_iff.mpr hx
      have li := idx_lt m
      have := (key ((idxS x u).getD 0) (by omega)).mpr (z _ (by omega))
      rwa [idx_at m] at this
  rw [all, turns_one hp hq lt inj sur]
  have l1 : (t.take (p + 1)).length = p + 1 := by rw [List.length_take]; omega
  rw [l1]
  refine and_congr_right fun e => or_congr_right (exists_congr fun k => and_congr_right fun hk => ?_)
  subst e
  have l2 : (u.take (p + 1)).length = p + 1 := by rw [List.length_take]; omega
  constructor
  · intro z
    refine ext_getD (by rw [rot_len (by omega), l1, l2]) fun i hi => ?_
    rw [rot_len (by omega), l1] at hi
    have ml : (i + k) % (p + 1) < p + 1 := Nat.mod_lt _ (by omega)
    rw [rot_get (by omega) (by omega), l1, take_get ml, take_get hi, ← at' i (by omega), z i (by omega)]
  · intro z i hi
    have ml : (i + k) % (p + 1) < p + 1 := Nat.mod_lt _ (by omega)
    have e : (rot k (t.take (p + 1))).getD i "" = (u.take (p + 1)).getD i "" := by rw [z]
    rw [rot_get (by omega) (by omega), l1, take_get ml, take_get (by omega)] at e
    show (idxS (u.getD i "") t).getD 0 = _
    rw [← e]
    exact idx_getD gp.gt.nd (by omega)
end TN
set_option Elab.async false
set_option linter.all false
set_option maxRecDepth 100000
set_option maxHeartbeats 2000000
set_option autoImplicit false
namespace TN
open PySem PySem.Spec PyProof.Rows L2
theorem RG.perm {ks ks' : List Str} {f : Str → Str} (g : RG ks f) (p : ks'.Perm ks) : RG ks' f :=
  ⟨fun z => g.ne (by rw [z] at p; exact p.nil_eq.symm), by rw [p.length_eq]; exact g.few, p.nodup_iff.mpr g.nd, fun x hx => g.isl x (p.mem_iff.mp hx), fun x hx => p.mem_iff.mpr (g.mem x (p.mem_iff.mp hx)), fun x hx y hy => g.inj x (p.mem_iff.mp hx) y (p.mem_iff.mp hy)⟩
def Hist (t : List Str) (p : Nat) (es : List Ev) : Prop := ∃ ps : List Nat, es = .lost p :: ps.map Ev.place ∧ (∀ x ∈ ps, x < t.length) ∧ ps.length ≤ 60
theorem Hist.ok {t : List Str} {p : Nat} {es : List Ev} (h : Hist t p es) (hp : p < t.length) : (∀ e ∈ es, e.ok t) ∧ (∀ e ∈ es, e.un) ∧ es.length ≤ 61 := by
  obtain ⟨ps, rfl, h1, h2⟩ := h
  refine ⟨fun e he => ?_, fun e he => ?_, by rw [List.length_cons, List.length_map]; omega⟩
  · rcases List.mem_cons.mp he with rfl | he
    · exact hp
    · obtain ⟨x, hx, rfl⟩ := List.mem_map.mp he
      exact h1 x hx
  · rcases List.mem_cons.mp he with rfl | he
    · trivial
    · obtain ⟨x, hx, rfl⟩ := List.mem_map.mp he
      trivial
theorem Hist.due {t h : List Str} {p q : Nat} {es : List Ev} (gp : GPair t h) (hh : Hist t p es) (hp : p < t.length) (hq : q < t.length) :
    (p = q ∧ (p = 0 ∨ ∃ k, k < (t.take (p + 1)).length ∧ rot k (t.take (p + 1)) = (runT t es).1.take (q + 1))) ↔ ∀ x ∈ t, fOf (runT t (es ++ [.twice q])).1 (runH h (es ++ [.twice q])).1 x = fOf t h x := by
  obtain ⟨ok, _, _⟩ := hh.ok hp
  obtain ⟨ps, rfl, h1, h2⟩ := hh
  have g1 : GPair (toF t p) h := ⟨gp.gt.perm (toF_perm hp), gp.gh, (toF_perm hp).trans gp.pm⟩
  have l1 := (toF_perm hp).length_eq
  have okp : ∀ e ∈ ps.map Ev.place, e.ok (toF t p) := fun e he => by
    obtain ⟨x, hx, rfl⟩ := List.mem_map.mp he
    show x < _
    rw [l1]; exact h1 x hx
  have pl : ∀ e ∈ ps.map Ev.place, isPlace e = true := fun e he => by
    obtain ⟨x, hx, rfl⟩ := List.mem_map.mp he
    rfl
  obtain ⟨e1, _⟩ := places_go g1 okp pl
  obtain ⟨pT, _⟩ := runT_ok _ t ok
  rw [runT_app, runH_app]
  show _ ↔ ∀ x ∈ t, fOf (toF (runT t (.lost p :: ps.map Ev.place)).1 q) (toF (toF (runH h (.lost p :: ps.map Ev.place)).1 q) q) x = fOf t h x
  have eH : (runH h (.lost p :: ps.map Ev.place)).1 = (runT t (.lost p :: ps.map Ev.place)).1.map (fOf (toF t p) h) := e1
  rw [eH]
  exact (lost_twice gp hp hq pT).symm
end TN
set_option Elab.async false
set_option linter.all false
set_option maxRecDepth 100000
set_option maxHeartbeats 2000000
set_option autoImplicit false
namespace TN
open PySem PySem.Spec PyProof.Rows L2
section
variable {prog : Program} {w : World} {A : Around} {E : Value → Shared → Prop} {s : Shared}
end
section
variable {prog : Program} {w : World} {A : Around} {E : Value → Shared → Prop} {s : Shared}
end
section
variable {X : Cx} {K : PySem.W.Frag} {bor : List Nat} {te ti : TE} {f g : FE}
end
end TN
set_option Elab.async false
set_option linter.all false
set_option maxRecDepth 100000
set_option maxHeartbeats 1000000
set_option autoImplicit false
namespace TN
open PySem PySem.Spec PyProof.Rows L2
def Pt.d : Pt → D
  | .sh d => d
  | .ow xs => .list xs
abbrev TDP := List Sl → (List Pt → List Sl → Prop) → Prop

structure PtsM (K : PySem.W.Frag) (c : C0) (G : Hp) (σ : L2.St) (H : Hp) (ρ : List Sl) (vs : List V) (ps : List Pt) : Prop where
  ok : PtsOk K c G H vs ps
  ap : Apart vs ps
  no : ∀ (j : Nat) (s : Sl) (k : Nat) (b : Addr), ρ[j]? = some s → OwAt vs ps k b → ¬ Owns G s (σ[j]?) b
def LTp (K : PySem.W.Frag) (bor : List Nat) (tH : TE) (t : TDP) : Prop :=
  ∀ ⦃c : C0⦄ ⦃G : Hp⦄ ⦃σ : L2.St⦄ ⦃H : Hp⦄ ⦃ρ : List Sl⦄ ⦃Qd : List Pt → List Sl → Prop⦄ ⦃Q : VK⦄, c.bor = bor → Rel K c G σ H ρ → t ρ Qd →
    (∀ a u vs H' G' ρ' ps, Same G G' → Rel K c G' σ H' ρ' → G' a = some (.frz u (.tup vs)) → u.dict = none → PtsM K c G' σ H' ρ' vs ps → Qd ps ρ' → Q (.ref a) H') → tH σ H Q
section
variable {K : PySem.W.Frag} {bor : List Nat} {ta : TA} {te : TE} {A : TDE} {R : TDP}
theorem own_rel {c : C0} {G : Hp} {σ : L2.St} {H : Hp} {ρ : List Sl} {vs : List V} {ps : List Pt} (p : PtsM K c G σ H ρ vs ps) {k : Nat} {b : Addr} (h : OwAt vs ps k b) : ∃ us xs, ps[k]? = some (.ow xs) ∧ H b = some (.lst us) ∧ DqAll K G us xs ∧ G b = none ∧ c.H b = none := by
  obtain ⟨h1, xs, h2⟩ := h
  obtain ⟨a, us, e1, e2, e3, e4, e5⟩ := p.ok.2 k _ _ h1 h2
  injection e1 with e1; subst e1
  exact ⟨us, xs, h2, e2, e3, e4, e5⟩
def pCons (A : TDE) (R : TDP) : TDP := fun ρ Q => A ρ fun d ρ1 => R ρ1 fun ps ρ2 => Q (.sh d :: ps) ρ2
def pOwn (j : Nat) (R : TDP) : TDP := fun ρ Q => ∃ xs, ownL j ρ = some xs ∧ R (ρ.set j .no) fun ps ρ2 => Q (.ow xs :: ps) ρ2
def pTup (R : TDP) : TDP := fun ρ Q => R ρ fun ps ρ1 => ps.length ≤ 100000 ∧ Q ps ρ1
theorem PtsM.grow {c : C0} {G : Hp} {σ : L2.St} {H : Hp} {ρ : List Sl} {vs : List V} {ps : List Pt} (p : PtsM K c G σ H ρ vs ps) (Rl : Rel K c G σ H ρ) {G' H' : Hp} (g : Grow G H G' H') : PtsM K c G' σ H' ρ vs ps :=
  ⟨⟨p.ok.1, fun k v q e1 e2 => by
    have r := p.ok.2 k v q e1 e2
    cases q with
    | sh d => exact dpS g.g r
    | ow ys =>
      obtain ⟨b, ws, r1, r2, r3, r4, r5⟩ := r
      exact ⟨b, ws, r1, g.h _ _ r2, dpsS g.g r3, g.n b (by rw [r2]; simp) r4, r5⟩⟩, p.ap, fun j s k b e o ob => p.no j s k b e o (own_back g.g (Rl.sl j s e) ob)⟩
def dCallT (sem : List D → (Sl → Prop) → Prop) (A : TDA) : TDP := fun ρ Q => A ρ fun ds ρ1 => sem ds fun r => ∃ ps, r = .tp ps ∧ Q ps ρ1
theorem pts_keep {c : C0} {G : Hp} {σ : L2.St} {H : Hp} {ρ : List Sl} {vs : List V} {ps : List Pt} (Rl : Rel K c G σ H ρ) (p : PtsM K c G σ H ρ vs ps) : ∃ G', Same G G' ∧ Rel K c G' σ H ρ ∧ DqAll K G' vs (ps.map Pt.d) := by
  classical
  let G' : Hp := fun b => if ∃ k, OwAt vs ps k b then H b else G b
  have gs : Same G G' := fun b o e => by
    show (if ∃ k, OwAt vs ps k b then H b else G b) = _
    by_cases h : ∃ k, OwAt vs ps k b
    · obtain ⟨k, h⟩ := h
      obtain ⟨_, _, _, _, _, z, _⟩ := own_rel p h
      rw [z] at e; cases e
    · rw [if_neg h]; exact e
  have gs2 : Same G' H := fun b o e => by
    have e : (if ∃ k, OwAt vs ps k b then H b else G b) = some o := e
    by_cases h : ∃ k, OwAt vs ps k b
    · rw [if_pos h] at e; exact e
    · rw [if_neg h] at e; exact Rl.sub _ _ e
  refine ⟨G', gs, Rl.move gs2 Rl.fr (fun a h1 h2 => ?_) gs rfl rfl fun b u i s e ob eb => ⟨eb, ?_, id⟩, ?_⟩
  · show (if ∃ k, OwAt vs ps k a then H a else G a) = none
    rw [if_neg (fun ⟨k, z⟩ => by obtain ⟨_, _, _, _, _, _, z⟩ := own_rel p z; exact h1 z)]
    exact Rl.gh a h1 h2
  · show (if ∃ k, OwAt vs ps k b then H b else G b) = none
    rw [if_neg (fun ⟨k, z⟩ => p.no i s k b e z ob)]
    exact (Rl.own e ob).2.1
  · have all : ∀ (n : Nat) (vs' : List V) (ps' : List Pt), vs' = vs.drop n → ps' = ps.drop n → vs'.length = ps'.length → DqAll K G' vs' (ps'.map Pt.d) := by
      intro n vs'
      induction vs' generalizing n with
      | nil => intro ps' _ _ l; cases ps' with
        | nil => exact .nil
        | cons => simp at l
      | cons v vs' ih =>
        intro ps' e1 e2 l
        cases ps' with
        | nil => simp at l
        | cons q ps' =>
          have v0 : vs[n]? = some v := by
            have : (vs.drop n)[0]? = some v := by rw [← e1]; rfl
            rwa [List.getElem?_drop, Nat.add_zero] at this
          have q0 : ps[n]? = some q := by
            have : (ps.drop n)[0]? = some q := by rw [← e2]; rfl
            rwa [List.getElem?_drop, Nat.add_zero] at this
          refine .cons ?_ (ih (n + 1) ps' (by rw [← List.drop_drop, ← e1]; rfl) (by rw [← List.drop_drop, ← e2]; rfl) (by simpa using l))
          have r := p.ok.2 n v q v0 q0
          cases q with
          | sh d => exact dpS gs r
          | ow xs =>
            obtain ⟨b, ws, r1, r2, r3, r4, r5⟩ := r
            subst r1
            refine .lst (sqU ?_) (dpsS gs r3)
            show (if ∃ k, OwAt vs ps k b then H b else G b) = _
            rw [if_pos ⟨n, v0, xs, q0⟩]; exact r2
    exact all 0 vs ps rfl rfl p.ok.1
def dKeepT (t : TDP) : TDE := fun ρ Q => t ρ fun ps ρ' => Q (.tuple (ps.map Pt.d)) ρ'
theorem LTp.e {t : TDP} (h : LTp K bor te t) : LE K bor te (dKeepT t) := fun {_ _ _ _ _ _ _} hc Rl q k =>
  h hc Rl q fun a u vs H' G' ρ' ps s R' e1 e2 p qd => by
    obtain ⟨G2, s2, R2, dp⟩ := pts_keep R' p
    exact k _ H' G2 ρ' _ (s.trans s2) R2 (.tup (.inl ⟨u, s2 _ _ e1, e2⟩) dp) qd
def sAsgT (A : TDP) (i : Nat) : TDS := fun E ρ => A ρ fun ps ρ1 => E.nx (ρ1.set i (.tp ps))
def sRetT (A : TDP) : TDS := fun E ρ => A ρ fun ps ρ1 => E.rt (.tp ps) ρ1
def tpL (j : Nat) (ρ : List Sl) : Option (List Pt) := match ρ[j]? with
  | some (.tp ps) => some ps
  | _ => none
theorem tpL_some {j : Nat} {ρ : List Sl} {ps : List Pt} (h : tpL j ρ = some ps) : ρ[j]? = some (.tp ps) := by
  unfold tpL at h
  split at h
  · rename_i ys e; injection h with h; subst h; exact e
  · cases h
def fIxT (j k : Nat) : FE := fun ρ => match tpL j ρ with
  | some ps => match ps[k]? with
    | some p => some p.d
    | none => none
  | none => none
def LN (K : PySem.W.Frag) (bor : List Nat) (tH : TE) (f : FE) : Prop :=
  ∀ ⦃c : C0⦄ ⦃G : Hp⦄ ⦃σ : L2.St⦄ ⦃H : Hp⦄ ⦃ρ : List Sl⦄ ⦃d : D⦄ ⦃Q : VK⦄, c.bor = bor → Rel K c G σ H ρ → f ρ = some d → (∀ v G' H', Grow G H G' H' → Dq K H' v d → Q v H') → tH σ H Q
def fTp (j : Nat) : FE := fun ρ => match tpL j ρ with
  | some ps => some (.tuple (ps.map Pt.d))
  | none => fPeek j ρ
theorem ln_tp {j : Nat} : LN K bor (tVar j) (fTp j) := fun {c G σ H ρ d Q} hc Rl e k => by
  unfold fTp at e
  split at e
  · rename_i ps f1
    injection e with e; subst e
    obtain ⟨a, u, vs, e1, e2, e3, e4, e6⟩ := Rl.tpAt (tpL_some f1)
    refine ⟨_, e1, k _ G H (.refl Rl.sub) (.tup (.inl ⟨u, Rl.sub _ _ e2, e3⟩) ?_)⟩
    have all : ∀ (n : Nat) (vs' : List V) (ps' : List Pt), vs' = vs.drop n → ps' = ps.drop n → vs'.length = ps'.length → DqAll K H vs' (ps'.map Pt.d) := by
      intro n vs'
      induction vs' generalizing n with
      | nil => intro ps' _ _ l; cases ps' with
        | nil => exact .nil
        | cons => simp at l
      | cons v vs' ih =>
        intro ps' g1 g2 l
        cases ps' with
        | nil => simp at l
        | cons q ps' =>
          have v0 : vs[n]? = some v := by
            have : (vs.drop n)[0]? = some v := by rw [← g1]; rfl
            rwa [List.getElem?_drop, Nat.add_zero] at this
          have q0 : ps[n]? = some q := by
            have : (ps.drop n)[0]? = some q := by rw [← g2]; rfl
            rwa [List.getElem?_drop, Nat.add_zero] at this
          refine .cons ?_ (ih (n + 1) ps' (by rw [← List.drop_drop, ← g1]; rfl) (by rw [← List.drop_drop, ← g2]; rfl) (by simpa using l))
          have r := e4.2 n v q v0 q0
          cases q with
          | sh d => exact dpS Rl.sub r
          | ow xs =>
            obtain ⟨b, ws, r1, r2, r3, _⟩ := r
            subst r1
            exact .lst (sqU r2) (dpsS Rl.sub r3)
    exact all 0 vs ps rfl rfl e4.1
  · exact lm_peek hc Rl e fun v G' H' g p => k v G' H' g (p.now g.s)
def dAppendT (j k : Nat) (A : TDE) : TDE := fun ρ Q => (∃ ps xs, tpL j ρ = some ps ∧ ps[k]? = some (.ow xs)) ∧ A ρ fun d ρ1 => ∃ ps xs, tpL j ρ1 = some ps ∧ ps[k]? = some (.ow xs) ∧ xs.length < 100000 ∧ Q .none (ρ1.set j (.tp (ps.set k (.ow (xs ++ [d])))))
def dReverseT (j k : Nat) : TDE := fun ρ Q => ∃ ps xs, tpL j ρ = some ps ∧ ps[k]? = some (.ow xs) ∧ Q .none (ρ.set j (.tp (ps.set k (.ow xs.reverse))))
def dClearT (j k : Nat) : TDE := fun ρ Q => ∃ ps xs, tpL j ρ = some ps ∧ ps[k]? = some (.ow xs) ∧ Q .none (ρ.set j (.tp (ps.set k (.ow []))))
def dClear (j : Nat) : TDE := fun ρ Q => ∃ xs, ownL j ρ = some xs ∧ Q .none (ρ.set j (.ow []))
def dPop (j : Nat) : TDE := fun ρ Q => ∃ xs d, ownL j ρ = some xs ∧ xs[xs.length - 1]? = some d ∧ Q d (ρ.set j (.ow xs.dropLast))
def dVarT (j : Nat) : TDE := fun ρ Q => match ρ[j]? with
  | some (.sh d) => Q d ρ
  | some (.tp ps) => Q (.tuple (ps.map Pt.d)) (ρ.set j (.sh (.tuple (ps.map Pt.d))))
  | _ => False
end
end TN
namespace TN
open PySem PySem.Spec PyProof.Rows L2
section
variable {K : PySem.W.Frag} {bor : List Nat} {tk : TA} {te : TE} {A : TDE} {is : List Nat}
def fIxTs (j k : Nat) : FE := fun ρ => match tpL j ρ with
  | some ps => match ps[k]? with
    | some (.sh d) => some d
    | _ => none
  | none => none
def dCallNT (sem : List D → (Sl → Prop) → Prop) (is : List Nat) (A : TDA) : TDP := fun ρ Q => A ρ fun ds ρ1 => sem (pick is ds) fun r => ∃ ps, r = .tp ps ∧ Q ps ρ1
def dCallNL (sem : List D → (Sl → Prop) → Prop) (is : List Nat) (A : TDA) : TDL := fun ρ Q => A ρ fun ds ρ1 => sem (pick is ds) fun r => ∃ xs, r = .ow xs ∧ Q xs ρ1
theorem ll_callN {sem : List D → (Sl → Prop) → Prop} {A : TDA} {E : XK} (h : LEs K bor tk A) : LL K bor (tCallN (sp0 K sem) is E tk) (dCallNL sem is A) := fun {c G σ H ρ Qd Q} hc R q k =>
  h hc R q fun vs H1 G1 ρ1 ds s1 R1 p q1 => by
    refine ⟨G1, pick is ds, _, R1.sub, dps_pick p is, q1, fun v G' H' r g ok ⟨xs, e, q2⟩ => ?_⟩
    subst e
    obtain ⟨a, us, e1, e2, e3, e4, e5⟩ := ok
    subst e1
    exact k a us H' G' ρ1 xs (s1.trans g.g) (R1.grow g) (mine_of R1 g.g e4 e2 e3) e5 q2

def dAug (i : Nat) (f : Int → Int → Int) (A : TDE) : TDS := fun E ρ => ∃ n, fVar i ρ = some (.int n) ∧ A ρ fun d ρ1 => ∃ m, d = .int m ∧ E.nx (ρ1.set i (.sh (.int (f n m))))
end
end TN
namespace TN
open PySem PySem.Spec PyProof.Rows L2
section
variable {K : PySem.W.Frag} {bor : List Nat} {ta : TA}
end
end TN
set_option Elab.async false
set_option linter.all false
set_option maxRecDepth 100000
set_option maxHeartbeats 1000000
set_option autoImplicit false
namespace TN
open PySem PySem.Spec PyProof.Rows L2 RT RZ
abbrev PIt := PySem.W.Frag → Hp → Hp → V → D → Prop
def Pd : PIt := fun K G _ v d => Dq K G v d
def Pw : PIt := fun K G H v d => ∃ a vs ds, v = .ref a ∧ d = .tuple ds ∧ SqT K H a vs ∧ DqAll K G vs ds
def ItOk (P : PIt) (K : PySem.W.Frag) (G : Hp) (J : It) (ds : List D) : Prop := ∃ (Gd : Hp → Prop) (Y : Nat → Hp → V → Hp → Prop), Walk J ds.length Gd Y ∧ (∀ H, Same G H → Gd H) ∧
  ∀ i H x H' G2, i < ds.length → Same G G2 → Same G2 H → Y i H x H' → ∃ G3 d, ds[i]? = some d ∧ Grow G2 H G3 H' ∧ P K G3 H' x d
abbrev TDI := List Sl → (List D → List Sl → Prop) → Prop
def LI (P : PIt) (K : PySem.W.Frag) (bor : List Nat) (ti : TI) (t : TDI) : Prop :=
  ∀ ⦃c : C0⦄ ⦃G : Hp⦄ ⦃σ : L2.St⦄ ⦃H : Hp⦄ ⦃ρ : List Sl⦄ ⦃Qd : List D → List Sl → Prop⦄ ⦃R : It → Hp → Prop⦄, c.bor = bor → Rel K c G σ H ρ → t ρ Qd →
    (∀ J H' G' ρ' ds, Same G G' → Rel K c G' σ H' ρ' → ItOk P K G' J ds → Qd ds ρ' → R J H') → ti σ H R
def LGp (P : PIt) (K : PySem.W.Frag) (bor : List Nat) (g : TG) (tg : TDG) : Prop :=
  ∀ ⦃c : C0⦄ ⦃G : Hp⦄ ⦃σ : L2.St⦄ ⦃H : Hp⦄ ⦃ρ : List Sl⦄ ⦃v : V⦄ ⦃d : D⦄ ⦃Qd : List Sl → Prop⦄ ⦃Q : L2.St → Hp → Prop⦄, c.bor = bor → Rel K c G σ H ρ → P K G H v d → tg d ρ Qd →
    (∀ σ' ρ', Rel K c G σ' H ρ' → Qd ρ' → Q σ' H) → g v σ H Q
section
variable {K : PySem.W.Frag} {bor : List Nat} {te tb : TE} {ta : TA} {A B : TDE} {t : TS} {S : TDS} {P : PIt}
theorem lgp_of {g : TG} {tg : TDG} (h : LG K bor g tg) : LGp Pd K bor g tg := h
theorem lgp_tup {n : Nat} {gr : TGs} {tr : List D → List Sl → (List Sl → Prop) → Prop} (h : LGs K bor gr tr) : LGp Pw K bor (gTup K n gr) (tgTup n tr) := fun {c G σ H ρ v d Qd Q} hc R ⟨a, vs, ds', e1, e2, e3, p⟩ ⟨ds, e, hl, q⟩ k => by
  subst e e1
  injection e2 with e2; subst e2
  exact ⟨_, _, rfl, e3, by rw [dps_len p]; exact hl, h hc R p q k⟩


theorem itok_list {G : Hp} {a : Addr} {xs : List V} {ds : List D} (h : SqL K G a xs) (p : DqAll K G xs ds) : ItOk Pd K G (Itl K a) ds := by
  refine ⟨_, _, by rw [← dps_len p]; exact walk_list, fun H s => rdS s h, fun i H x H' G2 hi s1 s2 y => ?_⟩
  obtain ⟨rfl, y⟩ := y
  obtain ⟨d, e1, e2⟩ := dps_get p y
  exact ⟨G2, d, e1, .refl s2, dpS s1 e2⟩
theorem itok_tup {G : Hp} {a : Addr} {xs : List V} {ds : List D} (h : TupX K G a xs) (p : DqAll K G xs ds) : ItOk Pd K G (Itt K a) ds := by
  refine ⟨_, _, by rw [← dps_len p]; exact walk_tup, fun H s => (tupS s h).sq, fun i H x H' G2 hi s1 s2 y => ?_⟩
  obtain ⟨rfl, y⟩ := y
  obtain ⟨d, e1, e2⟩ := dps_get p y
  exact ⟨G2, d, e1, .refl s2, dpS s1 e2⟩
def rangeC (lo c : Int) (n : Nat) : List D := (List.range n).map fun (k : Nat) => PyData.int (lo + k * c)
theorem itok_rangeC {G : Hp} {lo c : Int} {n : Nat} : ItOk Pd K G (Itc lo c n) (rangeC lo c n) := by
  have el : (rangeC lo c n).length = n := by unfold rangeC; simp
  refine ⟨_, _, by rw [el]; exact walk_rangeC, fun H s => trivial, fun i H x H' G2 hi s1 s2 y => ?_⟩
  obtain ⟨rfl, rfl⟩ := y
  refine ⟨G2, _, ?_, .refl s2, .int _⟩
  unfold rangeC
  rw [List.getElem?_map, List.getElem?_range (by omega)]
  rfl
def signsD (z : Str) : List D := z.cps.toList.map fun c => PyData.str ⟨#[c]⟩
theorem itok_rev {G : Hp} {a : Addr} {xs : List V} {ds : List D} (h : SqL K G a xs) (p : DqAll K G xs ds) : ItOk Pd K G (Itv K a xs.length) ds.reverse := by
  refine ⟨_, _, by rw [List.length_reverse, ← dps_len p]; exact walk_rev, fun H s => rdS s h, fun i H x H' G2 hi s1 s2 y => ?_⟩
  obtain ⟨rfl, y⟩ := y
  obtain ⟨d, e1, e2⟩ := dps_get p y
  rw [List.length_reverse] at hi
  refine ⟨G2, d, ?_, .refl s2, dpS s1 e2⟩
  rw [List.getElem?_reverse hi, ← dps_len p]; exact e1
theorem walk_revT {a : Addr} {xs : List V} : Walk (ItvT K a xs.length) xs.length (fun H => SqT K H a xs) (fun i H x H' => H' = H ∧ xs[xs.length - 1 - i]? = some x) :=
  ⟨fun i _ hi q => ⟨hi, xs, xs[xs.length - 1 - i]'(by omega), q, by simp [show xs.length - 1 - i < xs.length by omega]⟩, fun _ _ => Nat.le_refl _, fun _ _ _ _ _ q y => ⟨y.1, y.2 xs q⟩⟩
theorem itok_revT {G : Hp} {a : Addr} {xs : List V} {ds : List D} (h : TupX K G a xs) (p : DqAll K G xs ds) : ItOk Pd K G (ItvT K a xs.length) ds.reverse := by
  refine ⟨_, _, by rw [List.length_reverse, ← dps_len p]; exact walk_revT, fun H s => (tupS s h).sq, fun i H x H' G2 hi s1 s2 y => ?_⟩
  obtain ⟨rfl, y⟩ := y
  obtain ⟨d, e1, e2⟩ := dps_get p y
  rw [List.length_reverse] at hi
  refine ⟨G2, d, ?_, .refl s2, dpS s1 e2⟩
  rw [List.getElem?_reverse hi, ← dps_len p]; exact e1
def enumD (ds : List D) : List D := (List.range ds.length).map fun (i : Nat) => PyData.tuple [.int i, ds.getD i .none]
def zipD (xs ys : List D) : List D := (xs.zip ys).map fun p => PyData.tuple [p.1, p.2]
def iL (A : TDE) : TDI := fun ρ Q => A ρ fun d ρ1 => ∃ ds, d = .list ds ∧ Q ds ρ1
def iT (A : TDE) : TDI := fun ρ Q => A ρ fun d ρ1 => ∃ ds, d = .tuple ds ∧ Q ds ρ1
def iR1 (A : TDA) : TDI := fun ρ Q => A ρ fun vs ρ1 => ∃ j, vs = [.int j] ∧ j < 2 ^ 62 ∧ -(2 ^ 62) ≤ j ∧ Q (rangeD 0 j.toNat) ρ1
def iR2 (A : TDA) : TDI := fun ρ Q => A ρ fun vs ρ1 => ∃ i j, vs = [.int i, .int j] ∧ (-(2 ^ 62) ≤ i ∧ i < 2 ^ 62 ∧ -(2 ^ 62) ≤ j ∧ j < 2 ^ 62) ∧ Q (rangeD i (j - i).toNat) ρ1
def iR3 (A : TDA) : TDI := fun ρ Q => A ρ fun vs ρ1 => ∃ i j c n, vs = [.int i, .int j, .int c] ∧ RgC i j c n ∧ Q (rangeC i c n) ρ1
theorem li_rng3 {A : TDA} (h : LEs K bor ta A) : LI Pd K bor (iRng3 ta) (iR3 A) := fun {c G σ H ρ Qd R} hc Rl q k => h hc Rl q fun vs H1 G1 ρ1 ds s1 R1 p1 ⟨i, j, st, n, e, hb, q1⟩ => by
  subst e
  cases p1 with
  | cons a b =>
    cases a
    cases b with
    | cons a b =>
      cases a
      cases b with
      | cons a b => cases a; cases b; exact ⟨i, j, st, n, rfl, hb, k _ H1 G1 ρ1 _ s1 R1 itok_rangeC q1⟩
def iS (A : TDE) : TDI := fun ρ Q => A ρ fun d ρ1 => ∃ z, d = .str z ∧ Q (signsD z) ρ1
def iE (A : TDE) : TDI := fun ρ Q => A ρ fun d ρ1 => ∃ ds, d = .list ds ∧ Q (enumD ds) ρ1
def iRv (A : TDE) : TDI := fun ρ Q => A ρ fun d ρ1 => ∃ ds, (d = .list ds ∨ d = .tuple ds) ∧ Q ds.reverse ρ1
theorem li_rev (h : LE K bor te A) : LI Pd K bor (iRevA K te) (iRv A) := fun {c G σ H ρ Qd R} hc Rl q k => h hc Rl q fun v H1 G1 ρ1 d s1 R1 p1 ⟨ds, e, q1⟩ => by
  rcases e with e | e
  · subst e
    cases p1 with
    | @lst a xs _ h1 h2 => exact ⟨a, xs, rfl, .inl ⟨rdL (rdS R1.sub h1), k _ H1 G1 ρ1 _ s1 R1 (itok_rev h1 h2) q1⟩⟩
  · subst e
    cases p1 with
    | @tup a xs _ h1 h2 => exact ⟨a, xs, rfl, .inr ⟨(tupS R1.sub h1).sq, k _ H1 G1 ρ1 _ s1 R1 (itok_revT h1 h2) q1⟩⟩
def iZ (A : TDA) : TDI := fun ρ Q => A ρ fun vs ρ1 => ∃ xs ys, (vs = [.list xs, .list ys] ∨ vs = [.tuple xs, .tuple ys]) ∧ Q (zipD xs ys) ρ1
def sForI (T : TDI) (g : TDG) (B : TDS) : TDS := fun E ρ => T ρ fun ds ρ1 => forD g B E ds ρ1
theorem ls_forI {ti : TI} {T : TDI} {g : TG} {tg : TDG} (h : LI P K bor ti T) (hg : LGp P K bor g tg) (hb : LS K bor t S) : LS K bor (tFor ti g t) (sForI T tg S) := fun {c G σ H ρ E D} hc Rl q l =>
  h hc Rl q fun J H1 G1 ρ1 ds s1 R1 ⟨Gd, Y, w, gd, yl⟩ q1 => by
    refine for_it w (fun i σ' H' => ∃ G' ρ', Same G1 G' ∧ Rel K c G' σ' H' ρ' ∧ forD tg S E (ds.drop i) ρ') ⟨G1, ρ1, Same.refl _, R1, q1⟩ ?_ ?_ ?_
    · rintro i σ' H' _ ⟨G', ρ', s, R', _⟩
      exact gd H' (s.trans R'.sub)
    · rintro i x σ' H' H'' hi ⟨G', ρ', s, R', q'⟩ y
      obtain ⟨G3, d, hd, g3, p3⟩ := yl i H' x H'' G' hi s R'.sub y
      have ed : ds.drop i = d :: ds.drop (i + 1) := by
        rw [List.drop_eq_getElem_cons hi, (List.getElem?_eq_some_iff.mp hd).2]
      rw [ed] at q'
      refine hg hc (R'.grow g3) p3 q' fun σ2 ρ2 R2 q2 => ?_
      exact hb hc R2 q2 (for_links (G0 := G) (l.mono (s1.trans (s.trans g3.g))) fun s3 R3 q3 => ⟨_, _, s.trans (g3.g.trans s3), R3, q3⟩)
    · rintro σ' H' ⟨G', ρ', s, R', q'⟩
      rw [List.drop_length] at q'
      exact l.nx (s1.trans s) R' q'



def LGc (P : PIt) (K : PySem.W.Frag) (bor : List Nat) (vs : List Nat) (g : TG) (tg : TDG) : Prop :=
  ∀ ⦃c : C0⦄ ⦃G : Hp⦄ ⦃σ : L2.St⦄ ⦃H : Hp⦄ ⦃ρ : List Sl⦄ ⦃v : V⦄ ⦃d : D⦄ ⦃Qd : List Sl → Prop⦄ ⦃Q : L2.St → Hp → Prop⦄, c.bor = bor → Rel K c G σ H ρ → P K G H v d → tg d ρ Qd →
    (∀ σ' ρ', Rel K c G σ' H ρ' → wipe σ' vs = wipe σ vs → (∀ p o, MineO c G σ H ρ p o → MineO c G σ' H ρ' p o) → Qd ρ' → Q σ' H) → g v σ H Q
theorem lgc_name {vs : List Nat} {i : Nat} (hv : i ∈ vs) (hi : i ∉ bor) : LGc Pd K bor vs (gName i) (tgN i) := fun {c G σ H ρ v d Qd Q} hc R p q k =>
  k _ _ (R.store (fun a z => hi (hc ▸ R.bs _ _ z)) p) (wipe_set hv) (fun p o m => mineO_set m fun _ z => z) q
def compT (tg : TDG) (vs : List Nat) (C : TDT) (A : TDE) (Q : List D → List Sl → Prop) : List D → List D → List Sl → Prop
  | [], acc, ρ => Q acc ρ
  | d :: ds, acc, ρ => (vs.all fun v => plainAt v ρ) = true ∧ tg d (wipeD ρ vs) fun ρ0 => C ρ0 fun b ρ1 =>
      (b = true → A ρ1 fun y ρ2 => acc.length < 100000 ∧ compT tg vs C A Q ds (acc ++ [y]) (backD ρ ρ2 vs)) ∧ (b = false → compT tg vs C A Q ds acc (backD ρ ρ1 vs))
theorem compT_turn {tt : TT} {C : TDT} {g : TG} {tg : TDG} {c : C0} {G0 : Hp} {σ : L2.St} {H : Hp} {ρ : List Sl} {vs : List Nat} {Qd : List D → List Sl → Prop} {d : D} {ds acc : List D} {x : V} {L : Addr} {ws : List V} {Nx : Hp → Prop}
    (hc : c.bor = bor) (hg : LGc P K bor vs g tg) (hv : ∀ v ∈ vs, v ∉ bor) (ht : LT K bor tt C) (he : LE K bor te A) (R : Rel K c G0 σ H ρ) (m : Mine c G0 σ H ρ L ws) (pa : DqAll K G0 ws acc) (px : P K G0 H x d)
    (q : compT tg vs C A Qd (d :: ds) acc ρ)
    (next : ∀ G' H' ρ' acc' ws', Same G0 G' → Rel K c G' σ H' ρ' → Mine c G' σ H' ρ' L ws' → DqAll K G' ws' acc' → compT tg vs C A Qd ds acc' ρ' → Nx H') :
    g x (wipe σ vs) H fun σ2 H2 => wipe σ2 vs = wipe σ vs ∧ tt σ2 H2 fun b H3 =>
      if b = true then te σ2 H3 fun y H4 => ∃ acc, H4 L = some (.lst acc) ∧ acc.length < sizeLine ∧ Nx (upd H4 L (.lst (acc ++ [y]))) else Nx H3 := by
  subst hc
  obtain ⟨hn, q⟩ := q
  have nb := m.nb R
  have Rw := R.wiped (vs := vs) hv
  have mw : Mine c G0 (wipe σ vs) H (wipeD ρ vs) L ws := mineO_wipe m
  refine hg rfl Rw px q fun σ2 ρ2 Rx hw0 mx q => ?_
  have hw : wipe σ2 vs = wipe σ vs := hw0.trans wipe_wipe
  refine ⟨hw, ?_⟩
  have Rg := Rx.guard (mx _ _ mw)
  refine ht (c := c.aside L ws) rfl Rg q fun b H3 G3 ρ3 s3 R3 ⟨q1, q2⟩ => ?_
  cases b with
  | true =>
    refine iteT (he (c := c.aside L ws) rfl R3 (q1 rfl) fun y H4 G4 ρ4 yd s4 R4 py ⟨hz, q4⟩ => ?_)
    obtain ⟨R5, m5⟩ := R4.unguard m.2.2.1 nb
    have s04 : Same G0 G4 := s3.trans s4
    refine ⟨ws, m5.1, sz5 (by rw [dps_len pa]; exact hz), ?_⟩
    have R6 := R.unwiped R5 s04 hw hn hv
    have m6 := mine_back m5 R hw hn
    obtain ⟨R7, m7⟩ := R6.poke (vs := ws ++ [y]) m6
    exact next G4 _ _ _ _ s04 R7 m7 (dps_app (dpsS s04 pa) (.cons py .nil)) q4
  | false =>
    refine iteF ?_
    obtain ⟨R5, m5⟩ := R3.unguard m.2.2.1 nb
    have R6 := R.unwiped R5 s3 hw hn hv
    have m6 := mine_back m5 R hw hn
    exact next G3 H3 _ _ _ s3 R6 m6 (dpsS s3 pa) (q2 rfl)
def dCompI (T : TDI) (tg : TDG) (vs : List Nat) (C : TDT) (A : TDE) : TDL := fun ρ Q => T ρ fun ds ρ1 => compT tg vs C A Q ds [] ρ1
theorem ll_compI {ti : TI} {T : TDI} {tt : TT} {C : TDT} {g : TG} {tg : TDG} {vs : List Nat} (hi : LI P K bor ti T) (hg : LGc P K bor vs g tg) (hv : ∀ v ∈ vs, v ∉ bor) (ht : LT K bor tt C) (he : LE K bor te A) : LL K bor (tLc ti g tt te vs) (dCompI T tg vs C A) :=
  fun {c G σ H ρ Qd Q} hc R q k => hi hc R q fun J H1 G1 ρ1 ds s1 R1 ⟨Gd, Y, w, gd, yl⟩ q1 L hL => by
    have m0 := mine_new (vs := []) R1 hL
    have R0 := R1.grow (grow_own (o := .lst []) R1.sub hL)
    refine lc_it w (fun i H' => ∃ G' ρ' acc ws, Same G1 G' ∧ Rel K c G' σ H' ρ' ∧ Mine c G' σ H' ρ' L ws ∧ DqAll K G' ws acc ∧ compT tg vs C A Qd (ds.drop i) acc ρ') ⟨G1, ρ1, [], [], Same.refl _, R0, m0, .nil, q1⟩ ?_ ?_ ?_
    · rintro i H' _ ⟨G', ρ', acc, ws, s, R', _⟩
      exact gd H' (s.trans R'.sub)
    · rintro i x H' H'' hi2 ⟨G', ρ', acc, ws, s, R', m', pa, q'⟩ y
      obtain ⟨G3, d, hd, g3, p3⟩ := yl i H' x H'' G' hi2 s R'.sub y
      have ed : ds.drop i = d :: ds.drop (i + 1) := by
        rw [List.drop_eq_getElem_cons hi2, (List.getElem?_eq_some_iff.mp hd).2]
      rw [ed] at q'
      have m3 : Mine c G3 σ H'' ρ' L ws := ⟨g3.h _ _ m'.1, g3.n L (by rw [m'.1]; simp) m'.2.1, m'.2.2.1, fun j sl e ob => m'.2.2.2 j sl e (own_back g3.g (R'.sl j sl e) ob)⟩
      exact compT_turn hc hg hv ht he (R'.grow g3) m3 (dpsS g3.g pa) p3 q' fun G2 H2 ρ2 acc2 ws2 s2 R2 m2 pa2 q2 => ⟨G2, ρ2, acc2, ws2, s.trans (g3.g.trans s2), R2, m2, pa2, q2⟩
    · rintro H' ⟨G', ρ', acc, ws, s, R', m', pa, q'⟩
      rw [List.drop_length] at q'
      exact k L ws H' G' ρ' acc (s1.trans s) R' m' pa q'

end
end TN
namespace TN
open PySem PySem.Spec PyProof.Rows L2
def sRetV (j : Nat) : TDS := fun E ρ => ∃ xs, ownL j ρ = some xs ∧ E.rt (.ow xs) ρ
end TN
namespace TN
open PySem PySem.Spec PyProof.Rows L2
end TN
set_option Elab.async false
set_option linter.all false
set_option maxRecDepth 100000
set_option maxHeartbeats 2000000
set_option autoImplicit false
namespace TN
open PySem PySem.Spec PyProof.Rows L2
end TN
namespace TN
open PySem PySem.Spec PyProof.Rows L2
theorem forD_go {α : Type} (enc : α → D) {g : TDG} {B : TDS} {E : DEnds} (I : List α → List Sl → Prop)
    (step : ∀ (x : α) (xs : List α) (ρ : List Sl) (E' : DEnds), I (x :: xs) ρ → (∀ ρ', I xs ρ' → E'.nx ρ') → (∀ ρ', I xs ρ' → E'.ct ρ') → E'.rt = E.rt → E'.bk = E.nx → g (enc x) ρ fun ρ1 => B E' ρ1) (done : ∀ ρ, I [] ρ → E.nx ρ) :
    ∀ (xs : List α) (ρ : List Sl), I xs ρ → forD g B E (xs.map enc) ρ
  | [], ρ, i => done ρ i
  | x :: xs, ρ, i => step x xs ρ _ i (fun ρ' h => forD_go enc I step done xs ρ' h) (fun ρ' h => forD_go enc I step done xs ρ' h) rfl rfl
end TN
namespace TN
open PySem PySem.Spec PyProof.Rows L2
end TN
set_option Elab.async false
set_option linter.all false
set_option maxRecDepth 100000
set_option maxHeartbeats 2000000
set_option autoImplicit false
namespace TN
open PySem PySem.Spec PyProof.Rows L2
structure Sho (k w : Nat) (x : D) : Prop where
  s : x.showable = true
  n : x.hasDict = false
  d : x.depth ≤ k
  l : x.leavesShort 13 = true
  w : x.weight ≤ w
theorem Sho.up {k w k' w' : Nat} {d : D} (h : Sho k w d) (hk : k ≤ k') (hw : w ≤ w') : Sho k' w' d := ⟨h.s, h.n, Nat.le_trans h.d hk, h.l, Nat.le_trans h.w hw⟩
theorem sho_all {k w : Nat} : ∀ {xs : List D}, (∀ x ∈ xs, Sho k w x) → PyData.showableAll xs = true ∧ PyData.hasDictAll xs = false ∧ PyData.depthAll xs ≤ k ∧ PyData.leavesShortAll 13 xs = true ∧ PyData.weightAll xs ≤ xs.length * (w + 1)
  | [], _ => by simp [PyData.showableAll, PyData.hasDictAll, PyData.depthAll, PyData.leavesShortAll, PyData.weightAll]
  | x :: xs, h => by
    obtain ⟨a1, a2, a3, a4, a5⟩ := sho_all (k := k) (w := w) (xs := xs) fun y hy => h y (List.mem_cons_of_mem _ hy)
    have b := h x List.mem_cons_self
    refine ⟨?_, ?_, ?_, ?_, ?_⟩
    · simp only [PyData.showableAll, a1, b.s, Bool.and_self]
    · simp only [PyData.hasDictAll, a2, b.n, Bool.or_self]
    · simp only [PyData.depthAll]; have := b.d; omega
    · simp only [PyData.leavesShortAll, a4, b.l, Bool.and_self]
    · simp only [PyData.weightAll, List.length_cons]
      have := b.w
      rw [Nat.succ_mul]
      omega
theorem Sho.lst {k w n : Nat} {xs : List D} (h : ∀ x ∈ xs, Sho k w x) (hn : xs.length ≤ n) : Sho (k + 1) (n * (w + 1)) (.list xs) := by
  obtain ⟨a1, a2, a3, a4, a5⟩ := sho_all h
  exact ⟨by simpa only [PyData.showable] using a1, by simpa only [PyData.hasDict] using a2, by simp only [PyData.depth]; omega, by simpa only [PyData.leavesShort] using a4, by simp only [PyData.weight]; exact Nat.le_trans a5 (Nat.mul_le_mul_right _ hn)⟩
theorem Sho.tup {k w n : Nat} {xs : List D} (h : ∀ x ∈ xs, Sho k w x) (hn : xs.length ≤ n) : Sho (k + 1) (n * (w + 1)) (.tuple xs) := by
  obtain ⟨a1, a2, a3, a4, a5⟩ := sho_all h
  exact ⟨by simpa only [PyData.showable] using a1, by simpa only [PyData.hasDict] using a2, by simp only [PyData.depth]; omega, by simpa only [PyData.leavesShort] using a4, by simp only [PyData.weight]; exact Nat.le_trans a5 (Nat.mul_le_mul_right _ hn)⟩
theorem Sho.non {k w : Nat} : Sho k w .none := ⟨by simp only [PyData.showable], by simp only [PyData.hasDict], by simp [PyData.depth], by simp only [PyData.leavesShort], by simp [PyData.weight]⟩
theorem Sho.bl {k w : Nat} (b : Bool) : Sho k w (.bool b) := ⟨by simp only [PyData.showable], by simp only [PyData.hasDict], by simp [PyData.depth], by simp only [PyData.leavesShort], by simp [PyData.weight]⟩
theorem Sho.int {k : Nat} {i : Int} (h : i.natAbs < 10 ^ 12) : Sho k 64 (.int i) := by
  have l : i.natAbs.log2 < 64 := by
    by_cases z : i.natAbs = 0
    · rw [z]; decide
    · exact (Nat.log2_lt z).mpr (Nat.lt_trans h (by decide))
  refine ⟨by simp only [PyData.showable, decide_eq_true_eq]; omega, by simp only [PyData.hasDict], by simp [PyData.depth], by simp only [PyData.leavesShort, decide_eq_true_eq]; exact PyData.shown_int_le h, ?_⟩
  simp only [PyData.weight]
  split <;> omega
theorem Sho.str {k : Nat} {x : Str} (h : okS x) (hl : x.cps.size ≤ 64) : Sho k 64 (.str x) := by
  refine ⟨by simp only [PyData.showable], by simp only [PyData.hasDict], by simp [PyData.depth], ?_, by simpa only [PyData.weight] using hl⟩
  simp only [PyData.leavesShort]
  rw [List.all_eq_true]
  intro c hc
  have h : x.cps.all (· < 0x110000) = true := h
  rw [Array.all_eq_true'] at h
  have := h c (Array.mem_toList_iff.mp hc)
  simp only [decide_eq_true_eq] at this ⊢
  omega
theorem Sho.let {k : Nat} {x : Str} (h : isL x) : Sho k 64 (.str x) := by
  obtain ⟨c, rfl, h1, h2⟩ := h
  refine Sho.str ?_ (by simp)
  show (#[c] : Array Nat).all (· < 0x110000) = true
  simp
  omega
end TN
namespace TN
open PySem PySem.Spec PyProof.Rows L2
end TN
set_option Elab.async false
set_option linter.all false
set_option maxRecDepth 100000
set_option maxHeartbeats 2000000
set_option autoImplicit false
namespace TN
open PySem PySem.Spec PyProof.Rows L2
theorem compD_go {α : Type} (enc : α → D) {j : Nat} {vs : List Nat} {C : TDT} {A : TDE} {Q : List D → List Sl → Prop} (I : List α → List D → List Sl → Prop)
    (step : ∀ (x : α) (xs : List α) (acc : List D) (ρ : List Sl) (K : List D → List Sl → Prop), I (x :: xs) acc ρ → (∀ acc' ρ', I xs acc' ρ' → K acc' ρ') →
      (vs.all fun v => plainAt v ρ) = true ∧ C ((wipeD ρ vs).set j (.sh (enc x))) fun b ρ1 => (b = true → A ρ1 fun y ρ2 => acc.length < 100000 ∧ K (acc ++ [y]) (backD ρ ρ2 vs)) ∧ (b = false → K acc (backD ρ ρ1 vs)))
    (done : ∀ acc ρ, I [] acc ρ → Q acc ρ) : ∀ (xs : List α) (acc : List D) (ρ : List Sl), I xs acc ρ → compD j vs C A Q (xs.map enc) acc ρ
  | [], acc, ρ, i => done acc ρ i
  | x :: xs, acc, ρ, i => step x xs acc ρ _ i fun acc' ρ' h => compD_go enc I step done xs acc' ρ' h
theorem compT_fil {α : Type} (enc o : α → D) (p : α → Bool) (J : α → Prop) (ρi : α → List Sl) {tg : TDG} {vs : List Nat} {C : TDT} {A : TDE} {Q : List D → List Sl → Prop} {ρ0 : List Sl}
    (own : (vs.all fun v => plainAt v ρ0) = true) (tgt : ∀ (x : α) (K : List Sl → Prop), K (ρi x) → tg (enc x) (wipeD ρ0 vs) K) (back : ∀ x, backD ρ0 (ρi x) vs = ρ0)
    (test : ∀ (x : α) (R : Bool → List Sl → Prop), J x → R (p x) (ρi x) → C (ρi x) R) (turn : ∀ (x : α) (R : D → List Sl → Prop), J x → p x = true → R (o x) (ρi x) → A (ρi x) R) :
    ∀ (xs : List α) (acc : List D), (∀ x ∈ xs, J x) → acc.length + xs.length ≤ 100000 → Q (acc ++ (xs.filter p).map o) ρ0 → compT tg vs C A Q (xs.map enc) acc ρ0
  | [], acc, _, _, q => by simpa [compT] using q
  | x :: xs, acc, hJ, few, q => by
    rw [List.length_cons] at few
    have jx := hJ x List.mem_cons_self
    have jr : ∀ y ∈ xs, J y := fun y hy => hJ y (List.mem_cons_of_mem _ hy)
    refine ⟨own, tgt x _ (test x _ jx ⟨fun hp => turn x _ jx hp ⟨by omega, ?_⟩, fun hp => ?_⟩)⟩
    · rw [back]
      refine compT_fil enc o p J ρi own tgt back test turn xs (acc ++ [o x]) jr (by rw [List.length_append, List.length_singleton]; omega) ?_
      rw [List.filter_cons_of_pos hp, List.map_cons] at q
      rw [List.append_assoc]
      exact q
    · rw [back]
      refine compT_fil enc o p J ρi own tgt back test turn xs acc jr (by omega) ?_
      rw [List.filter_cons_of_neg (by rw [hp]; simp)] at q
      exact q

def numd {α : Type} : Nat → List α → List (Nat × α)
  | _, [] => []
  | k, x :: xs => (k, x) :: numd (k + 1) xs
theorem numd_get {α : Type} : ∀ (k : Nat) (xs : List α) (i : Nat), (numd k xs)[i]? = xs[i]?.map fun x => (k + i, x)
  | _, [], i => by simp [numd]
  | k, x :: xs, 0 => rfl
  | k, x :: xs, i + 1 => by
    show (numd (k + 1) xs)[i]? = (xs[i]?).map _
    rw [numd_get]
    congr 1
    funext y
    rw [show k + 1 + i = k + (i + 1) by omega]
theorem enumD_map {α : Type} (enc : α → D) (xs : List α) : enumD (xs.map enc) = (numd 0 xs).map fun p => PyData.tuple [.int p.1, enc p.2] := by
  apply List.ext_getElem?
  intro i
  unfold enumD
  rw [List.getElem?_map, List.getElem?_map, numd_get, List.length_map]
  by_cases h : i < xs.length
  · rw [List.getElem?_range h, List.getElem?_eq_getElem h]
    show some (PyData.tuple [.int i, (xs.map enc).getD i .none]) = some (PyData.tuple [.int ((0 + i : Nat) : Int), enc xs[i]])
    rw [List.getD_eq_getElem?_getD, List.getElem?_map, List.getElem?_eq_getElem h, Nat.zero_add]
    rfl
  · rw [List.getElem?_eq_none (by simpa using h), List.getElem?_eq_none (by omega)]
    rfl
theorem rangeD_nat {n : Nat} : rangeD 0 (n : Int).toNat = (List.range n).map fun (k : Nat) => PyData.int k := by
  unfold rangeD
  simp only [Int.zero_add, Int.toNat_natCast]

def LEsM (K : PySem.W.Frag) (bor : List Nat) (tH : TA) (t : TDA) : Prop :=
  ∀ ⦃c : C0⦄ ⦃G : Hp⦄ ⦃σ : L2.St⦄ ⦃H : Hp⦄ ⦃ρ : List Sl⦄ ⦃Qd : List D → List Sl → Prop⦄ ⦃Q : List V → Hp → Prop⦄, c.bor = bor → Rel K c G σ H ρ → t ρ Qd →
    (∀ vs H' G' ρ' ds, Same G G' → Rel K c G' σ H' ρ' → DqAll K H' vs ds → Qd ds ρ' → Q vs H') → tH σ H Q
section
variable {K : PySem.W.Frag} {bor : List Nat} {te : TE} {ta tr : TA} {A : TDE} {R : TDA}
theorem lesm_nil : LEsM K bor tNil dNil := fun {c G σ H ρ Qd Q} hc Rl q k => k _ H G ρ _ (Same.refl _) Rl .nil q
theorem lesm_cons (h : LE K bor te A) (hr : LEsM K bor tr R) : LEsM K bor (tCons te tr) (dCons A R) := fun {c G σ H ρ Qd Q} hc Rl q k =>
  h hc Rl q fun v H1 G1 ρ1 d s1 R1 p1 q1 => hr hc R1 q1 fun vs H2 G2 ρ2 ds s2 R2 p2 q2 => k _ H2 G2 ρ2 _ (s1.trans s2) R2 (.cons (dpS (s2.trans R2.sub) p1) p2) q2
def mVar (j : Nat) (R : TDA) : TDA := fun ρ Q => (fTp j ρ).isSome = true ∧ R ρ fun ds ρ2 => ∃ d, fTp j ρ2 = some d ∧ Q (d :: ds) ρ2
theorem tp_now {c : C0} {G : Hp} {σ : L2.St} {H : Hp} {ρ : List Sl} {j : Nat} {d : D} (Rl : Rel K c G σ H ρ) (e : fTp j ρ = some d) : ∃ v, σ[j]? = some (some v) ∧ Dq K H v d := by
  exact ln_tp (K := K) (bor := c.bor) (j := j) rfl Rl e (Q := fun v H' => Dq K H' v d) fun v G' H' g p => p
theorem lesm_var {j : Nat} (hr : LEsM K bor tr R) : LEsM K bor (tCons (tVar j) tr) (mVar j R) := fun {c G σ H ρ Qd Q} hc Rl ⟨q0, q⟩ k => by
  obtain ⟨d0, f0⟩ := Option.isSome_iff_exists.mp q0
  obtain ⟨v, e1, _⟩ := tp_now Rl f0
  refine ⟨v, e1, hr hc Rl q fun vs H2 G2 ρ2 ds s2 R2 p2 ⟨d, f1, q2⟩ => ?_⟩
  obtain ⟨v', e2, p⟩ := tp_now R2 f1
  rw [e1] at e2
  injection e2 with e2; injection e2 with e2; subst e2
  exact k _ H2 G2 ρ2 _ s2 R2 (.cons p p2) q2
def dCallM (sem : List D → (Sl → Prop) → Prop) (A : TDA) : TDE := fun ρ Q => A ρ fun ds ρ1 => sem ds fun r => ∃ d, r = .sh d ∧ flatD d = true ∧ Q d ρ1
theorem le_callM {sem : List D → (Sl → Prop) → Prop} {E : XK} (h : LEsM K bor ta R) : LE K bor (tCall (sp0 K sem) [] E ta) (dCallM sem R) := fun {c G σ H ρ Qd Q} hc Rl q k =>
  h hc Rl q fun vs H1 G1 ρ1 ds s1 R1 p q1 => by
    rw [List.append_nil]
    refine ⟨H1, ds, _, Same.refl _, p, q1, fun v G' H' r g ok ⟨d, e, fl, q2⟩ => ?_⟩
    subst e
    have e := flat_q (show Dq K G' v d from ok) fl
    have dq : Dq K G1 v d := by
      subst e
      cases d with
      | list _ => cases fl
      | tuple _ => cases fl
      | dict _ => cases fl
      | none => exact .non
      | bool _ => exact .bl _
      | int _ => exact .int _
      | str _ => exact .str _
    exact k v H' G1 ρ1 d s1 (R1.grow ⟨g.h, Same.refl _, R1.sub.trans g.h, fun _ _ z => z⟩) dq q2
end
end TN
set_option Elab.async false
set_option linter.all false
set_option maxRecDepth 100000
set_option maxHeartbeats 2000000
set_option autoImplicit false
namespace TN
open PySem PySem.Spec PyProof.Rows L2
def mOwn (i : Nat) : TDL := fun ρ Q => ∃ xs, ownL i ρ = some xs ∧ Q xs (ρ.set i .no)
end TN
set_option Elab.async false
set_option linter.all false
set_option maxRecDepth 100000
set_option maxHeartbeats 2000000
set_option autoImplicit false
namespace TN
open PySem PySem.Spec PyProof.Rows L2
section
variable {s : Shared} {A : Around} {w : World} {prog : Program} {E : Value → Shared → Prop}
end
section
variable {X : Cx}
end
end TN
set_option Elab.async false
set_option linter.all false
set_option maxRecDepth 100000
set_option maxHeartbeats 2000000
set_option autoImplicit false
namespace TN
open PySem PySem.Spec PyProof.Rows L2
abbrev ixS (x : Str) (r : List Str) : Nat := (idxS x r).getD 0
end TN
namespace TN
open PySem PySem.Spec PyProof.Rows L2
end TN
namespace TN
open PySem PySem.Spec PyProof.Rows L2
theorem oTIx {x : Str} {r : List Str} (h : x ∈ r) : oTIdx (tupL r) (.str x) = some (.int (ixS x r : Nat)) := oTIdx_of h
end TN
namespace TN
open PySem PySem.Spec PyProof.Rows L2
theorem nodup_le : ∀ {l t : List Str}, l.Nodup → (∀ x ∈ l, x ∈ t) → l.length ≤ t.length
  | [], _, _, _ => Nat.zero_le _
  | x :: l, t, nd, h => by
    rw [List.nodup_cons] at nd
    have hx := h x List.mem_cons_self
    have ih := nodup_le (t := t.erase x) nd.2 fun y hy => (List.mem_erase_of_ne (show y ≠ x from fun z => nd.1 (by rw [← z]; exact hy))).mpr (h y (List.mem_cons_of_mem _ hy))
    rw [List.length_erase_of_mem hx] at ih
    have := List.length_pos_of_mem hx
    rw [List.length_cons]; omega
end TN
set_option Elab.async false
set_option linter.all false
set_option maxRecDepth 100000
set_option maxHeartbeats 4000000
set_option autoImplicit false
namespace TN
open PySem PySem.Spec PyProof.Rows
section
variable {pg : Program} {wd : World} {A : Around} {E : Value → Shared → Prop} {s : Shared}
end
end TN
namespace TN
open PySem PySem.Spec PyProof.Rows L2
section
variable {X : Cx}
end
end TN
set_option Elab.async false
set_option linter.all false
set_option maxRecDepth 100000
set_option maxHeartbeats 2000000
set_option autoImplicit false
namespace TN
open PySem PySem.Spec PyProof.Rows L2
end TN
set_option Elab.async false
set_option linter.all false
set_option maxRecDepth 100000
set_option maxHeartbeats 2000000
set_option autoImplicit false
namespace TN
open PySem PySem.Spec PyProof.Rows L2
def semNeedRow (ds : List D) (Q : Sl → Prop) : Prop := ∃ r : List Str, ds = [tupL r] ∧ GRow r ∧ Q (.sh .none)
end TN
set_option Elab.async false
set_option linter.all false
set_option maxRecDepth 100000
set_option maxHeartbeats 2000000
set_option autoImplicit false
namespace TN
open PySem PySem.Spec PyProof.Rows L2
end TN
set_option Elab.async false
set_option linter.all false
set_option maxRecDepth 100000
set_option maxHeartbeats 2000000
set_option autoImplicit false
namespace TN
open PySem PySem.Spec PyProof.Rows L2
section
variable {K : PySem.W.Frag} {bor : List Nat} {te : TE}
def dExtS (j : Nat) (A : TDE) : TDE := fun ρ Q => (ownL j ρ).isSome = true ∧ A ρ fun d ρ1 => ∃ zs, d = .list zs ∧ ∃ xs, ownL j ρ1 = some xs ∧ xs.length + zs.length ≤ 100000 ∧ Q .none (ρ1.set j (.ow (xs ++ zs)))
end
end TN
set_option Elab.async false
set_option linter.all false
set_option maxRecDepth 100000
set_option maxHeartbeats 2000000
set_option autoImplicit false
namespace TN
open PySem PySem.Spec PyProof.Rows L2
theorem callKw {prog : Program} {w : World} {A : Around} {E : Value → Shared → Prop} {s : Shared} {id : String} {b : Builtin} {args : List Value} {kw : List (Str × Value)} {Q : Value → Shared → Prop} (hk : builtinKind id = none) (hp : plainId id = true) (hb : entryFor table id = some b) (ha : argsOk id ⟨args, kw⟩)
    (hc : wpAny (model prog w) A.in1 (b ⟨args, kw⟩) (fun fin s1 => match fin with
      | .done f => (match (Except.ok f : Result) with | .ok (.ret v) => Q v s1 | .ok _ => False | .error e => E e s1)
      | .again c => c.quiet = true ∧ codeAny (model prog w) A c (fun r s1 => match r with | .ok (.ret v) => Q v s1 | .ok _ => False | .error e => E e s1) s1) E s) : wpAny (model prog w) A (call (.builtin id) args kw) Q E s := by
  apply wpAny_call; apply codeAny_call_builtin hp hb; simp only [checkBuiltinCall, hk]
  cases sg : Manifest.signature? id with
  | none => exact wpAny_pure hc
  | some sig =>
    have g : Bind.checkArgs id sig ⟨args, kw⟩ = pure () := by simpa only [argsOk, sg] using ha
    simp only [g]; exact wpAny_pure hc

theorem int_at {xs : List Int} {its : List Value} (rv : Vals (xs.map V.int) its) {i : Nat} {v : Value} (e : its.toArray[i]? = some v) : ∃ t, v = .int (xs.getD i 0) t := by
  have e : its[i]? = some v := by simpa using e
  obtain ⟨x, ex, rx⟩ := vals_ix rv e
  rw [List.getElem?_map] at ex
  obtain ⟨y, ey, rfl⟩ := Option.map_eq_some_iff.mp ex
  obtain ⟨t, rfl⟩ : ∃ t, v = .int y t := rx
  exact ⟨t, by rw [List.getD_eq_getElem?_getD, ey]; rfl⟩

theorem argsD_max (a d : Value) : argsOk "max" ⟨[a], [("default", d)]⟩ := by unfold argsOk; kernel_rfl
section
variable {R : Result → Shared → Prop} {St : Nat → Heap → Prop} {P : Nat → Value → Prop} {prog : Program} {w : World} {A : Around} {I : Addr} {fp wr : List Addr} {n : Nat}
theorem kwLoop_max (W : Walks prog w A.in1 I fp wr n P St) (bt : Nat → Nat → Bool) (cmp : CmpOf prog w A.in1 .Gt P bt) (T : Addr) (out : T ∉ fp) (kw : List (Str × Value)) :
    ∀ (k j : Nat) (s : Shared) (u : Value) (c : Nat), n - (j + 1) = k → j + 1 ≤ n → St (j + 1) s.heap → P (argBest bt j) u → s.heap.get? T = some { cls := .type "list", dict := none, data := .seq #[u, u] c, slots := #[] } →
    (∀ v h1 t1, P (argBest bt (n - 1)) v → (∀ b o, b ∉ wr → b ≠ T → s.heap.get? b = some o → h1.get? b = some o) → R (.ok (.ret v)) { s with heap := h1, toks := t1 }) → codeAny (model prog w) A (.builtin "max.loop" ⟨[.ref I, .none, .ref T], kw⟩) R s := by
  have out2 : T ∉ wr := fun z => out (W.sub _ z)
  have nm : (toString "max" ++ toString ".loop" : String) = "max.loop" := by decide
  intro k
  induction k with
  | zero =>
    intro j s u c e1 le st pu at0 q
    have en : j + 1 = n := by omega
    apply codeAny_builtin F.entry_max_loop; rw [Around.under_plainId F.plain_max_loop _]
    show wpAny _ A.in1 (seqItems? (.ref T) >>= _) _ _ s
    apply wpAny_bind; apply wpAny_seqItems at0 rfl
    show wpAny _ A.in1 (tryCatch (pyNext (.ref I)) _ >>= _) _ _ s; apply wpAny_bind
    refine wpAny_tryCatch (W.done s _ _ (en ▸ st) fun h1 t1 keep => ?_)
    have at1 := keep T _ out2 at0
    show wpAny _ A.in1 (updateSeq T (fun _ => #[]) >>= _) _ _ _; apply wpAny_bind
    refine wpAny_updateSeq at1 rfl (wpAny_bind (wpAny_letGo (wpAny_pure (q u _ t1 (by rw [← en]; exact pu) fun b o b1 b2 e => ?_))))
    exact (Heap.get?_update_other _ _ (Ne.symm b2)).trans (keep b o b1 e)
  | succ k ih =>
    intro j s u c e1 le st pu at0 q
    have lt : j + 1 < n := by omega
    apply codeAny_builtin F.entry_max_loop; rw [Around.under_plainId F.plain_max_loop _]
    show wpAny _ A.in1 (seqItems? (.ref T) >>= _) _ _ s
    apply wpAny_bind; apply wpAny_seqItems at0 rfl
    show wpAny _ A.in1 (tryCatch (pyNext (.ref I)) _ >>= _) _ _ s; apply wpAny_bind
    refine wpAny_tryCatch (W.item (j + 1) s _ _ lt st fun v h1 t1 pv st1 keep => ?_)
    have at1 := keep T _ out2 at0
    show wpAny _ A.in1 (tryCatch (holding [v, v] (richCompare .Gt v u >>= _)) _ >>= _) _ _ _; apply wpAny_bind
    refine wpAny_tryCatch (wpAny_holding (wpAny_bind (cmp (j + 1) (argBest bt j) v u _ _ _ pv pu ?_)))
    apply wpAny_bind; refine wpAny_holding (wpAny_truthy_bool (wpAny_bind (wpAny_letGo (wpAny_pure ?_))))
    cases hbt : bt (j + 1) (argBest bt j) with
    | true =>
      simp only [if_true]; apply wpAny_bind
      refine wpAny_updateSeq at1 rfl (wpAny_bind (wpAny_letGo ?_)); rw [nm]
      refine wpAny_pure ⟨plainId_quiet F.plain_max_loop _, ih (j + 1) _ v _ (by omega) lt (W.frame _ _ _ st1 fun b bf o e => ?_) (by simp only [argBest, hbt, if_true]; exact pv) (Heap.get?_update_self _ at1 rfl) fun v2 h2 t2 pv2 keep2 => ?_⟩
      · exact (Heap.get?_update_other _ _ fun z : T = b => out (by rw [z]; exact bf)).trans e
      · exact q v2 h2 t2 pv2 fun b o b1 b2 e => keep2 b o b1 b2 ((Heap.get?_update_other _ _ (Ne.symm b2)).trans (keep b o b1 e))
    | false =>
      simp only [Bool.false_eq_true, if_false]; apply wpAny_bind; apply wpAny_letGo; rw [nm]
      exact wpAny_pure ⟨plainId_quiet F.plain_max_loop _, ih (j + 1) _ u c (by omega) lt st1 (by simp only [argBest, hbt, Bool.false_eq_true, if_false]; exact pu) at1 fun v2 h2 t2 pv2 keep2 => q v2 h2 t2 pv2 fun b o b1 b2 e => keep2 b o b1 b2 (keep b o b1 e)⟩
theorem kwFirst_max (W : Walks prog w A.in1 I fp wr n P St) (bt : Nat → Nat → Bool) (cmp : CmpOf prog w A.in1 .Gt P bt) (T : Addr) (out : T ∉ fp) (d : Value) {s : Shared} {c : Nat} (st : St 0 s.heap) (at0 : s.heap.get? T = some { cls := .type "list", dict := none, data := .seq #[] c, slots := #[] })
    (q : 0 < n → ∀ v h1 t1, P (argBest bt (n - 1)) v → (∀ b o, b ∉ wr → b ≠ T → s.heap.get? b = some o → h1.get? b = some o) → R (.ok (.ret v)) { s with heap := h1, toks := t1 })
    (q0 : n = 0 → ∀ h1 t1, (∀ b o, b ∉ wr → b ≠ T → s.heap.get? b = some o → h1.get? b = some o) → R (.ok (.ret d)) { s with heap := h1, toks := t1 }) : codeAny (model prog w) A (.builtin "max.loop" ⟨[.ref I, .none, .ref T], [("default", d)]⟩) R s := by
  have out2 : T ∉ wr := fun z => out (W.sub _ z)
  have nm : (toString "max" ++ toString ".loop" : String) = "max.loop" := by decide
  apply codeAny_builtin F.entry_max_loop; rw [Around.under_plainId F.plain_max_loop _]
  show wpAny _ A.in1 (seqItems? (.ref T) >>= _) _ _ s
  apply wpAny_bind; apply wpAny_seqItems at0 rfl
  show wpAny _ A.in1 (tryCatch (pyNext (.ref I)) _ >>= _) _ _ s; apply wpAny_bind
  by_cases n0 : 0 < n
  · refine wpAny_tryCatch (W.item 0 s _ _ n0 st fun v h1 t1 pv st1 keep => ?_)
    have at1 := keep T _ out2 at0
    show wpAny _ A.in1 (updateSeq T (fun _ => #[v, v]) >>= _) _ _ _; apply wpAny_bind; apply wpAny_updateSeq at1 rfl; rw [nm]
    refine wpAny_pure ⟨plainId_quiet F.plain_max_loop _, kwLoop_max W bt cmp T out [("default", d)] _ 0 _ v _ rfl n0 (W.frame _ _ _ st1 fun b bf o e => ?_) pv (Heap.get?_update_self _ at1 rfl) fun v2 h2 t2 pv2 keep2 => ?_⟩
    · exact (Heap.get?_update_other _ _ fun z : T = b => out (by rw [z]; exact bf)).trans e
    · exact q n0 v2 h2 t2 pv2 fun b o b1 b2 e => keep2 b o b1 b2 ((Heap.get?_update_other _ _ (Ne.symm b2)).trans (keep b o b1 e))
  · have en : n = 0 := by omega
    refine wpAny_tryCatch (W.done s _ _ (en ▸ st) fun h1 t1 keep => ?_)
    show wpAny _ A.in1 (rule _ >>= fun _ => _) _ _ _
    exact wpAny_bind (wpAny_rule (wpAny_pure (q0 en h1 t1 fun b o b1 _ e => keep b o b1 e)))
end
section
variable {w : World} {prog : Program} {A : Around} {E : Value → Shared → Prop} {s : Shared}
theorem callD_max {x d : Value} {Q : Value → Shared → Prop}
    (h : wpAny (model prog w) A.in1 (pyIter x) (fun it s1 => ∃ I fp wr n P St bt, it = .ref I ∧ Walks prog w A.in1 I fp wr n P St ∧ St 0 s1.heap ∧ (∀ b ∈ fp, b < s1.heap.objs.size) ∧ CmpOf prog w A.in1 .Gt P bt ∧
      (0 < n → ∀ v h1 t1, P (argBest bt (n - 1)) v → (∀ b o, b ∉ wr → s1.heap.get? b = some o → h1.get? b = some o) → Q v { s1 with heap := h1, toks := t1 }) ∧
      (n = 0 → ∀ h1 t1, (∀ b o, b ∉ wr → s1.heap.get? b = some o → h1.get? b = some o) → Q d { s1 with heap := h1, toks := t1 })) E s) : wpAny (model prog w) A (call (.builtin "max") [x] [("default", d)]) Q E s := by
  have nm : (toString "max" ++ toString ".loop" : String) = "max.loop" := by decide
  refine callKw F.kind_max F.plain_max F.entry_max (argsD_max _ _) ?_
  show wpAny _ A.in1 (Builtin.Builtins.bindParams "max" ["key", "default"] 0 ⟨[], [("default", d)]⟩ >>= _) _ _ s; apply wpAny_bind
  refine wpAny_of_eq (show Builtin.Builtins.bindParams "max" ["key", "default"] 0 ⟨[], [("default", d)]⟩ = pure [none, some d] from rfl) (wpAny_bind (wpAny_pure (wpAny_bind (wpAny_mono h (fun it s1 g => ?_) fun _ _ e => e))))
  obtain ⟨I, fp, wr, n, P, St, bt, rfl, W, st, hfp, cmp, q, q0⟩ := g
  apply wpAny_bind; refine wpAny_newObj_type ?_
  have out : s1.heap.objs.size ∉ fp := fun z => Nat.lt_irrefl _ (hfp _ z)
  rw [nm]
  refine wpAny_pure ⟨plainId_quiet F.plain_max_loop _, kwFirst_max W bt cmp s1.heap.objs.size out d (W.frame _ _ _ st fun b _ o e => Heap.get?_push_of_some _ e) (Heap.get?_push_size _ rfl) (fun n0 v h1 t1 pv keep => ?_) fun n0 h1 t1 keep => ?_⟩
  · exact q n0 v h1 t1 pv fun b o b1 e => keep b o b1 (Nat.ne_of_lt (Heap.lt_size e)) (Heap.get?_push_of_some _ e)
  · exact q0 n0 h1 t1 fun b o b1 e => keep b o b1 (Nat.ne_of_lt (Heap.lt_size e)) (Heap.get?_push_of_some _ e)
end
abbrev lqmax (x y : Int) : Prop := x ≤ y

theorem best_max (val : Nat → Int) : ∀ k, argBest (fun i j => decide (val i > val j)) k ≤ k ∧ ∀ j, j ≤ k → lqmax (val j) (val (argBest (fun i j => decide (val i > val j)) k))
  | 0 => ⟨Nat.le_refl _, fun j hj => by
    have : j = 0 := Nat.le_zero.mp hj
    subst this; exact Int.le_refl _⟩
  | k + 1 => by
    obtain ⟨h1, h2⟩ := best_max val k
    have e : argBest (fun i j => decide (val i > val j)) (k + 1) = if decide (val (k + 1) > val (argBest (fun i j => decide (val i > val j)) k)) = true then k + 1 else argBest (fun i j => decide (val i > val j)) k := rfl
    rw [e]
    generalize argBest (fun i j => decide (val i > val j)) k = b at h1 h2
    by_cases c : val (k + 1) > val b
    · rw [if_pos (decide_eq_true c)]
      refine ⟨Nat.le_refl _, fun j hj => ?_⟩
      by_cases hjk : j = k + 1
      · subst hjk; exact Int.le_refl _
      · have := h2 j (by omega)
        simp only [lqmax] at this ⊢; omega
    · rw [if_neg (by simpa using c)]
      refine ⟨by omega, fun j hj => ?_⟩
      by_cases hjk : j = k + 1
      · subst hjk; simp only [lqmax]; omega
      · exact h2 j (by omega)
def rD_max (K : PySem.W.Frag) : List V → List V → Hp → VK → Prop := fun vs zs H Q => ∃ (a : Addr) (xs : List Int) (d : V), vs = [V.ref a] ∧ zs = [d] ∧ SqL K H a (xs.map V.int) ∧ (xs = [] → Q d H) ∧ ∀ m, m ∈ xs → (∀ y ∈ xs, lqmax y m) → Q (.int m) H
theorem crD_max {X : Cx} (hc : X.calm = true) : CallRK X (.builtin "max") [Str.ofString "default"] (rD_max X.K) := by
  intro pins s σ H vs zs us ws Q I r rz hh
  obtain ⟨a, xs, d, rfl, rfl, hs, q0, q⟩ := hh
  obtain rfl := Vals.ref1 r
  obtain ⟨w1, rfl, e1⟩ := vals1 rz
  obtain ⟨its, rv, hl, _⟩ := I.list hs
  have l := rv.length
  rw [List.length_map] at l
  have hl := hl.isList
  have lt : a < s.heap.objs.size := by obtain ⟨_, e, _⟩ := hl; exact Heap.lt_size e
  show wpAny _ _ (call (.builtin "max") [.ref a] [("default", w1)]) _ _ _
  apply callD_max; apply wpAny_pyIter_list hl
  refine ⟨_, _, _, _, _, _, _, rfl, Walks.list (A := X.A.in1) (I.ok.hd hc) _ a (Nat.ne_of_lt lt) its.toArray, ⟨⟨_, Heap.get?_push_size _ rfl, rfl, rfl⟩, hl.push _⟩, fun b hb => ?_, CmpOf.ints_gt (fun i => xs.getD i 0) (fun _ _ e => int_at rv e), fun n0 v h1 t1 pv keep => ?_, fun n0 h1 t1 keep => ?_⟩
  · show b < (s.heap.push _).objs.size
    rw [Heap.size_push]
    rcases List.mem_cons.mp hb with rfl | hb
    · exact Nat.lt_succ_self _
    · rw [List.mem_singleton.mp hb]; exact Nat.lt_succ_of_lt lt
  · obtain ⟨t, rfl⟩ := int_at rv pv
    obtain ⟨b1, b2⟩ := best_max (fun i => xs.getD i 0) (its.toArray.size - 1)
    rw [List.size_toArray] at b1 b2 n0
    refine ⟨.int (xs.getD (argBest (fun i j => decide (xs.getD i 0 > xs.getD j 0)) (its.length - 1)) 0), H, I.kept (t' := t1) fun b o e => ?_, ⟨t, rfl⟩, q _ ?_ fun y hy => ?_⟩
    · exact keep b o (fun z => by rw [List.mem_singleton.mp z] at e; exact absurd (Heap.lt_size e) (Nat.lt_irrefl _)) (Heap.get?_push_of_some _ e)
    · rw [List.getD_eq_getElem?_getD, List.getElem?_eq_getElem (by omega)]; exact List.getElem_mem _
    · obtain ⟨j, hj, rfl⟩ := List.mem_iff_getElem.mp hy
      have g := b2 j (by omega)
      have ej : xs.getD j 0 = xs[j] := by rw [List.getD_eq_getElem?_getD, List.getElem?_eq_getElem hj]; rfl
      rw [ej] at g; exact g
  · refine ⟨d, H, I.kept (t' := t1) fun b o e => ?_, e1, q0 (List.length_eq_zero_iff.mp (by rw [List.size_toArray] at n0; omega))⟩
    exact keep b o (fun z => by rw [List.mem_singleton.mp z] at e; exact absurd (Heap.lt_size e) (Nat.lt_irrefl _)) (Heap.get?_push_of_some _ e)
def maxL : List Int → Int
  | [] => 0
  | [x] => x
  | x :: y :: xs => max x (maxL (y :: xs))
theorem maxL_is : ∀ {xs : List Int} {m : Int}, m ∈ xs → (∀ y ∈ xs, lqmax y m) → maxL xs = m
  | [], _, h, _ => by cases h
  | [x], m, h, _ => (List.mem_singleton.mp h).symm
  | x :: y :: xs, m, h, g => by
    show max x (maxL (y :: xs)) = m
    have gx : lqmax x m := g x List.mem_cons_self
    have gt : ∀ z ∈ y :: xs, lqmax z m := fun z hz => g z (List.mem_cons_of_mem _ hz)
    simp only [lqmax] at gx
    by_cases hm : m ∈ y :: xs
    · rw [maxL_is hm gt]; omega
    · rcases List.mem_cons.mp h with rfl | h
      · have : ∀ (ys : List Int), ys ≠ [] → (∀ z ∈ ys, lqmax z m) → lqmax (maxL ys) m := by
          intro ys
          induction ys with
          | nil => intro z; exact absurd rfl z
          | cons a ys ih =>
            intro _ k
            cases ys with
            | nil => exact k a List.mem_cons_self
            | cons b ys =>
              have i1 := ih (by simp) fun z hz => k z (List.mem_cons_of_mem _ hz)
              have i2 := k a List.mem_cons_self
              simp only [lqmax] at i1 i2 ⊢
              show _ ≤ _
              simp only [maxL]; omega
        have i1 := this (y :: xs) (by simp) gt
        simp only [lqmax] at i1; omega
      · exact absurd h hm

def omaxD (dd : D) : OC := fun ds => match ds with
  | [.list xs] => (intsOf xs).map fun is => if is = [] then dd else .int (maxL is)
  | _ => none
theorem rcD_max {K : PySem.W.Frag} {c : V} {dd : D} (hd : ∀ G, Dq K G c dd) : RC K (fun vs H Q => rD_max K vs [c] H Q) (omaxD dd) := fun {G H vs ds z Q} s p e k => by
  unfold omaxD at e
  split at e
  · rename_i xs
    obtain ⟨is, e1, rfl⟩ := Option.map_eq_some_iff.mp e
    cases p with
    | cons a b =>
      cases b
      rw [intsOf_is e1] at a
      obtain ⟨x, us, rfl, h1, h2⟩ := a.list s
      rw [dq_ints h2] at h1
      refine ⟨x, is, c, rfl, rfl, h1, fun z => ?_, fun m a1 a2 => ?_⟩
      · subst z; exact k _ G H (.refl s) (hd _)
      · have ne : is ≠ [] := fun z => by subst z; cases a1
        rw [if_neg ne, maxL_is a1 a2] at k
        exact k _ G H (.refl s) (.int _)
  · cases e

section
variable {R : Result → Shared → Prop} {St : Nat → Heap → Prop} {P : Nat → Value → Prop} {prog : Program} {w : World} {A : Around} {I : Addr} {fp wr : List Addr} {n : Nat}
end
section
variable {w : World} {prog : Program} {A : Around} {E : Value → Shared → Prop} {s : Shared}
end
section
variable {K : PySem.W.Frag} {bor : List Nat} {r : List V → List V → Hp → VK → Prop} {o : OC} {ta : TA} {c : V}
theorem lp_cbK {f : FA} (h : LMs K bor ta f) (hr : RC K (fun vs H Q => r vs [c] H Q) o) : LP K bor (tCKw r ta (tCons (tC c) tNil)) (fCB o f) := lp_cb (r := fun vs H Q => r vs [c] H Q) h hr
end
end TN
set_option Elab.async false
set_option linter.all false
set_option maxRecDepth 100000
set_option maxHeartbeats 2000000
set_option autoImplicit false
namespace TN
open PySem PySem.Spec PyProof.Rows L2
def oD (j : Nat) (ρ : List Sl) : Option (List (Key × D)) := match ρ[j]? with
  | some (.od kvs) => some kvs
  | _ => none
theorem oD_some {j : Nat} {ρ : List Sl} {kvs : List (Key × D)} (h : oD j ρ = some kvs) : ρ[j]? = some (.od kvs) := by
  unfold oD at h
  split at h
  · rename_i e; injection h with h; rw [← h]; exact e
  · cases h
def valD (kvs : List (Key × D)) (k : Key) : Option D := (kvs.find? fun kv => decide (kv.1 = k)).map (·.2)
def putD (kvs : List (Key × D)) (k : Key) (d : D) : List (Key × D) :=
  if (kvs.any fun kv => decide (kv.1 = k)) = true then kvs.map (fun kv => if kv.1 = k then (kv.1, d) else kv) else kvs ++ [(k, d)]
section
variable {K : PySem.W.Frag} {bor : List Nat} {te ti tx : TE} {A B : TDE} {f g h : FE}
theorem ksq_len {G : Hp} : ∀ {ks : List (Key × V)} {kvs : List (Key × D)}, KsQ K G ks kvs → ks.length = kvs.length
  | _, _, .nil => rfl
  | _, _, .cons _ b => congrArg (· + 1) (ksq_len b)
theorem ksq_val {G : Hp} {k : Key} : ∀ {ks : List (Key × V)} {kvs : List (Key × D)}, KsQ K G ks kvs → (valD kvs k = none ∧ valV ks k = none) ∨ ∃ d v, valD kvs k = some d ∧ valV ks k = some v ∧ Dq K G v d
  | _, _, .nil => .inl ⟨rfl, rfl⟩
  | _, _, @KsQ.cons _ _ k' v d ks kvs a b => by
    by_cases e : k' = k
    · exact .inr ⟨d, v, by simp [valD, List.find?_cons, e], valV_pos e, a⟩
    · have h1 : valD ((k', d) :: kvs) k = valD kvs k := by simp [valD, List.find?_cons, e]
      have h2 : valV ((k', v) :: ks) k = valV ks k := valV_neg e
      rw [h1, h2]; exact ksq_val b
theorem ksq_any {G : Hp} {k : Key} : ∀ {ks : List (Key × V)} {kvs : List (Key × D)}, KsQ K G ks kvs → (ks.any fun kv => decide (kv.1 = k)) = kvs.any fun kv => decide (kv.1 = k)
  | _, _, .nil => rfl
  | _, _, .cons _ b => by simp only [List.any_cons, ksq_any b]
theorem ksq_map {G : Hp} {k : Key} {v : V} {d : D} (p : Dq K G v d) : ∀ {ks : List (Key × V)} {kvs : List (Key × D)}, KsQ K G ks kvs → KsQ K G (ks.map fun kv => if kv.1 = k then (kv.1, v) else kv) (kvs.map fun kv => if kv.1 = k then (kv.1, d) else kv)
  | _, _, .nil => .nil
  | _, _, @KsQ.cons _ _ k' v' d' ks kvs a b => by
    simp only [List.map_cons]
    by_cases e : k' = k
    · rw [if_pos e, if_pos e]; exact .cons p (ksq_map p b)
    · rw [if_neg e, if_neg e]; exact .cons a (ksq_map p b)
theorem ksq_app {G : Hp} {k : Key} {v : V} {d : D} (p : Dq K G v d) : ∀ {ks : List (Key × V)} {kvs : List (Key × D)}, KsQ K G ks kvs → KsQ K G (ks ++ [(k, v)]) (kvs ++ [(k, d)])
  | _, _, .nil => .cons p .nil
  | _, _, .cons a b => .cons a (ksq_app p b)
theorem ksq_put {G : Hp} {k : Key} {v : V} {d : D} {ks : List (Key × V)} {kvs : List (Key × D)} (q : KsQ K G ks kvs) (p : Dq K G v d) : KsQ K G (putK ks k v) (putD kvs k d) := by
  unfold putK putD
  rw [ksq_any q]
  split
  · exact ksq_map p q
  · exact ksq_app p q
theorem key_at {G : Hp} {w : V} {ky : Key} (p : Dq K G w (keyD ky)) : w = kV ky := by
  cases ky with
  | inl i => cases p; rfl
  | inr x => cases p; rfl

def sDNew (i : Nat) : TDS := fun E ρ => E.nx (ρ.set i (.od []))
theorem ls_dnew {i : Nat} (hi : i ∉ bor) : LS K bor (tAsg tDNewK (gName i)) (sDNew i) := fun {c G σ H ρ E D} hc R q l => fun p hp => by
  have g := grow_own (o := .dK []) R.sub hp
  exact l.nx g.g ((R.grow g).storeD (fun a z => hi (hc ▸ R.bs _ _ z)) (mineO_new R hp) .nil) q

def sPutD (j : Nat) (A B : TDE) : TDS := fun E ρ => A ρ fun d ρ1 => (oD j ρ1).isSome = true ∧ B ρ1 fun e ρ2 => ∃ kvs k, oD j ρ2 = some kvs ∧ keyK e = some k ∧ kvs.length < 100000 ∧ E.nx (ρ2.set j (.od (putD kvs k d)))
theorem ls_dput {j : Nat} (h : LE K bor te A) (hi : LE K bor ti B) : LS K bor (sDPut (tVar j) ti te) (sPutD j A B) := fun {c G σ H ρ E D} hc R q l =>
  h hc R q fun v H1 G1 ρ1 d s1 R1 p1 ⟨q0, q1⟩ => by
    obtain ⟨kvs0, h0⟩ := Option.isSome_iff_exists.mp q0
    obtain ⟨a, ks0, e1, _⟩ := R1.odAt (oD_some h0)
    refine ⟨_, e1, hi hc R1 q1 fun w H2 G2 ρ2 i s2 R2 p2 ⟨kvs, k, f1, f2, f3, q2⟩ => ?_⟩
    have ei := keyK_is f2
    subst ei
    have ew := key_at p2
    subst ew
    obtain ⟨b, ks, e2, e3, e4, e5, e6⟩ := R2.odAt (oD_some f1)
    cases refI e1 e2
    exact ⟨a, _, rfl, DPut.k e3 (by rw [ksq_len e4]; exact Nat.lt_of_lt_of_le f3 (by decide)), l.nx (s1.trans s2) (R2.changeD (oD_some f1) e1 (ksq_put e4 (dpS s2 p1))) q2⟩
theorem key_dpM {G H : Hp} {w : V} {ky : Key} (p : DpM K G H w (keyD ky)) : w = kV ky := by
  cases ky with
  | inl i => exact p.int
  | inr x => exact p.str

def fGetO (j : Nat) (g : FE) : FE := fun ρ => match oD j ρ, g ρ with
  | some kvs, some e => (keyK e).bind fun k => valD kvs k
  | _, _ => none
def fGetO2 (j : Nat) (g h : FE) : FE := fun ρ => match oD j ρ, g ρ, h ρ with
  | some kvs, some e, some z => (keyK e).map fun k => (valD kvs k).getD z
  | _, _, _ => none
def fInO (j : Nat) (g : FE) : FE := fun ρ => match oD j ρ, g ρ with
  | some kvs, some e => (keyK e).map fun k => .bool (valD kvs k).isSome
  | _, _ => none
def fNinO (j : Nat) (g : FE) : FE := fun ρ => match oD j ρ, g ρ with
  | some kvs, some e => (keyK e).map fun k => .bool (!(valD kvs k).isSome)
  | _, _ => none
theorem ksq_dqks {G : Hp} : ∀ {ks : List (Key × V)} {kvs : List (Key × D)}, KsQ K G ks kvs → DqKs K G ks (dctD kvs)
  | _, _, .nil => .nil
  | _, _, .cons a b => .cons a (ksq_dqks b)
theorem Rel.freezeD {c : C0} {G : Hp} {σ : L2.St} {H : Hp} {ρ : List Sl} (R : Rel K c G σ H ρ) {i : Nat} {kvs : List (Key × D)} (h : ρ[i]? = some (.od kvs)) (hB : ∀ a, (i, a) ∉ c.B) :
    ∃ a ks, σ[i]? = some (some (.ref a)) ∧ H a = some (.dK ks) ∧ ∀ u, ∃ G', Same G G' ∧ Rel K c G' σ (upd H a (.frz u (.dK ks))) (ρ.set i (.sh (.dict (dctD kvs)))) ∧ Dq K G' (.ref a) (.dict (dctD kvs)) := by
  obtain ⟨a, ks, e1, e2, e3, e4, h0⟩ := R.odAt h
  refine ⟨a, ks, e1, e2, fun u => ?_⟩
  obtain ⟨R0, m0⟩ := (R.drop h e1 hB).pokeO (u := .frz u (.dK ks)) (p := a) (o := .dK ks) ⟨e2, e4, h0, R.others h e1⟩
  obtain ⟨s1, R1⟩ := R0.keep m0
  have dp : Dq K (upd G a (.frz u (.dK ks))) (.ref a) (.dict (dctD kvs)) := .dct upd_same (ksq_dqks (ksS s1 e3))
  have R2 := R1.store (i := i) hB dp
  rw [set_back e1, List.set_set] at R2
  exact ⟨_, s1, R2, dp⟩

def dVarD (i : Nat) : TDE := fun ρ Q => ∃ kvs, oD i ρ = some kvs ∧ Q (.dict (dctD kvs)) (ρ.set i (.sh (.dict (dctD kvs))))
theorem le_varD {i : Nat} (hi : i ∉ bor) : LE K bor (tFrz (tVar i)) (dVarD i) := fun {c G σ H ρ Qd Q} hc R ⟨kvs, h, q⟩ k => by
  obtain ⟨a, ks, e1, e2, h1⟩ := Rel.freezeD R (oD_some h) fun a z => hi (hc ▸ R.bs _ _ z)
  refine ⟨.ref a, e1, a, ks, rfl, e2, fun u => ?_⟩
  obtain ⟨G', s1, R1, p⟩ := h1 u
  exact k _ _ G' _ _ s1 R1 p q
end
end TN
set_option Elab.async false
set_option linter.all false
set_option maxRecDepth 100000
set_option maxHeartbeats 2000000
set_option autoImplicit false
namespace TN
open PySem PySem.Spec PyProof.Rows L2
section
variable {K : PySem.W.Frag} {bor : List Nat} {te ti tx : TE} {ts : TS} {A B : TDE} {f g h : FE}
def sLock (j : Nat) (S : TDS) : TDS := fun E ρ => ∃ kvs, oD j ρ = some kvs ∧ ∀ a u ks, S { nx := fun ρ1 => ρ1[j]? = some (.lk a u ks kvs) ∧ E.nx (ρ1.set j (.od kvs)), rt := fun _ _ => False } (ρ.set j (.lk a u ks kvs))
theorem ls_lock {j : Nat} {S : TDS} (h : LS K bor ts S) : LS K bor (tLock ts) (sLock j S) := fun {c G σ H ρ E D} hc R ⟨kvs, h0, q⟩ l => by
  obtain ⟨a, ks, e1, e2, e3, e4, e5⟩ := R.odAt (oD_some h0)
  refine ⟨a, .dK ks, e2, trivial, fun od => ?_⟩
  refine h hc (R.lock od (oD_some h0) e1 e2) (q a od ks) ⟨fun {G' σ' H' ρ'} s R' ⟨at1, q1⟩ => ?_, fun _ _ _ z => z.elim, fun _ _ z => z.elim, fun _ _ z => z.elim⟩
  obtain ⟨f1, R2⟩ := R'.unlock at1
  exact ⟨f1, l.nx s R2 q1⟩

def kD (j : Nat) (ρ : List Sl) : Option (List (Key × D)) := match ρ[j]? with
  | some (.od kvs) => some kvs
  | some (.lk _ _ _ kvs) => some kvs
  | _ => none
theorem kd_at {c : C0} {G : Hp} {σ : L2.St} {H : Hp} {ρ : List Sl} {j : Nat} {kvs : List (Key × D)} (R : Rel K c G σ H ρ) (e : kD j ρ = some kvs) : ∃ a ks, σ[j]? = some (some (.ref a)) ∧ Rd H a (.dK ks) ∧ KsQ K G ks kvs := by
  unfold kD at e
  split at e
  · rename_i h; injection e with e; subst e
    obtain ⟨a, ks, e1, e2, e3, _⟩ := R.odAt h
    exact ⟨a, ks, e1, .inl e2, e3⟩
  · rename_i a u ks _ h; injection e with e; subst e
    obtain ⟨e1, e2, e3, _⟩ := R.lkAt h
    exact ⟨a, ks, e1, .inr ⟨u, e2⟩, e3⟩
  · cases e
def fGetK (j : Nat) (g : FE) : FE := fun ρ => match kD j ρ, g ρ with
  | some kvs, some e => (keyK e).bind fun k => valD kvs k
  | _, _ => none
theorem lp_dgetK {j : Nat} (h2 : LM K bor ti g) : LP K bor (tDGet (tVar j) ti) (fGetK j g) := fun {c G σ H ρ d Q} hc R e k => by
  unfold fGetK at e
  split at e
  · rename_i kvs e0 h0 h1
    obtain ⟨ky, e3, e4⟩ := Option.bind_eq_some_iff.mp e
    have ei := keyK_is e3
    subst ei
    obtain ⟨a, ks, f1, f2, f3⟩ := kd_at R h0
    refine ⟨_, f1, h2 hc R h1 fun w G2 H2 g2 p2 => ?_⟩
    have ew := key_dpM p2
    subst ew
    rcases ksq_val (k := ky) f3 with ⟨z, _⟩ | ⟨d', v, v0, v1, v2⟩
    · rw [e4] at z; cases z
    · rw [e4] at v0; injection v0 with v0; subst v0
      refine ⟨a, v, rfl, .inl ⟨ks, ky, f2.imp (g2.h _ _) (fun ⟨u, z⟩ => ⟨u, g2.h _ _ z⟩), rfl, v1.symm⟩, k v G2 H2 g2 (dpS g2.g v2)⟩
  · cases e
end
end TN
set_option Elab.async false
set_option linter.all false
set_option maxRecDepth 100000
set_option maxHeartbeats 1000000
set_option autoImplicit false
namespace TN
open PySem PySem.Spec PyProof.Rows L2 RT RZ
section
variable {K : PySem.W.Frag} {bor : List Nat} {te : TE} {A : TDE} {P P1 : PIt}
def compT2 (tg : TDG) (vs : List Nat) (C : TDT) (T1 : TDI) (tg1 : TDG) (vs1 : List Nat) (C1 : TDT) (A : TDE) (Q : List D → List Sl → Prop) : List D → List D → List Sl → Prop
  | [], acc, ρ => Q acc ρ
  | d :: ds, acc, ρ => (vs.all fun v => plainAt v ρ) = true ∧ tg d (wipeD ρ vs) fun ρ0 => C ρ0 fun b ρ1 =>
      (b = true → T1 ρ1 fun es ρ2 => compT tg1 vs1 C1 A (fun acc' ρ3 => compT2 tg vs C T1 tg1 vs1 C1 A Q ds acc' (backD ρ ρ3 vs)) es acc ρ2) ∧ (b = false → compT2 tg vs C T1 tg1 vs1 C1 A Q ds acc (backD ρ ρ1 vs))
def dCompI2 (T : TDI) (tg : TDG) (vs : List Nat) (C : TDT) (T1 : TDI) (tg1 : TDG) (vs1 : List Nat) (C1 : TDT) (A : TDE) : TDL := fun ρ Q => T ρ fun ds ρ1 => compT2 tg vs C T1 tg1 vs1 C1 A Q ds [] ρ1
end
section
variable {K : PySem.W.Frag} {bor : List Nat}
end
end TN
set_option Elab.async false
set_option linter.all false
set_option maxRecDepth 100000
set_option maxHeartbeats 2000000
set_option autoImplicit false
namespace TN
open PySem PySem.Spec PyProof.Rows L2
section
variable {prog : Program} {w : World} {A : Around} {E : Value → Shared → Prop} {s : Shared}
end
section
variable {X : Cx} {K : PySem.W.Frag} {bor : List Nat} {te ta tb : TE} {f g : FE} {A B : TDE}
def dLAddE (A B : TDE) : TDL := fun ρ Q => A ρ fun d ρ1 => B ρ1 fun e ρ2 => ∃ xs ys, d = .list xs ∧ e = .list ys ∧ xs.length + ys.length ≤ 100000 ∧ Q (xs ++ ys) ρ2
end
end TN
set_option Elab.async false
set_option linter.all false
set_option maxRecDepth 100000
set_option maxHeartbeats 2000000
set_option autoImplicit false
namespace TN
open PySem PySem.Spec PyProof.Rows L2
theorem GPair.run {t h : List Str} (gp : GPair t h) {es : List Ev} (ok : ∀ e ∈ es, e.ok t) : GPair (runT t es).1 (runH h es).1 := by
  have p1 := (runT_ok es t ok).1
  have p2 := (runH_ok es h fun e he => Ev.ok_perm gp.pm (ok e he)).1
  exact ⟨gp.gt.perm p1, gp.gh.perm p2, p1.trans (gp.pm.trans p2.symm)⟩

section
variable {t h : List Str} {f : Str → Str}
def Ev.pn : Ev → Bool
  | .place _ | .name _ => true
  | _ => false
end
end TN
set_option Elab.async false
set_option linter.all false
set_option maxRecDepth 100000
set_option maxHeartbeats 2000000
set_option autoImplicit false
namespace TN
open PySem PySem.Spec PyProof.Rows L2 RT RZ
section
variable {K : PySem.W.Frag} {bor : List Nat} {te ta : TE} {A : TDE} {P : PIt}
theorem dq_key {G : Hp} (k : Key) : Dq K G (kV k) (keyD k) := by
  cases k with
  | inl i => exact .int i
  | inr x => exact .str x
theorem ks_ix {G : Hp} : ∀ {ks : List (Key × V)} {kvs : List (D × D)} {i : Nat} {k : Key} {v : V}, DqKs K G ks kvs → ks[i]? = some (k, v) → ∃ d, kvs[i]? = some (keyD k, d) ∧ Dq K G v d
  | _, _, _, _, _, .nil, e => by cases e
  | _, _, 0, _, _, .cons a b, e => by
    injection e with e; injection e with e1 e2; subst e1 e2
    exact ⟨_, rfl, a⟩
  | _, _, i + 1, _, _, .cons a b, e => ks_ix b (i := i) e
theorem ks_length {G : Hp} : ∀ {ks : List (Key × V)} {kvs : List (D × D)}, DqKs K G ks kvs → ks.length = kvs.length
  | _, _, .nil => rfl
  | _, _, .cons _ b => congrArg (· + 1) (ks_length b)
theorem itok_keys {G : Hp} {a : Addr} {u : Obj} {ks : List (Key × V)} {kvs : List (D × D)} (h : G a = some (.frz u (.dK ks))) (p : DqKs K G ks kvs) : ItOk Pd K G (Itk a u ks) (kvs.map (·.1)) := by
  refine ⟨_, _, by rw [List.length_map, ← ks_length p]; exact walk_keys, fun H s => s _ _ h, fun i H x H' G2 hi s1 s2 y => ?_⟩
  obtain ⟨rfl, k, v, e, rfl⟩ := y
  obtain ⟨d, e1, _⟩ := ks_ix p e
  exact ⟨G2, keyD k, by rw [List.getElem?_map, e1]; rfl, .refl s2, dq_key k⟩
def iK (A : TDE) : TDI := fun ρ Q => A ρ fun d ρ1 => ∃ kvs, d = .dict kvs ∧ Q (kvs.map (·.1)) ρ1
def iV (A : TDE) : TDI := fun ρ Q => A ρ fun d ρ1 => ∃ kvs, d = .dict kvs ∧ Q (kvs.map (·.2)) ρ1
theorem li_keys (h : LE K bor te A) : LI Pd K bor (iKeys te) (iK A) := fun {c G σ H ρ Qd R} hc Rl q k => h hc Rl q fun v H1 G1 ρ1 d s1 R1 p1 ⟨kvs, e, q1⟩ => by
  subst e
  cases p1 with
  | @dct a u ks _ h1 h2 => exact ⟨a, u, rfl, .inl ⟨ks, R1.sub _ _ h1, k _ H1 G1 ρ1 _ s1 R1 (itok_keys h1 h2) q1⟩⟩
theorem ksq_ix {G : Hp} : ∀ {ks : List (Key × V)} {kvs : List (Key × D)} {i : Nat} {k : Key} {v : V}, KsQ K G ks kvs → ks[i]? = some (k, v) → ∃ d, kvs[i]? = some (k, d) ∧ Dq K G v d
  | _, _, _, _, _, .nil, e => by cases e
  | _, _, 0, _, _, .cons a b, e => by
    injection e with e; injection e with e1 e2; subst e1 e2
    exact ⟨_, rfl, a⟩
  | _, _, i + 1, _, _, .cons a b, e => ksq_ix b (i := i) e
def keysK (kvs : List (Key × D)) : List D := kvs.map fun kv => keyD kv.1

def compK (l : Sl) (j : Nat) (tg : TDG) (vs : List Nat) (C : TDT) (A : TDE) (Q : List D → List Sl → Prop) : List D → List D → List Sl → Prop
  | [], acc, ρ => ρ[j]? = some l ∧ Q acc ρ
  | d :: ds, acc, ρ => ρ[j]? = some l ∧ (vs.all fun v => plainAt v ρ) = true ∧ tg d (wipeD ρ vs) fun ρ0 => C ρ0 fun b ρ1 =>
      (b = true → A ρ1 fun y ρ2 => acc.length < 100000 ∧ compK l j tg vs C A Q ds (acc ++ [y]) (backD ρ ρ2 vs)) ∧ (b = false → compK l j tg vs C A Q ds acc (backD ρ ρ1 vs))
theorem compK_T {l : Sl} {j : Nat} {tg : TDG} {vs : List Nat} {C : TDT} {A : TDE} {Q : List D → List Sl → Prop} {d : D} {ds acc : List D} {ρ : List Sl} (h : compK l j tg vs C A Q (d :: ds) acc ρ) : compT tg vs C A (fun acc' ρ' => compK l j tg vs C A Q ds acc' ρ') [d] acc ρ := h.2
def dCompK (j : Nat) (tg : TDG) (vs : List Nat) (C : TDT) (A : TDE) : TDL := fun ρ Q => ∃ a u ks kvs, ρ[j]? = some (.lk a u ks kvs) ∧ compK (.lk a u ks kvs) j tg vs C A Q (keysK kvs) [] ρ
theorem ll_compK {j : Nat} {tt : TT} {C : TDT} {g : TG} {tg : TDG} {vs : List Nat} (hg : LGc Pd K bor vs g tg) (hv : ∀ v ∈ vs, v ∉ bor) (ht : LT K bor tt C) (he : LE K bor te A) : LL K bor (tLc (iKeys (tVar j)) g tt te vs) (dCompK j tg vs C A) :=
  fun {c G σ H ρ Qd Q} hc R ⟨a, u, ks, kvs, h0, q⟩ k => by
    obtain ⟨e1, e2, e3, e4, e5⟩ := R.lkAt h0
    have el := ksq_len e3
    refine ⟨.ref a, e1, a, u, rfl, .inl ⟨ks, e2, fun L hL => ?_⟩⟩
    have m0 := mine_new (vs := []) R hL
    have R0 := R.grow (grow_own (o := .lst []) R.sub hL)
    refine lc_it (walk_keys (d := a) (o := u) (kvs := ks)) (fun i H' => ∃ G' ρ' acc ws, Same G G' ∧ Rel K c G' σ H' ρ' ∧ Mine c G' σ H' ρ' L ws ∧ DqAll K G' ws acc ∧ compK (.lk a u ks kvs) j tg vs C A Qd ((keysK kvs).drop i) acc ρ') ⟨G, ρ, [], [], Same.refl _, R0, m0, .nil, q⟩ ?_ ?_ ?_
    · rintro i H' _ ⟨G', ρ', acc, ws, s, R', _, _, q'⟩
      have at1 : ρ'[j]? = some (.lk a u ks kvs) := by
        cases e : (keysK kvs).drop i with
        | nil => rw [e] at q'; exact q'.1
        | cons d ds => rw [e] at q'; exact q'.1
      exact (R'.lkAt at1).2.1
    · rintro i x H' H'' hi2 ⟨G', ρ', acc, ws, s, R', m', pa, q'⟩ y
      obtain ⟨rfl, ky, v, ey, rfl⟩ := y
      obtain ⟨d, f1, _⟩ := ksq_ix e3 ey
      have hi3 : i < (keysK kvs).length := by unfold keysK; rw [List.length_map, ← el]; exact hi2
      have gd : (keysK kvs)[i] = keyD ky := by
        simp only [keysK, List.getElem_map]
        have := (List.getElem?_eq_some_iff.mp f1).2
        rw [this]
      have ed : (keysK kvs).drop i = keyD ky :: (keysK kvs).drop (i + 1) := by
        rw [List.drop_eq_getElem_cons hi3, gd]
      rw [ed] at q'
      exact compT_turn (P := Pd) hc hg hv ht he R' m' pa (dq_key ky) (compK_T q') fun G2 H2 ρ2 acc2 ws2 s2 R2 m2 pa2 q2 => ⟨G2, ρ2, acc2, ws2, s.trans s2, R2, m2, pa2, q2⟩
    · rintro H' ⟨G', ρ', acc, ws, s, R', m', pa, q'⟩
      rw [el, List.drop_of_length_le (by unfold keysK; rw [List.length_map]; exact Nat.le_refl _)] at q'
      exact k L ws H' G' ρ' acc s R' m' pa q'.2

end
end TN
set_option Elab.async false
set_option linter.all false
set_option maxRecDepth 100000
set_option maxHeartbeats 1000000
set_option autoImplicit false
namespace TN
open PySem PySem.Spec PyProof.Rows L2
section
variable {K : PySem.W.Frag} {bor : List Nat} {te : TE} {A : TDL} {R : TDP}
def pNew (A : TDL) (R : TDP) : TDP := fun ρ Q => A ρ fun xs ρ1 => R ρ1 fun ps ρ2 => Q (.ow xs :: ps) ρ2
end
open RT RZ
def iLorT (K : PySem.W.Frag) (tl : TE) : TI := fun σ H R => tl σ H fun x H1 => ∃ a, x = .ref a ∧ (((∃ xs, SqL K H1 a xs) ∧ R (Itl K a) H1) ∨ ((∃ xs, SqT K H1 a xs) ∧ R (Itt K a) H1))
section
variable {X : Cx} {tg : Expr}
theorem pi_lt {l : Expr} {tl : TE} (hl : PE X l tl) : PI X tg l (iLorT X.K tl) := by
  refine ⟨fun pins s σ H R I h => ?_⟩
  refine thn (hl.run pins s σ H _ I h) fun v s1 ⟨x, H1, I1, r1, q1⟩ => ?_
  obtain ⟨a, e, ⟨⟨xs, hq⟩, q⟩ | ⟨⟨xs, hq⟩, q⟩⟩ := q1
  · subst e
    cases r1
    obtain ⟨its, rv, p, hz⟩ := I1.list hq
    refine wpAny_pyIter_list p.isList ?_
    refine ⟨s1.heap.objs.size, [s1.heap.objs.size], _, _, H1, rfl, I1.kept (t' := s1.toks) fun b o e => Heap.get?_push_of_some _ e, turn_list a _, ⟨_, Heap.get?_push_size _ rfl, rfl, rfl⟩, fun b hb => ?_, q⟩
    have e : b = s1.heap.objs.size := by simpa using hb
    subst e
    exact I1.fpOk (Nat.le_refl _) (I1.hok.fresh (Nat.le_refl _))
  · subst e
    cases r1
    obtain ⟨its, rv, p, hz⟩ := I1.tuple hq
    refine wpAny_pyIter_tuple (show s1.heap.IsTuple a its.toArray from p) ?_
    refine ⟨s1.heap.objs.size, [s1.heap.objs.size], _, _, H1, rfl, I1.kept (t' := s1.toks) fun b o e => Heap.get?_push_of_some _ e, turn_tuple a _, ⟨_, Heap.get?_push_size _ rfl, rfl, rfl⟩, fun b hb => ?_, q⟩
    have e : b = s1.heap.objs.size := by simpa using hb
    subst e
    exact I1.fpOk (Nat.le_refl _) (I1.hok.fresh (Nat.le_refl _))
end
section
variable {K : PySem.W.Frag} {bor : List Nat} {te : TE} {A : TDE}
def iLT (A : TDE) : TDI := fun ρ Q => A ρ fun d ρ1 => ∃ ds, (d = .list ds ∨ d = .tuple ds) ∧ Q ds ρ1
theorem li_lt (h : LE K bor te A) : LI Pd K bor (iLorT K te) (iLT A) := fun {c G σ H ρ Qd R} hc Rl q k => h hc Rl q fun v H1 G1 ρ1 d s1 R1 p1 ⟨ds, e, q1⟩ => by
  rcases e with e | e
  · subst e
    cases p1 with
    | @lst a xs _ h1 h2 => exact ⟨a, rfl, .inl ⟨⟨xs, rdL (rdS R1.sub h1)⟩, k _ H1 G1 ρ1 ds s1 R1 (itok_list h1 h2) q1⟩⟩
  · subst e
    cases p1 with
    | @tup a xs _ h1 h2 => exact ⟨a, rfl, .inr ⟨⟨xs, (tupS R1.sub h1).sq⟩, k _ H1 G1 ρ1 ds s1 R1 (itok_tup h1 h2) q1⟩⟩
end
end TN
set_option Elab.async false
set_option linter.all false
set_option maxRecDepth 100000
set_option maxHeartbeats 2000000
set_option autoImplicit false
namespace TN
open PySem PySem.Spec PyProof.Rows L2
end TN
set_option Elab.async false
set_option linter.all false
set_option maxRecDepth 100000
set_option maxHeartbeats 2000000
set_option autoImplicit false
namespace TN
open PySem PySem.Spec PyProof.Rows L2
theorem getD_mem {w : List Str} {i : Nat} (h : i < w.length) : w.getD i "" ∈ w := by
  rw [getD_of h]; exact List.getElem_mem _
theorem getD_inj {w : List Str} (nd : w.Nodup) {i j : Nat} (hi : i < w.length) (hj : j < w.length) (e : w.getD i "" = w.getD j "") : i = j := getD_nd nd hi hj e

end TN
set_option Elab.async false
set_option linter.all false
set_option maxRecDepth 100000
set_option maxHeartbeats 2000000
set_option autoImplicit false
namespace TN
open PySem PySem.Spec PyProof.Rows L2
theorem decV_all : ∀ {zs : List Str} {us : List Value}, Vals (zs.map V.str) us → us.map decV = zs
  | [], _, h => by cases h; rfl
  | z :: zs, _, h => by
    rw [List.map_cons] at h
    cases h with
    | cons r t =>
      obtain ⟨k, rfl⟩ := r
      rw [List.map_cons, decV_all t]; rfl
theorem decT_tx {h : Heap} {v : Value} {zs : List Str} (t : IsTx h v zs) : decT h v = zs := by
  obtain ⟨a, o, its, n, rfl, h1, h2, h3, r⟩ := t
  show (match h.get? a with
    | some o => match o.data with
      | .seq its _ => its.toList.map decV
      | _ => []
    | none => []) = _
  rw [h1]
  simp only [h3]
  exact decV_all r
section
variable {X : Cx}
theorem pairs_back {s : Shared} {H : Hp} {σ : L2.St} {pins : List (Addr × Obj)} (I : Inv X pins σ H s) : ∀ {ps : List (V × List Str)} {its : List Value}, Vals (ps.map (·.1)) its → (∀ p ∈ ps, (∃ t, p.1 = V.ref t ∧ SqT X.K H t (p.2.map V.str)) ∧ p.2 ≠ []) →
    ps = its.map (fun v => (backV v, decT s.heap v)) ∧ ∀ v ∈ its, (∃ a, v = Value.ref a) ∧ IsTx s.heap v (decT s.heap v) ∧ decT s.heap v ≠ []
  | [], _, r, _ => by cases r; exact ⟨rfl, fun _ h => by cases h⟩
  | (x, zs) :: ps, _, r, h => by
    rw [List.map_cons] at r
    cases r with
    | @cons _ v _ its rx rt =>
      obtain ⟨i1, i2⟩ := pairs_back I rt fun p hp => h p (List.mem_cons_of_mem _ hp)
      obtain ⟨⟨t, e, ht⟩, ne⟩ := h (x, zs) List.mem_cons_self
      have e : x = .ref t := e
      subst e
      obtain rfl : v = Value.ref t := rx
      obtain ⟨its2, r2, ⟨o, h1, h2, h3⟩, _⟩ := I.tuple ht
      obtain ⟨n, h4⟩ : ∃ n, o.data = .seq its2.toArray n := h3
      have tx : IsTx s.heap (.ref t) zs := ⟨t, o, its2.toArray, n, rfl, h1, h2, h4, r2⟩
      have ed := decT_tx tx
      refine ⟨by rw [List.map_cons, ed, ← i1]; rfl, fun u hu => ?_⟩
      rcases List.mem_cons.mp hu with rfl | hu
      · rw [ed]; exact ⟨⟨t, rfl⟩, tx, ne⟩
      · exact i2 u hu
end
def leT (x y : List Str) : Bool := !ltT y x
def sortT (rs : List (List Str)) : List (List Str) := rs.mergeSort leT
theorem leT_iff {x y : List Str} : leT x y = true ↔ ltT y x = false := by unfold leT; simp
theorem leT_trans (x y z : List Str) (h1 : leT x y = true) (h2 : leT y z = true) : leT x z = true := leT_iff.mpr (ltT_no_trans (leT_iff.mp h1) (leT_iff.mp h2))
theorem leT_total (x y : List Str) : (leT x y || leT y x) = true := by
  unfold leT
  cases h : ltT y x with
  | false => rfl
  | true => rw [ltT_asym h]; rfl
theorem leT_anti {x y : List Str} (h1 : leT x y = true) (h2 : leT y x = true) : x = y := ltT_tri (leT_iff.mp h2) (leT_iff.mp h1)
theorem sortT_perm (rs : List (List Str)) : (sortT rs).Perm rs := List.mergeSort_perm rs leT
def tupsOf : List D → Option (List (List Str))
  | [] => some []
  | .tuple ys :: ds => match strsOf ys, tupsOf ds with
    | some (z :: zs), some rs => some ((z :: zs) :: rs)
    | _, _ => none
  | _ :: _ => none
theorem tupsOf_map : ∀ {rs : List (List Str)}, (∀ r ∈ rs, r ≠ []) → tupsOf (rs.map tupL) = some rs
  | [], _ => rfl
  | [] :: rs, h => absurd rfl (h [] List.mem_cons_self)
  | (z :: zs) :: rs, h => by
    show (match strsOf ((z :: zs).map PyData.str), tupsOf (rs.map tupL) with
      | some (z :: zs), some rs => some ((z :: zs) :: rs)
      | _, _ => none) = _
    rw [strs_strs, tupsOf_map fun r hr => h r (List.mem_cons_of_mem _ hr)]
theorem tups_dq {K : PySem.W.Frag} {G H : Hp} (s : Same G H) : ∀ {ds : List D} {vs : List V} {rs : List (List Str)}, DqAll K G vs ds → tupsOf ds = some rs → ∃ ps : List (V × List Str), vs = ps.map (·.1) ∧ rs = ps.map (·.2) ∧ ∀ p ∈ ps, ((∃ t, p.1 = V.ref t ∧ SqT K H t (p.2.map V.str)) ∧ p.2 ≠ []) ∧ Dq K G p.1 (tupL p.2)
  | [], _, rs, h, e => by
    cases h
    injection e with e; subst e
    exact ⟨[], rfl, rfl, fun _ h => by cases h⟩
  | d :: ds, _, rs, h, e => by
    cases d with
    | tuple ys =>
      unfold tupsOf at e
      split at e
      · rename_i z zs rs' e1 e2
        injection e with e; subst e
        cases h with
        | @cons v vs _ _ a b =>
          obtain ⟨ps, f1, f2, f3⟩ := tups_dq s b e2
          have ey := strsOf_is e1
          subst ey
          refine ⟨(v, z :: zs) :: ps, by rw [List.map_cons, ← f1], by rw [List.map_cons, ← f2], fun p hp => ?_⟩
          rcases List.mem_cons.mp hp with rfl | hp
          · refine ⟨⟨?_, by simp⟩, a⟩
            cases a with
            | @tup a xs _ h1 h2 =>
              rw [dq_strs h2] at h1
              exact ⟨a, rfl, (tupS s h1).sq⟩
          · exact f3 p hp
      · cases e
    | _ => cases e
end TN
set_option Elab.async false
set_option linter.all false
set_option maxRecDepth 100000
set_option maxHeartbeats 2000000
set_option autoImplicit false
namespace TN
open PySem PySem.Spec PyProof.Rows L2
structure RgOk (t : List Str) (R : List (List Str)) : Prop where
  two : ∀ r ∈ R, 2 ≤ r.length
  nd : R.flatten.Nodup
  sub : ∀ x ∈ R.flatten, x ∈ t
theorem RgOk.apart {t : List Str} {R : List (List Str)} (g : RgOk t R) : R.Pairwise fun r s => ∀ x ∈ r, x ∉ s := by
  have := g.nd
  unfold List.Nodup at this
  rw [List.pairwise_flatten] at this
  refine this.2.imp ?_
  intro r s h x hx hy
  exact h x hx x hy rfl
theorem RgOk.each {t : List Str} {R : List (List Str)} (g : RgOk t R) : ∀ r ∈ R, r.Nodup := by
  have := g.nd
  unfold List.Nodup at this
  rw [List.pairwise_flatten] at this
  exact this.1
theorem RgOk.perm {t u : List Str} {R : List (List Str)} (g : RgOk t R) (p : u.Perm t) : RgOk u R := ⟨g.two, g.nd, fun x hx => p.mem_iff.mpr (g.sub x hx)⟩
end TN
set_option Elab.async false
set_option linter.all false
set_option maxRecDepth 100000
set_option maxHeartbeats 2000000
set_option autoImplicit false
namespace TN
open PySem PySem.Spec PyProof.Rows L2 RT RZ
structure RgCan (t : List Str) (R : List (List Str)) : Prop where
  ok : RgOk t R
  min : ∀ r ∈ R, minS r = r.head?
  srt : sortT R = R
theorem RgOk.few {t : List Str} {R : List (List Str)} (g : RgOk t R) (gt : GRow t) : R.flatten.length ≤ 16 := Nat.le_trans (nodup_le g.nd g.sub) gt.few
theorem RgOk.many {t : List Str} {R : List (List Str)} (g : RgOk t R) (gt : GRow t) : R.length ≤ 16 := by
  have h := g.few gt
  have : ∀ R : List (List Str), (∀ r ∈ R, 2 ≤ r.length) → R.length ≤ R.flatten.length := by
    intro R
    induction R with
    | nil => intro _; exact Nat.zero_le _
    | cons r R ih =>
      intro h
      have h1 := h r List.mem_cons_self
      have h2 := ih fun s hs => h s (List.mem_cons_of_mem _ hs)
      rw [List.flatten_cons, List.length_append, List.length_cons]; omega
  have := this R g.two
  omega
end TN
namespace TN
open PySem PySem.Spec PyProof.Rows L2
end TN
set_option Elab.async false
set_option linter.all false
set_option maxRecDepth 100000
set_option maxHeartbeats 2000000
set_option autoImplicit false
namespace TN
open PySem PySem.Spec PyProof.Rows L2
section
variable {prog : Program} {w : World} {A : Around} {E : Value → Shared → Prop} {s : Shared}
end
section
variable {prog : Program} {w : World} {A : Around} {R : Result → Shared → Prop} {I : Addr} {fp wr : List Addr} {n : Nat} {P : Nat → Value → Prop} {St : Nat → Heap → Prop}
def SumAt (h0 : Heap) (b0 : Addr) (h : Heap) (T : Addr) (its : List Value) : Prop := (T = b0 ∧ its = [] ∧ h.IsList b0 #[]) ∨ (h0.objs.size ≤ T ∧ ∃ c, h.get? T = some { cls := .type "list", data := .seq its.toArray c })
theorem SumAt.isList {h0 h : Heap} {b0 T : Addr} {its : List Value} (H : SumAt h0 b0 h T its) : h.IsList T its.toArray := by
  rcases H with ⟨rfl, rfl, e⟩ | ⟨_, c, e⟩
  · exact e
  · exact ⟨_, e, rfl, _, rfl⟩
theorem SumAt.kept {h0 h h' : Heap} {b0 T : Addr} {its : List Value} (H : SumAt h0 b0 h T its) (k : ∀ o, h.get? T = some o → h'.get? T = some o) : SumAt h0 b0 h' T its := by
  rcases H with ⟨rfl, rfl, o, e, r⟩ | ⟨h1, c, e⟩
  · exact .inl ⟨rfl, rfl, o, k o e, r⟩
  · exact .inr ⟨h1, c, k _ e⟩
end
section
variable {prog : Program} {w : World} {A : Around} {E : Value → Shared → Prop} {s : Shared}
end
section
variable {X : Cx}
end
section
variable {K : PySem.W.Frag} {bor : List Nat} {ta : TA} {r : List V → Hp → VK → Prop} {o : OC}
end
end TN
set_option Elab.async false
set_option linter.all false
set_option maxRecDepth 100000
set_option maxHeartbeats 2000000
set_option autoImplicit false
namespace TN
open PySem PySem.Spec PyProof.Rows L2
theorem ltT_heads {a b : Str} {l m : List Str} (h : leS a b = true) (ne : a ≠ b) : ltT (b :: m) (a :: l) = false := by
  show (if b = a then ltT m l else decide (b.cps.toList < a.cps.toList)) = false
  rw [if_neg (Ne.symm ne)]
  unfold leS at h
  simpa using h
end TN
set_option Elab.async false
set_option linter.all false
set_option maxRecDepth 100000
set_option maxHeartbeats 2000000
set_option autoImplicit false
namespace TN
open PySem PySem.Spec PyProof.Rows L2
structure WP (P : List (Str × Str)) : Prop where
  k : (P.map (·.1)).Nodup
  v : (P.map (·.2)).Nodup
  s : ∀ x ∈ P.map (·.2), x ∈ P.map (·.1)
end TN
set_option Elab.async false
set_option linter.all false
set_option maxRecDepth 100000
set_option maxHeartbeats 2000000
set_option autoImplicit false
namespace TN
open PySem PySem.Spec PyProof.Rows L2
def nextR (r : List Str) (x : Str) : Str := if x ∈ r then r.getD ((ixS x r + 1) % r.length) "" else x
theorem nextR_out {r : List Str} {x : Str} (h : x ∉ r) : nextR r x = x := if_neg h
theorem nextR_at {r : List Str} {j : Nat} (nd : r.Nodup) (h : j < r.length) : nextR r (r.getD j "") = r.getD ((j + 1) % r.length) "" := by
  unfold nextR
  rw [if_pos (getD_mem h)]
  unfold ixS
  rw [idx_getD nd h]
section
variable {t : List Str} {a b : Nat}
theorem rev_get {r : List Str} {j : Nat} (h : j < r.length) : r.reverse.getD j "" = r.getD (r.length - 1 - j) "" := by
  rw [getD_of (by rw [List.length_reverse]; exact h), getD_of (by omega), List.getElem_reverse]
end
def leastAt (r : List Str) : Nat := ixS ((minS r).getD "") r
def begun (r : List Str) : List Str := if r.length < 2 then [] else r.drop (leastAt r) ++ r.take (leastAt r)
theorem begun_get {r : List Str} {k j : Nat} (hk : k < r.length) (hj : j < r.length) : (r.drop k ++ r.take k).getD j "" = r.getD ((k + j) % r.length) "" := by
  have l : (r.drop k ++ r.take k).length = r.length := by simp; omega
  rw [getD_of (by omega)]
  by_cases c : k + j < r.length
  · rw [Nat.mod_eq_of_lt c, getD_of c, List.getElem_append_left (by rw [List.length_drop]; omega), List.getElem_drop]
  · have e : (k + j) % r.length = k + j - r.length := by
      rw [Nat.mod_eq_sub_mod (by omega), Nat.mod_eq_of_lt (by omega)]
    rw [e, getD_of (by omega), List.getElem_append_right (by rw [List.length_drop]; omega), List.getElem_take]
    congr 1; rw [List.length_drop]; omega
theorem rot_next {r : List Str} {k : Nat} (nd : r.Nodup) (hk : k < r.length) (x : Str) : nextR (r.drop k ++ r.take k) x = nextR r x := by
  have pm : (r.drop k ++ r.take k).Perm r := List.perm_append_comm.trans (List.Perm.of_eq (List.take_append_drop k r))
  by_cases hx : x ∈ r
  · obtain ⟨j, hj, rfl⟩ := List.mem_iff_getElem.mp (pm.mem_iff.mpr hx)
    rw [← getD_of (x := ("" : Str)) hj, nextR_at (pm.nodup_iff.mpr nd) hj]
    rw [pm.length_eq] at hj ⊢
    have h0 : 0 < r.length := by omega
    rw [begun_get hk hj, nextR_at nd (Nat.mod_lt _ h0), begun_get hk (Nat.mod_lt _ h0)]
    congr 1
    rw [Nat.add_mod_mod, Nat.mod_add_mod, Nat.add_assoc]
  · rw [nextR_out hx, nextR_out fun z => hx (pm.mem_iff.mp z)]
theorem leastAt_lt {r : List Str} (h : 0 < r.length) : leastAt r < r.length := by
  unfold leastAt
  have : ∃ m, minS r = some m := by
    unfold minS
    have := (sortS_perm r).length_eq
    cases e : sortS r with
    | nil => rw [e] at this; simp at this; omega
    | cons a b => exact ⟨a, rfl⟩
  obtain ⟨m, e⟩ := this
  rw [e]
  exact idx_lt (minS_mem e).1
theorem begun_next {r : List Str} (nd : r.Nodup) (x : Str) : nextR (begun r) x = nextR r x := by
  unfold begun
  split
  · rename_i h
    rw [nextR_out (by simp)]
    match r, h with
    | [], _ => exact (nextR_out (by simp)).symm
    | [y], _ =>
      unfold nextR
      split
      · rename_i hx
        rw [List.mem_singleton] at hx
        subst hx
        show x = [x].getD ((ixS x [x] + 1) % 1) ""
        rw [Nat.mod_one]; rfl
      · rfl
  · rename_i h
    exact rot_next nd (leastAt_lt (by omega)) x

theorem RG.congr {ks : List Str} {f f' : Str → Str} (g : RG ks f) (h : ∀ x ∈ ks, f x = f' x) : RG ks f' :=
  ⟨g.ne, g.few, g.nd, g.isl, fun x hx => by rw [← h x hx]; exact g.mem x hx, fun x hx y hy e => g.inj x hx y hy (by rw [h x hx, h y hy]; exact e)⟩

theorem least_min {r : List Str} (ne : r ≠ []) : ∃ m, minS r = some m ∧ m ∈ r ∧ ixS m r = leastAt r := by
  have : ∃ m, minS r = some m := by
    unfold minS
    have := (sortS_perm r).length_eq
    cases e : sortS r with
    | nil => rw [e] at this; exact absurd (List.length_eq_zero_iff.mp this.symm) ne
    | cons a b => exact ⟨a, rfl⟩
  obtain ⟨m, e⟩ := this
  exact ⟨m, e, (minS_mem e).1, by unfold leastAt; rw [e]; rfl⟩

theorem oIn_tupF {x : Str} {r : List Str} : oIn false (.str x) (tupL r) = some (.bool (decide (x ∈ r))) := by
  show (((strsOf (r.map PyData.str)).map fun ys => decide (x ∈ ys)).or _).map _ = _
  rw [strsOf_map]; rfl
end TN
set_option Elab.async false
set_option linter.all false
set_option maxRecDepth 100000
set_option maxHeartbeats 2000000
set_option autoImplicit false
namespace TN
open PySem PySem.Spec PyProof.Rows L2
def swapS (a b x : Str) : Str := if x = a then b else if x = b then a else x
theorem swap_comm (a b x : Str) : swapS a b x = swapS b a x := by
  unfold swapS
  by_cases h1 : x = a
  · by_cases h2 : x = b
    · rw [if_pos h1, if_pos h2, ← h1, ← h2]
    · rw [if_pos h1, if_neg h2, if_pos h1]
  · by_cases h2 : x = b
    · rw [if_neg h1, if_pos h2, if_pos h2]
    · rw [if_neg h1, if_neg h2, if_neg h2, if_neg h1]
theorem swap_out {a b x : Str} (h1 : x ≠ a) (h2 : x ≠ b) : swapS a b x = x := by unfold swapS; rw [if_neg h1, if_neg h2]
theorem swap_l (a b : Str) : swapS a b a = b := if_pos rfl
theorem swap_r (a b : Str) : swapS a b b = a := by rw [swap_comm]; exact if_pos rfl
theorem swap_swap (a b x : Str) : swapS a b (swapS a b x) = x := by
  by_cases h1 : x = a
  · subst h1; rw [swap_l, swap_r]
  · by_cases h2 : x = b
    · subst h2; rw [swap_r, swap_l]
    · rw [swap_out h1 h2, swap_out h1 h2]
theorem RG.swap {ks : List Str} {f : Str → Str} (g : RG ks f) {a b : Str} (ha : a ∈ ks) (hb : b ∈ ks) : RG ks fun x => f (swapS a b x) := by
  have m : ∀ x ∈ ks, swapS a b x ∈ ks := fun x hx => by
    unfold swapS
    split
    · exact hb
    · split
      · exact ha
      · exact hx
  refine ⟨g.ne, g.few, g.nd, g.isl, fun x hx => g.mem _ (m x hx), fun x hx y hy e => ?_⟩
  have := g.inj _ (m x hx) _ (m y hy) e
  rw [← swap_swap a b x, this, swap_swap]
theorem next_cons {a b : Str} {r : List Str} (nd : (a :: b :: r).Nodup) (x : Str) : nextR (a :: b :: r) x = swapS a b (nextR (b :: r) x) := by
  obtain ⟨ha, nb⟩ := List.nodup_cons.mp nd
  by_cases hx : x ∈ b :: r
  · obtain ⟨j, hj, rfl⟩ := List.mem_iff_getElem.mp hx
    have e0 : (b :: r)[j] = (a :: b :: r).getD (j + 1) "" := by rw [getD_of (by simp at hj ⊢; omega)]; rfl
    have e1 : (b :: r)[j] = (b :: r).getD j "" := (getD_of hj).symm
    have l2 : (a :: b :: r).length = (b :: r).length + 1 := rfl
    have lhs := nextR_at nd (j := j + 1) (by rw [l2]; omega)
    rw [← e0] at lhs
    have rhs := nextR_at nb hj
    rw [← e1] at rhs
    rw [lhs, rhs, l2]
    by_cases c : j + 1 = (b :: r).length
    · rw [c, Nat.mod_self, Nat.mod_self]
      show a = swapS a b b
      rw [swap_r]
    · rw [Nat.mod_eq_of_lt (by omega), Nat.mod_eq_of_lt (by omega)]
      show (b :: r).getD (j + 1) "" = _
      have hm : (b :: r).getD (j + 1) "" ∈ b :: r := getD_mem (by omega)
      rw [swap_out (fun z => ha (by rw [← z]; exact hm)) fun z => ?_]
      have := getD_inj nb (i := j + 1) (j := 0) (by omega) (by omega) z
      omega
  · by_cases h : x = a
    · subst h
      rw [nextR_out hx, swap_l]
      have := nextR_at nd (j := 0) (by simp)
      rw [show (0 + 1) % (x :: b :: r).length = 1 from Nat.mod_eq_of_lt (by simp)] at this
      exact this
    · rw [nextR_out hx, nextR_out (by simp only [List.mem_cons] at hx ⊢; intro z; rcases z with z | z; exact h z; exact hx z), swap_out h fun z => hx (by rw [z]; exact List.mem_cons_self)]
theorem RG.next {ks : List Str} {f : Str → Str} (g : RG ks f) : ∀ (r : List Str), r.Nodup → (∀ x ∈ r, x ∈ ks) → RG ks fun x => f (nextR r x)
  | [], _, _ => g.congr fun x _ => by rw [nextR_out (by simp)]
  | [a], nd, _ => g.congr fun x _ => by
    have := begun_next (r := [a]) nd x
    rw [← this]
    show f x = f (nextR [] x)
    rw [nextR_out (by simp)]
  | a :: b :: r, nd, sub => by
    obtain ⟨na, nb⟩ := List.nodup_cons.mp nd
    exact (RG.next (g.swap (sub a List.mem_cons_self) (sub b (by simp))) (b :: r) nb fun x hx => sub x (List.mem_cons_of_mem _ hx)).congr fun x _ => by rw [next_cons nd]
theorem RG.id {ks : List Str} {f : Str → Str} (g : RG ks f) : RG ks fun x => x := ⟨g.ne, g.few, g.nd, g.isl, fun x hx => hx, fun x _ y _ e => e⟩
end TN
set_option Elab.async false
set_option linter.all false
set_option maxRecDepth 100000
set_option maxHeartbeats 2000000
set_option autoImplicit false
namespace TN
open PySem PySem.Spec PyProof.Rows L2
theorem kv_at {κ : Type} : ∀ {ks : List (κ × V)} {vs : List (κ × Value)} {xs : List Int}, KV ks vs → ks.map (·.2) = xs.map V.int → ∀ {i : Nat} {v : Value}, (∃ k, vs[i]? = some (k, v)) → ∃ t, v = .int (xs.getD i 0) t
  | _, _, xs, .nil, _, i, v, ⟨k, e⟩ => by simp at e
  | (k0, w) :: ks, (k1, u) :: vs, xs, .cons ⟨_, r⟩ t, h, i, v, ⟨k, e⟩ => by
    cases xs with
    | nil => cases h
    | cons x xs =>
      rw [List.map_cons, List.map_cons] at h
      injection h with h1 h2
      have h1 : w = V.int x := h1
      subst h1
      cases i with
      | zero =>
        injection e with e
        injection e with e1 e2
        obtain ⟨t, rfl⟩ : ∃ t, u = .int x t := r
        exact ⟨t, e2.symm⟩
      | succ i => exact kv_at t h2 (i := i) ⟨k, e⟩
def tMaxV (td : TE) : TE := fun σ H Q => td σ H fun v H1 => ∃ (a : Addr) (u : Obj) (ks : List (Key × V)) (xs : List Int), v = .ref a ∧ H1 a = some (.frz u (.dK ks)) ∧ ks.map (·.2) = xs.map V.int ∧ xs ≠ [] ∧ ∀ m, m ∈ xs → (∀ y ∈ xs, lqmax y m) → Q (.int m) H1
section
variable {X : Cx} {e : Expr} {td : TE} {p pos cpos apos : Pos}
theorem pe_maxVals (hc : X.calm = true) (hg : Gl X "max") (hm : X.mg "max" = none) (he : PE X e td) (hbase : attributeBase e "values" X.env (eval e X.env) = eval e X.env := by rfl) (hline : (apos.endLine == cpos.line) = true := by rfl)
    (hs0 : starEach [.Call (.Attribute e "values" apos) [] [] cpos] X.env = (false, eval (.Call (.Attribute e "values" apos) [] [] cpos) X.env) :: starEach [] X.env := by rfl) (hpl0 : (backTo pos (starEach [] X.env)).any (·.1) = false := by rfl) :
    PE X (.Call (.Name "max" p) [.Call (.Attribute e "values" apos) [] [] cpos] [] pos) (tMaxV td) := by
  refine ⟨fun pins s σ H Q I h => ?_⟩
  refine wpAny_Call_Name_kw (ld_blt I hg hm PyProof.Rows.boot_max ?_)
  refine PyProof.Rows.callWith_builtin1 ?_ hs0 hpl0
  rw [hs0]
  refine Calls.spliced_cons ?_
  refine wpAny_Call_method (T := "dict") (id := "dict.values") hbase rfl hline F.plainAttrs_dict F.slot_dict_values F.type_dict_values (thn (he.run pins s σ H _ I h) fun u s1 ⟨x, H1, I1, rx, d, o, kvs, xs, ex, hd, exs, nx, q⟩ => ?_)
  subst ex
  obtain rfl : u = Value.ref d := rx
  obtain ⟨hs, hgd, hx, es, ep, vs, hdt, hsz, kv, hm⟩ := I1.frzK hd
  have hl : kvs.length = vs.length := Paired.length kv
  refine ⟨hm.dictOf.typeIs, hm.dictOf.mapOf.noDict, ?_⟩
  show wpAny _ _ (callWith cpos (.builtin "dict.values") [.ref d] [] []) _ X.xe s1
  refine method_meetsIn F.slot_dict_values F.entry_dict_values rfl (PySem.evalArgs_none ⟨rfl, hm.dictOf.typeIs, F.args_dict_values_1 _, _, meets_dict_values (mixKind X.prog X.w) d hs, ⟨vs, hm.dictOf⟩, ?_⟩)
  show wpAny _ _ (spliced []) _ _ _
  refine Calls.spliced_nil ?_
  have lx : xs.length = vs.length := by
    have e0 := congrArg List.length exs
    rw [List.length_map, List.length_map] at e0
    rw [← e0, hl]
  have n0 : 0 < vs.length := by rw [← lx]; exact List.length_pos_iff.mpr nx
  have hm2 := hm.push (o := { cls := .type "dict_values", data := .fields #[.ref d] })
  apply call_max_walk
  refine wpAny_pyIter_values (d := d) (knd := mixKind X.prog X.w) ⟨_, Heap.get?_push_size _ rfl, rfl, rfl⟩ hm2 ?_
  refine ⟨_, _, _, _, _, _, fun i j => decide (xs.getD i 0 > xs.getD j 0), rfl, Walks.dictValues (A := X.A.in1) (knd := mixKind X.prog X.w) (I1.ok.hd hc) _ d (Nat.ne_of_lt hm2.lt_size) vs ep, ⟨⟨_, Heap.get?_push_size _ rfl, rfl, rfl⟩, hm2.push _⟩, fun b hb => ?_, n0, CmpOf.ints_gt (fun i => xs.getD i 0) (fun i v e => kv_at kv exs e), fun v h1 t1 pv keep => ?_⟩
  · simp only [List.mem_cons, List.not_mem_nil, or_false] at hb
    rcases hb with rfl | rfl
    · exact Nat.lt_of_lt_of_eq (Nat.lt_succ_self _) (Heap.size_push ..).symm
    · exact Nat.lt_trans hm2.lt_size (Nat.lt_of_lt_of_eq (Nat.lt_succ_self _) (Heap.size_push ..).symm)
  · obtain ⟨t, rfl⟩ := kv_at kv exs pv
    obtain ⟨b1, b2⟩ := best_max (fun i => xs.getD i 0) (vs.length - 1)
    refine ⟨.int (xs.getD (argBest (fun i j => decide (xs.getD i 0 > xs.getD j 0)) (vs.length - 1)) 0), H1, I1.kept (t' := t1) fun b o e => ?_, ⟨t, rfl⟩, q _ ?_ fun y hy => ?_⟩
    · exact keep b o (fun z => by
        rw [List.mem_singleton.mp z] at e
        have := Heap.lt_size e
        rw [Heap.size_push] at this
        exact absurd (Nat.lt_trans (Nat.lt_succ_self _) this) (Nat.lt_irrefl _)) (Heap.get?_push_of_some _ (Heap.get?_push_of_some _ e))
    · rw [List.getD_eq_getElem?_getD, List.getElem?_eq_getElem (by omega)]; exact List.getElem_mem _
    · obtain ⟨j, hj, rfl⟩ := List.mem_iff_getElem.mp hy
      have g := b2 j (by omega)
      have ej : xs.getD j 0 = xs[j] := by rw [List.getD_eq_getElem?_getD, List.getElem?_eq_getElem hj]; rfl
      rw [ej] at g; exact g
end
section
variable {K : PySem.W.Frag} {bor : List Nat} {te : TE} {A : TDE}
def dMaxV (A : TDE) : TDE := fun ρ Q => A ρ fun d ρ1 => ∃ (kvs : List (D × D)) (xs : List Int), d = .dict kvs ∧ kvs.map (·.2) = xs.map PyData.int ∧ xs ≠ [] ∧ Q (.int (maxL xs)) ρ1
theorem ks_ints {G : Hp} : ∀ {ks : List (Key × V)} {kvs : List (D × D)} {xs : List Int}, DqKs K G ks kvs → kvs.map (·.2) = xs.map PyData.int → ks.map (·.2) = xs.map V.int
  | _, _, xs, .nil, h => by
    cases xs with
    | nil => rfl
    | cons x xs => cases h
  | _, _, xs, .cons a b, h => by
    cases xs with
    | nil => cases h
    | cons x xs =>
      rw [List.map_cons, List.map_cons] at h ⊢
      injection h with h1 h2
      subst h1
      cases a
      exact congrArg (V.int x :: ·) (ks_ints b h2)
theorem le_maxV (h : LE K bor te A) : LE K bor (tMaxV te) (dMaxV A) := fun {c G σ H ρ Qd Q} hc R q k =>
  h hc R q fun v H1 G1 ρ1 d s1 R1 p1 ⟨kvs, xs, e, eV1, nx, q1⟩ => by
    subst e
    cases p1 with
    | @dct a u ks _ h1 h2 =>
      refine ⟨a, u, ks, xs, rfl, R1.sub _ _ h1, ks_ints h2 eV1, nx, fun m hm hy => ?_⟩
      rw [maxL_is hm hy] at q1
      exact k _ H1 G1 ρ1 _ s1 R1 (.int _) q1
end
end TN
set_option Elab.async false
set_option linter.all false
set_option maxRecDepth 100000
set_option maxHeartbeats 2000000
set_option autoImplicit false
namespace TN
open PySem PySem.Spec PyProof.Rows L2
theorem compK_fil {α : Type} {l : Sl} {j jv : Nat} {C : TDT} {A : TDE} {Q : List D → List Sl → Prop} {ρ0 : List Sl} (e o : α → D) (p : α → Bool) (I : α → Prop) (lk : ρ0[j]? = some l)
    (own : ([jv].all fun v => plainAt v ρ0) = true) (back : ∀ d, backD ρ0 ((wipeD ρ0 [jv]).set jv (.sh d)) [jv] = ρ0)
    (test : ∀ x (R : Bool → List Sl → Prop), I x → R (p x) ((wipeD ρ0 [jv]).set jv (.sh (e x))) → C ((wipeD ρ0 [jv]).set jv (.sh (e x))) R)
    (turn : ∀ x (R : D → List Sl → Prop), I x → R (o x) ((wipeD ρ0 [jv]).set jv (.sh (e x))) → A ((wipeD ρ0 [jv]).set jv (.sh (e x))) R) :
    ∀ (xs : List α) (acc : List D), (∀ x ∈ xs, I x) → acc.length + xs.length ≤ 100000 → Q (acc ++ (xs.filter p).map o) ρ0 → compK l j (tgN jv) [jv] C A Q (xs.map e) acc ρ0
  | [], acc, _, _, q => by
    refine ⟨lk, ?_⟩
    simpa using q
  | x :: xs, acc, hi, few, q => by
    rw [List.length_cons] at few
    have ix := hi x List.mem_cons_self
    have ir := fun y hy => hi y (List.mem_cons_of_mem x hy)
    refine ⟨lk, own, ?_⟩
    refine test x _ ix ⟨fun hp => turn x _ ix ⟨by omega, ?_⟩, fun hp => ?_⟩
    · rw [back]
      refine compK_fil e o p I lk own back test turn xs (acc ++ [o x]) ir (by rw [List.length_append, List.length_singleton]; omega) ?_
      rw [List.filter_cons_of_pos hp, List.map_cons] at q
      rw [List.append_assoc]; exact q
    · rw [back]
      refine compK_fil e o p I lk own back test turn xs acc ir (by omega) ?_
      rw [List.filter_cons_of_neg (by rw [hp]; exact Bool.false_ne_true)] at q
      exact q

def aheadR (Rs : List (List Str)) (x y : Str) : Bool := Rs.all fun r => decide (ixS x r < ixS y r)
def maxN (ns : List Nat) : Nat := ns.foldr max 0

def lensL (Rs : List (List Str)) : List Str → List (Str × Nat)
  | [] => []
  | x :: tl => lensL Rs tl ++ [(x, 1 + maxN (((lensL Rs tl).filter fun p => aheadR Rs x p.1).map (·.2)))]
abbrev lenK (P : List (Str × Nat)) : List (Key × D) := P.map fun p => (Sum.inr p.1, PyData.int (p.2 : Nat))
abbrev lenD (P : List (Str × Nat)) : D := .dict (dctD (lenK P))
theorem lensL_fst (Rs : List (List Str)) : ∀ r, (lensL Rs r).map (·.1) = r.reverse
  | [] => rfl
  | x :: tl => by
    rw [lensL, List.map_append, lensL_fst Rs tl, List.reverse_cons]; rfl
theorem maxN_ge {ns : List Nat} {n : Nat} (h : n ∈ ns) : n ≤ maxN ns := by
  induction ns with
  | nil => cases h
  | cons a ns ih =>
    show n ≤ max a (maxN ns)
    rcases List.mem_cons.mp h with rfl | h
    · exact Nat.le_max_left _ _
    · exact Nat.le_trans (ih h) (Nat.le_max_right _ _)
theorem maxN_le {ns : List Nat} {m : Nat} (h : ∀ n ∈ ns, n ≤ m) : maxN ns ≤ m := by
  induction ns with
  | nil => exact Nat.zero_le _
  | cons a ns ih => exact Nat.max_le.mpr ⟨h a List.mem_cons_self, ih fun n hn => h n (List.mem_cons_of_mem _ hn)⟩
theorem lensL_le (Rs : List (List Str)) : ∀ r, ∀ p ∈ lensL Rs r, 1 ≤ p.2 ∧ p.2 ≤ r.length
  | [], p, h => by cases h
  | x :: tl, p, h => by
    rcases List.mem_append.mp h with h | h
    · have := lensL_le Rs tl p h
      rw [List.length_cons]; omega
    · rw [List.mem_singleton] at h
      subst h
      have : maxN (((lensL Rs tl).filter fun p => aheadR Rs x p.1).map (·.2)) ≤ tl.length := maxN_le fun n hn => by
        obtain ⟨p, hp, rfl⟩ := List.mem_map.mp hn
        exact (lensL_le Rs tl p (List.mem_filter.mp hp).1).2
      rw [List.length_cons]
      exact ⟨by show 1 ≤ 1 + _; omega, by show 1 + _ ≤ _; omega⟩

structure RowsOk (Rs : List (List Str)) (r0 : List Str) : Prop where
  hd : Rs.head? = some r0
  few : Rs.length ≤ 100
  nd : r0.Nodup
  len : r0.length ≤ 16
  isl : ∀ x ∈ r0, isL x
  all : ∀ r ∈ Rs, r.Perm r0
def semAhead (ds : List D) (Q : Sl → Prop) : Prop := ∃ (Rs : List (List Str)) (r0 : List Str) (x y : Str), (ds = [.tuple (Rs.map tupL), .str x, .str y] ∨ ds = [.list (Rs.map tupL), .str x, .str y]) ∧ RowsOk Rs r0 ∧ x ∈ r0 ∧ y ∈ r0 ∧ Q (.sh (.bool (aheadR Rs x y)))
def semLengths (ds : List D) (Q : Sl → Prop) : Prop := ∃ (Rs : List (List Str)) (r0 : List Str), (ds = [.tuple (Rs.map tupL)] ∨ ds = [.list (Rs.map tupL)]) ∧ RowsOk Rs r0 ∧ Q (.sh (lenD (lensL Rs r0)))
def ofLen (P : List (Str × Nat)) (n : Nat) : List Str := (P.filter fun p => decide (p.2 = n)).map (·.1)
def semOfLen (ds : List D) (Q : Sl → Prop) : Prop := ∃ (P : List (Str × Nat)) (n : Nat), ds = [lenD P, .int n] ∧ (P.map (·.1)).Nodup ∧ P.length ≤ 1000 ∧ Q (.sh (lstL (ofLen P n)))

def keepL (Rs : List (List Str)) (P : List (Str × Nat)) : Nat → Str → List Str
  | 0, _ => []
  | n + 1, x => let y := (minS ((ofLen P (n + 1)).filter fun z => aheadR Rs x z)).getD ""; y :: keepL Rs P n y
def keptL (Rs : List (List Str)) (P : List (Str × Nat)) : List Str := let m := maxN (P.map (·.2)); let x := (minS (ofLen P m)).getD ""; x :: keepL Rs P (m - 1) x

def semLeast (ds : List D) (Q : Sl → Prop) : Prop := ∃ (Rs : List (List Str)) (r0 : List Str), (ds = [.tuple (Rs.map tupL), lenD (lensL Rs r0)] ∨ ds = [.list (Rs.map tupL), lenD (lensL Rs r0)]) ∧ RowsOk Rs r0 ∧ r0 ≠ [] ∧ Q (.sh (tupL (keptL Rs (lensL Rs r0))))
theorem len_look : ∀ {P : List (Str × Nat)} {p : Str × Nat}, (P.map (·.1)).Nodup → p ∈ P → lookD (dctD (lenK P)) (.inr p.1) = some (.int (p.2 : Nat))
  | (x, n) :: P, p, nd, h => by
    rw [List.map_cons, List.nodup_cons] at nd
    show (if keyK (PyData.str x) = some (Sum.inr p.1) then some (PyData.int (n : Nat)) else lookD (dctD (lenK P)) (.inr p.1)) = _
    rcases List.mem_cons.mp h with rfl | h
    · exact if_pos rfl
    · have ne : x ≠ p.1 := fun z => nd.1 (List.mem_map.mpr ⟨p, h, z.symm⟩)
      rw [if_neg fun z => ne (by injection z with z; exact Sum.inr.inj z)]
      exact len_look nd.2 h
theorem len_get {P : List (Str × Nat)} {p : Str × Nat} (nd : (P.map (·.1)).Nodup) (h : p ∈ P) : oGet (lenD P) (.str p.1) = some (.int (p.2 : Nat)) := len_look nd h
theorem len_val : ∀ {P : List (Str × Nat)} {p : Str × Nat}, (P.map (·.1)).Nodup → p ∈ P → valD (lenK P) (.inr p.1) = some (.int (p.2 : Nat))
  | (x, n) :: P, p, nd, h => by
    rw [List.map_cons, List.nodup_cons] at nd
    unfold valD
    show Option.map _ (List.find? _ ((Sum.inr x, PyData.int (n : Nat)) :: lenK P)) = _
    rw [List.find?_cons]
    rcases List.mem_cons.mp h with rfl | h
    · simp
    · have ne : x ≠ p.1 := fun z => nd.1 (List.mem_map.mpr ⟨p, h, z.symm⟩)
      have e : decide ((Sum.inr x : Key) = .inr p.1) = false := decide_eq_false fun z => ne (Sum.inr.inj z)
      rw [e]
      exact len_val nd.2 h
theorem len_put {k : Str} {v : Nat} {P : List (Str × Nat)} (h : k ∉ P.map (·.1)) : putD (lenK P) (.inr k) (.int (v : Nat)) = lenK (P ++ [(k, v)]) := by
  unfold putD
  have e : ((lenK P).any fun kv => decide (kv.1 = (.inr k : Key))) = false := by
    rw [List.any_eq_false]
    intro kv hk
    obtain ⟨y, hy, rfl⟩ := List.mem_map.mp hk
    simp only [decide_eq_true_eq]
    intro z
    exact h (List.mem_map.mpr ⟨y, hy, Sum.inr.inj z⟩)
  rw [e, if_neg Bool.false_ne_true]
  show lenK P ++ [(Sum.inr k, .int (v : Nat))] = lenK (P ++ [(k, v)])
  unfold lenK
  rw [List.map_append]; rfl
theorem maxL_nat : ∀ ns : List Nat, ns ≠ [] → maxL (ns.map fun (n : Nat) => (n : Int)) = (maxN ns : Nat)
  | [], h => absurd rfl h
  | [n], _ => by show (n : Int) = ((max n 0 : Nat) : Int); omega
  | n :: m :: ns, _ => by
    have ih := maxL_nat (m :: ns) (by simp)
    show max (n : Int) (maxL ((m :: ns).map fun (n : Nat) => (n : Int))) = ((max n (maxN (m :: ns)) : Nat) : Int)
    rw [ih]; omega
theorem oMax_nat (ns : List Nat) : omaxD (.int 0) [.list (ns.map fun (n : Nat) => PyData.int n)] = some (.int (maxN ns : Nat)) := by
  have e1 : ∀ ns : List Nat, intsOf (ns.map fun (n : Nat) => PyData.int n) = some (ns.map fun (n : Nat) => (n : Int)) := by
    intro ns
    induction ns with
    | nil => rfl
    | cons n ns ih =>
      show (intsOf (ns.map fun (n : Nat) => PyData.int n)).map _ = _
      rw [ih]; rfl
  show (intsOf _).map _ = _
  rw [e1, Option.map_some]
  cases ns with
  | nil => rfl
  | cons n ns =>
    rw [if_neg (by simp), maxL_nat _ (by simp)]
theorem maxN_in {ns : List Nat} (h : 0 < maxN ns) : maxN ns ∈ ns := by
  induction ns with
  | nil => exact absurd h (Nat.lt_irrefl _)
  | cons a ns ih =>
    have e : maxN (a :: ns) = max a (maxN ns) := rfl
    rw [e] at h ⊢
    by_cases c : maxN ns ≤ a
    · rw [Nat.max_eq_left c]; exact List.mem_cons_self
    · rw [Nat.max_eq_right (by omega)]; exact List.mem_cons_of_mem _ (ih (by omega))
theorem lens_step (Rs : List (List Str)) : ∀ (r : List Str) (p : Str × Nat), p ∈ lensL Rs r → 1 < p.2 → ∃ q ∈ lensL Rs r, q.2 + 1 = p.2 ∧ aheadR Rs p.1 q.1 = true
  | [], p, h, _ => by cases h
  | x :: tl, p, h, h1 => by
    rcases List.mem_append.mp h with h | h
    · obtain ⟨q, hq, h2⟩ := lens_step Rs tl p h h1
      exact ⟨q, List.mem_append_left _ hq, h2⟩
    · rw [List.mem_singleton] at h
      subst h
      have h1 : 1 < 1 + maxN (((lensL Rs tl).filter fun p => aheadR Rs x p.1).map (·.2)) := h1
      obtain ⟨q, hq, e⟩ := List.mem_map.mp (maxN_in (show 0 < maxN (((lensL Rs tl).filter fun p => aheadR Rs x p.1).map (·.2)) by omega))
      obtain ⟨hq1, hq2⟩ := List.mem_filter.mp hq
      exact ⟨q, List.mem_append_left _ hq1, by show q.2 + 1 = 1 + maxN _; rw [e]; omega, hq2⟩
theorem ofLen_mem {P : List (Str × Nat)} {n : Nat} {x : Str} : x ∈ ofLen P n ↔ (x, n) ∈ P := by
  unfold ofLen
  rw [List.mem_map]
  constructor
  · rintro ⟨p, hp, rfl⟩
    obtain ⟨h1, h2⟩ := List.mem_filter.mp hp
    have h2 : p.2 = n := by simpa using h2
    subst h2; exact h1
  · intro h
    exact ⟨(x, n), List.mem_filter.mpr ⟨h, by simp⟩, rfl⟩
theorem min_some {r : List Str} (ne : r ≠ []) : ∃ m, minS r = some m ∧ m ∈ r := by
  obtain ⟨m, h1, h2, _⟩ := least_min ne
  exact ⟨m, h1, h2⟩
abbrev keC : TDT := dB (asBool (f2 (oU (fun i j => decide (i < j)) fun i j => decide (i.cps.toList < j.cps.toList)) (fCB oLen (fCons (fPeek 3) fNil)) (fVar 2)))
abbrev keB : TDS := sSeq (sAsg (dCall semOfLen (dCons (dP (fVar 1)) (dCons (dP (f2 oSub (fVar 2) (fCB oLen (fCons (fPeek 3) fNil)))) dNil))) (tgN 4))
  (sDrop (dAppend 3 (dCB oMinS (dCons (dKeep (dCompL 5 [5] (dP (fVar 4)) (dTest (dCall semAhead (dCons (dP (fVar 0)) (dCons (dP (f2 oIx (fPeek 3) (f1 oNeg (fC (PyData.int 1))))) (dCons (dP (fVar 5)) dNil))))) (dP (fVar 5)))) dNil))))
theorem keep_turns {E : DEnds} {rowsD : D} {Rs : List (List Str)} {r0 : List Str} {P : List (Str × Nat)} {m : Nat} (hr : rowsD = .tuple (Rs.map tupL) ∨ rowsD = .list (Rs.map tupL)) (ro : RowsOk Rs r0) (nd : (P.map (·.1)).Nodup) (few : P.length ≤ 16) (sub : ∀ p ∈ P, p.1 ∈ r0)
    (st : ∀ p ∈ P, 1 < p.2 → ∃ q ∈ P, q.2 + 1 = p.2 ∧ aheadR Rs p.1 q.1 = true) (hm : m ≤ 16) : ∀ (n : Nat) (L : List Str) (x : Str) (b4 : Sl), L.length + 1 + n = m → (x, n + 1) ∈ P →
    (∀ b4, E.nx [.sh rowsD, .sh (lenD P), .sh (.int m), .ow ((L ++ x :: keepL Rs P n x).map PyData.str), b4, .no]) →
    whileD keC keB E (n + 1) [.sh rowsD, .sh (lenD P), .sh (.int m), .ow ((L ++ [x]).map PyData.str), b4, .no] := by
  intro n
  induction n with
  | zero =>
    intro L x b4 hl hx q
    unfold whileD
    (simp only [TN.iK, TN.iV, TN.iLT, TN.pNew, TN.dCallN, TN.dCompI2, TN.dLAddE, TN.oD, TN.sDNew, TN.sPutD, TN.fGetO, TN.fGetO2, TN.fInO, TN.fNinO, TN.dVarD, TN.dExtS, TN.mOwn, TN.dCallM, TN.mVar, TN.sRetV, TN.dAug, TN.dCallNT, TN.dCallNL, TN.fIxTs, TN.sForI, TN.dCompI, TN.dCompL, TN.dCompT, TN.dCompR, TN.iL, TN.iT, TN.iR1, TN.iR2, TN.iR3, TN.iS, TN.iE, TN.iRv, TN.iZ, TN.dKeepT, TN.dCallT, TN.pTup, TN.pCons, TN.pOwn, TN.sAsgT, TN.sRetT, TN.tpL, TN.fIxT, TN.fTp, TN.dAppendT, TN.dReverseT, TN.dClearT, TN.dVarT, TN.dReverse, TN.dClear, TN.dPop, Pt.d, Sl.tp.injEq, TN.startF, TN.dCallV, Sl.fn.injEq, TN.dCallF, TN.dLRev, TN.dLAdd, TN.dLSlP, TN.dLSlice, TN.dSliceE, TN.dNo, TN.dEnd, TN.fNo, TN.sSeq, TN.sNext, TN.sDrop, TN.sRet, TN.sRetL, TN.sRetN, TN.sIf, TN.sAsg, TN.sAsgL, TN.sStore, TN.sForL, TN.sForT, TN.sForR, TN.sForR2, TN.tgN, TN.tgTup, TN.tgCons, TN.tgNil, TN.dP, TN.dB, TN.dCall, TN.dCallL, TN.dCallB, TN.dCallBL, TN.dCons, TN.dNil, TN.dTup, TN.dLst, TN.dKeep, TN.dVar, TN.fVar, TN.fPeek, TN.fC, TN.f2, TN.d2, TN.d2V, TN.f1, TN.d1, TN.fCB, TN.dCB, TN.dCBL, TN.fNil, TN.fCons, TN.asBool, TN.dTest, TN.bAnd, TN.bOr, TN.bNot, TN.dAnd, TN.dOr, TN.dNot, TN.fAndV, TN.fOrV, TN.fNotV, TN.dAndV, TN.dOrV, TN.dNotV, TN.dIfE, TN.dIfL, TN.fIfE, TN.fChain, TN.fSlice, TN.dSlice, TN.fNo, TN.fEnd, TN.dAppend, TN.dInsert, TN.dPopAt, TN.ownL, TN.start0, TN.begB, TN.backD, TN.wipeD, TN.dYes, TN.sNever, List.getElem?_cons_zero, List.getElem?_cons_succ, List.set_cons_zero, List.set_cons_succ, List.map_cons, List.map_nil, List.length_cons, List.length_nil, List.cons_append, List.nil_append, List.replicate_succ, List.replicate_zero, Option.map_some, Option.map_none, Nat.add_one_sub_one, Nat.sub_zero, Nat.sub_self, Nat.zero_add, reduceCtorEq, Option.some.injEq, PyData.int.injEq, PyData.str.injEq, PyData.bool.injEq, PyData.list.injEq, PyData.tuple.injEq, Sl.sh.injEq, Sl.ow.injEq, List.cons.injEq, exists_eq_left', exists_eq_left, true_implies, false_implies, and_true, true_and, forall_const, Option.isSome_some, TN.imp_ff, TN.imp_tf, TN.imp_tt, exists_eq_left, exists_eq_left', exists_eq])
    have ol : oLen [.list ((L ++ [x]).map PyData.str)] = some (.int m) := by
      have := oLen_lstL (r := L ++ [x])
      rw [List.length_append, List.length_singleton] at this
      rw [this]; congr 2; omega
    simp only [ol, oU_int]
    refine ⟨_, rfl, fun z => ?_, fun _ => q _⟩
    simp at z
  | succ n ih =>
    intro L x b4 hl hx q
    unfold whileD
    (simp only [TN.iK, TN.iV, TN.iLT, TN.pNew, TN.dCallN, TN.dCompI2, TN.dLAddE, TN.oD, TN.sDNew, TN.sPutD, TN.fGetO, TN.fGetO2, TN.fInO, TN.fNinO, TN.dVarD, TN.dExtS, TN.mOwn, TN.dCallM, TN.mVar, TN.sRetV, TN.dAug, TN.dCallNT, TN.dCallNL, TN.fIxTs, TN.sForI, TN.dCompI, TN.dCompL, TN.dCompT, TN.dCompR, TN.iL, TN.iT, TN.iR1, TN.iR2, TN.iR3, TN.iS, TN.iE, TN.iRv, TN.iZ, TN.dKeepT, TN.dCallT, TN.pTup, TN.pCons, TN.pOwn, TN.sAsgT, TN.sRetT, TN.tpL, TN.fIxT, TN.fTp, TN.dAppendT, TN.dReverseT, TN.dClearT, TN.dVarT, TN.dReverse, TN.dClear, TN.dPop, Pt.d, Sl.tp.injEq, TN.startF, TN.dCallV, Sl.fn.injEq, TN.dCallF, TN.dLRev, TN.dLAdd, TN.dLSlP, TN.dLSlice, TN.dSliceE, TN.dNo, TN.dEnd, TN.fNo, TN.sSeq, TN.sNext, TN.sDrop, TN.sRet, TN.sRetL, TN.sRetN, TN.sIf, TN.sAsg, TN.sAsgL, TN.sStore, TN.sForL, TN.sForT, TN.sForR, TN.sForR2, TN.tgN, TN.tgTup, TN.tgCons, TN.tgNil, TN.dP, TN.dB, TN.dCall, TN.dCallL, TN.dCallB, TN.dCallBL, TN.dCons, TN.dNil, TN.dTup, TN.dLst, TN.dKeep, TN.dVar, TN.fVar, TN.fPeek, TN.fC, TN.f2, TN.d2, TN.d2V, TN.f1, TN.d1, TN.fCB, TN.dCB, TN.dCBL, TN.fNil, TN.fCons, TN.asBool, TN.dTest, TN.bAnd, TN.bOr, TN.bNot, TN.dAnd, TN.dOr, TN.dNot, TN.fAndV, TN.fOrV, TN.fNotV, TN.dAndV, TN.dOrV, TN.dNotV, TN.dIfE, TN.dIfL, TN.fIfE, TN.fChain, TN.fSlice, TN.dSlice, TN.fNo, TN.fEnd, TN.dAppend, TN.dInsert, TN.dPopAt, TN.ownL, TN.start0, TN.begB, TN.backD, TN.wipeD, TN.dYes, TN.sNever, List.getElem?_cons_zero, List.getElem?_cons_succ, List.set_cons_zero, List.set_cons_succ, List.map_cons, List.map_nil, List.length_cons, List.length_nil, List.cons_append, List.nil_append, List.replicate_succ, List.replicate_zero, Option.map_some, Option.map_none, Nat.add_one_sub_one, Nat.sub_zero, Nat.sub_self, Nat.zero_add, reduceCtorEq, Option.some.injEq, PyData.int.injEq, PyData.str.injEq, PyData.bool.injEq, PyData.list.injEq, PyData.tuple.injEq, Sl.sh.injEq, Sl.ow.injEq, List.cons.injEq, exists_eq_left', exists_eq_left, true_implies, false_implies, and_true, true_and, forall_const, Option.isSome_some, TN.imp_ff, TN.imp_tf, TN.imp_tt, exists_eq_left, exists_eq_left', exists_eq])
    have ol : oLen [.list ((L ++ [x]).map PyData.str)] = some (.int (L.length + 1 : Nat)) := by
      have := oLen_lstL (r := L ++ [x])
      rw [List.length_append, List.length_singleton] at this
      rw [this]
    have lt : decide (((L.length + 1 : Nat) : Int) < (m : Int)) = true := decide_eq_true (by omega)
    simp only [ol, oU_int, lt, oSub_int]
    refine ⟨_, rfl, fun _ => ?_, (fun z => by cases z)⟩
    refine ⟨_, rfl, P, n + 1, by rw [show (m : Int) - ((L.length + 1 : Nat) : Int) = ((n + 1 : Nat) : Int) by omega], nd, by omega, _, rfl, ?_⟩
    refine ⟨_, rfl, ?_⟩
    have xm := sub _ hx
    have ofm : ∀ z ∈ ofLen P (n + 1), z ∈ r0 := fun z hz => sub _ (ofLen_mem.mp hz)
    have olen : (ofLen P (n + 1)).length ≤ 16 := by
      unfold ofLen; rw [List.length_map]
      exact Nat.le_trans (List.length_filter_le _ _) few
    have il : oIx (.list ((L ++ [x]).map PyData.str)) (.int (-1)) = some (.str x) := by
      rw [oIx_last (x := x) (by simp)]; simp
    refine comp_fil PyData.str PyData.str (fun z => aheadR Rs x z) (fun z => z ∈ ofLen P (n + 1)) rfl (fun _ => rfl) ?_ ?_ (ofLen P (n + 1)) [] (fun _ h => h) (by simp; omega) ?_
    · intro z R hz kk
      (simp only [TN.iK, TN.iV, TN.iLT, TN.pNew, TN.dCallN, TN.dCompI2, TN.dLAddE, TN.oD, TN.sDNew, TN.sPutD, TN.fGetO, TN.fGetO2, TN.fInO, TN.fNinO, TN.dVarD, TN.dExtS, TN.mOwn, TN.dCallM, TN.mVar, TN.sRetV, TN.dAug, TN.dCallNT, TN.dCallNL, TN.fIxTs, TN.sForI, TN.dCompI, TN.dCompL, TN.dCompT, TN.dCompR, TN.iL, TN.iT, TN.iR1, TN.iR2, TN.iR3, TN.iS, TN.iE, TN.iRv, TN.iZ, TN.dKeepT, TN.dCallT, TN.pTup, TN.pCons, TN.pOwn, TN.sAsgT, TN.sRetT, TN.tpL, TN.fIxT, TN.fTp, TN.dAppendT, TN.dReverseT, TN.dClearT, TN.dVarT, TN.dReverse, TN.dClear, TN.dPop, Pt.d, Sl.tp.injEq, TN.startF, TN.dCallV, Sl.fn.injEq, TN.dCallF, TN.dLRev, TN.dLAdd, TN.dLSlP, TN.dLSlice, TN.dSliceE, TN.dNo, TN.dEnd, TN.fNo, TN.sSeq, TN.sNext, TN.sDrop, TN.sRet, TN.sRetL, TN.sRetN, TN.sIf, TN.sAsg, TN.sAsgL, TN.sStore, TN.sForL, TN.sForT, TN.sForR, TN.sForR2, TN.tgN, TN.tgTup, TN.tgCons, TN.tgNil, TN.dP, TN.dB, TN.dCall, TN.dCallL, TN.dCallB, TN.dCallBL, TN.dCons, TN.dNil, TN.dTup, TN.dLst, TN.dKeep, TN.dVar, TN.fVar, TN.fPeek, TN.fC, TN.f2, TN.d2, TN.d2V, TN.f1, TN.d1, TN.fCB, TN.dCB, TN.dCBL, TN.fNil, TN.fCons, TN.asBool, TN.dTest, TN.bAnd, TN.bOr, TN.bNot, TN.dAnd, TN.dOr, TN.dNot, TN.fAndV, TN.fOrV, TN.fNotV, TN.dAndV, TN.dOrV, TN.dNotV, TN.dIfE, TN.dIfL, TN.fIfE, TN.fChain, TN.fSlice, TN.dSlice, TN.fNo, TN.fEnd, TN.dAppend, TN.dInsert, TN.dPopAt, TN.ownL, TN.start0, TN.begB, TN.backD, TN.wipeD, TN.dYes, TN.sNever, List.getElem?_cons_zero, List.getElem?_cons_succ, List.set_cons_zero, List.set_cons_succ, List.map_cons, List.map_nil, List.length_cons, List.length_nil, List.cons_append, List.nil_append, List.replicate_succ, List.replicate_zero, Option.map_some, Option.map_none, Nat.add_one_sub_one, Nat.sub_zero, Nat.sub_self, Nat.zero_add, reduceCtorEq, Option.some.injEq, PyData.int.injEq, PyData.str.injEq, PyData.bool.injEq, PyData.list.injEq, PyData.tuple.injEq, Sl.sh.injEq, Sl.ow.injEq, List.cons.injEq, exists_eq_left', exists_eq_left, true_implies, false_implies, and_true, true_and, forall_const, Option.isSome_some, TN.imp_ff, TN.imp_tf, TN.imp_tt, exists_eq_left, exists_eq_left', exists_eq])
      refine ⟨_, show (match oNeg (.int 1) with | some e => oIx (.list ((L ++ [x]).map PyData.str)) e | none => none) = some (.str x) from il, Rs, r0, x, z, ?_, ro, xm, ofm z hz, _, rfl, _, rfl, kk⟩
      rcases hr with rfl | rfl
      · exact .inl rfl
      · exact .inr rfl
    · intro z R _ kk
      (simp only [TN.iK, TN.iV, TN.iLT, TN.pNew, TN.dCallN, TN.dCompI2, TN.dLAddE, TN.oD, TN.sDNew, TN.sPutD, TN.fGetO, TN.fGetO2, TN.fInO, TN.fNinO, TN.dVarD, TN.dExtS, TN.mOwn, TN.dCallM, TN.mVar, TN.sRetV, TN.dAug, TN.dCallNT, TN.dCallNL, TN.fIxTs, TN.sForI, TN.dCompI, TN.dCompL, TN.dCompT, TN.dCompR, TN.iL, TN.iT, TN.iR1, TN.iR2, TN.iR3, TN.iS, TN.iE, TN.iRv, TN.iZ, TN.dKeepT, TN.dCallT, TN.pTup, TN.pCons, TN.pOwn, TN.sAsgT, TN.sRetT, TN.tpL, TN.fIxT, TN.fTp, TN.dAppendT, TN.dReverseT, TN.dClearT, TN.dVarT, TN.dReverse, TN.dClear, TN.dPop, Pt.d, Sl.tp.injEq, TN.startF, TN.dCallV, Sl.fn.injEq, TN.dCallF, TN.dLRev, TN.dLAdd, TN.dLSlP, TN.dLSlice, TN.dSliceE, TN.dNo, TN.dEnd, TN.fNo, TN.sSeq, TN.sNext, TN.sDrop, TN.sRet, TN.sRetL, TN.sRetN, TN.sIf, TN.sAsg, TN.sAsgL, TN.sStore, TN.sForL, TN.sForT, TN.sForR, TN.sForR2, TN.tgN, TN.tgTup, TN.tgCons, TN.tgNil, TN.dP, TN.dB, TN.dCall, TN.dCallL, TN.dCallB, TN.dCallBL, TN.dCons, TN.dNil, TN.dTup, TN.dLst, TN.dKeep, TN.dVar, TN.fVar, TN.fPeek, TN.fC, TN.f2, TN.d2, TN.d2V, TN.f1, TN.d1, TN.fCB, TN.dCB, TN.dCBL, TN.fNil, TN.fCons, TN.asBool, TN.dTest, TN.bAnd, TN.bOr, TN.bNot, TN.dAnd, TN.dOr, TN.dNot, TN.fAndV, TN.fOrV, TN.fNotV, TN.dAndV, TN.dOrV, TN.dNotV, TN.dIfE, TN.dIfL, TN.fIfE, TN.fChain, TN.fSlice, TN.dSlice, TN.fNo, TN.fEnd, TN.dAppend, TN.dInsert, TN.dPopAt, TN.ownL, TN.start0, TN.begB, TN.backD, TN.wipeD, TN.dYes, TN.sNever, List.getElem?_cons_zero, List.getElem?_cons_succ, List.set_cons_zero, List.set_cons_succ, List.map_cons, List.map_nil, List.length_cons, List.length_nil, List.cons_append, List.nil_append, List.replicate_succ, List.replicate_zero, Option.map_some, Option.map_none, Nat.add_one_sub_one, Nat.sub_zero, Nat.sub_self, Nat.zero_add, reduceCtorEq, Option.some.injEq, PyData.int.injEq, PyData.str.injEq, PyData.bool.injEq, PyData.list.injEq, PyData.tuple.injEq, Sl.sh.injEq, Sl.ow.injEq, List.cons.injEq, exists_eq_left', exists_eq_left, true_implies, false_implies, and_true, true_and, forall_const, Option.isSome_some, TN.imp_ff, TN.imp_tf, TN.imp_tt, exists_eq_left, exists_eq_left', exists_eq])
      exact kk
    rw [List.nil_append]
    (simp only [TN.iK, TN.iV, TN.iLT, TN.pNew, TN.dCallN, TN.dCompI2, TN.dLAddE, TN.oD, TN.sDNew, TN.sPutD, TN.fGetO, TN.fGetO2, TN.fInO, TN.fNinO, TN.dVarD, TN.dExtS, TN.mOwn, TN.dCallM, TN.mVar, TN.sRetV, TN.dAug, TN.dCallNT, TN.dCallNL, TN.fIxTs, TN.sForI, TN.dCompI, TN.dCompL, TN.dCompT, TN.dCompR, TN.iL, TN.iT, TN.iR1, TN.iR2, TN.iR3, TN.iS, TN.iE, TN.iRv, TN.iZ, TN.dKeepT, TN.dCallT, TN.pTup, TN.pCons, TN.pOwn, TN.sAsgT, TN.sRetT, TN.tpL, TN.fIxT, TN.fTp, TN.dAppendT, TN.dReverseT, TN.dClearT, TN.dVarT, TN.dReverse, TN.dClear, TN.dPop, Pt.d, Sl.tp.injEq, TN.startF, TN.dCallV, Sl.fn.injEq, TN.dCallF, TN.dLRev, TN.dLAdd, TN.dLSlP, TN.dLSlice, TN.dSliceE, TN.dNo, TN.dEnd, TN.fNo, TN.sSeq, TN.sNext, TN.sDrop, TN.sRet, TN.sRetL, TN.sRetN, TN.sIf, TN.sAsg, TN.sAsgL, TN.sStore, TN.sForL, TN.sForT, TN.sForR, TN.sForR2, TN.tgN, TN.tgTup, TN.tgCons, TN.tgNil, TN.dP, TN.dB, TN.dCall, TN.dCallL, TN.dCallB, TN.dCallBL, TN.dCons, TN.dNil, TN.dTup, TN.dLst, TN.dKeep, TN.dVar, TN.fVar, TN.fPeek, TN.fC, TN.f2, TN.d2, TN.d2V, TN.f1, TN.d1, TN.fCB, TN.dCB, TN.dCBL, TN.fNil, TN.fCons, TN.asBool, TN.dTest, TN.bAnd, TN.bOr, TN.bNot, TN.dAnd, TN.dOr, TN.dNot, TN.fAndV, TN.fOrV, TN.fNotV, TN.dAndV, TN.dOrV, TN.dNotV, TN.dIfE, TN.dIfL, TN.fIfE, TN.fChain, TN.fSlice, TN.dSlice, TN.fNo, TN.fEnd, TN.dAppend, TN.dInsert, TN.dPopAt, TN.ownL, TN.start0, TN.begB, TN.backD, TN.wipeD, TN.dYes, TN.sNever, List.getElem?_cons_zero, List.getElem?_cons_succ, List.set_cons_zero, List.set_cons_succ, List.map_cons, List.map_nil, List.length_cons, List.length_nil, List.cons_append, List.nil_append, List.replicate_succ, List.replicate_zero, Option.map_some, Option.map_none, Nat.add_one_sub_one, Nat.sub_zero, Nat.sub_self, Nat.zero_add, reduceCtorEq, Option.some.injEq, PyData.int.injEq, PyData.str.injEq, PyData.bool.injEq, PyData.list.injEq, PyData.tuple.injEq, Sl.sh.injEq, Sl.ow.injEq, List.cons.injEq, exists_eq_left', exists_eq_left, true_implies, false_implies, and_true, true_and, forall_const, Option.isSome_some, TN.imp_ff, TN.imp_tf, TN.imp_tt, exists_eq_left, exists_eq_left', exists_eq])
    obtain ⟨q1, hq1, hq2, hq3⟩ := st _ hx (by show 1 < n + 1 + 1; omega)
    have hq2 : q1.2 = n + 1 := by have : q1.2 + 1 = n + 1 + 1 := hq2; omega
    have ne : ((ofLen P (n + 1)).filter fun z => aheadR Rs x z) ≠ [] := fun z => by
      have hm : q1.1 ∈ (ofLen P (n + 1)).filter fun z => aheadR Rs x z := List.mem_filter.mpr ⟨ofLen_mem.mpr (by rw [← hq2]; exact hq1), hq3⟩
      rw [z] at hm; cases hm
    obtain ⟨y, ey, hy⟩ := min_some ne
    have om := oMinS_lst ey
    have hyP : (y, n + 1) ∈ P := ofLen_mem.mp (List.mem_filter.mp hy).1
    refine ⟨_, om, by simp; omega, ?_⟩
    have ek : keepL Rs P (n + 1) x = y :: keepL Rs P n y := by
      show (minS ((ofLen P (n + 1)).filter fun z => aheadR Rs x z)).getD "" :: keepL Rs P n ((minS ((ofLen P (n + 1)).filter fun z => aheadR Rs x z)).getD "") = _
      rw [ey]; rfl
    have fin := ih (L ++ [x]) y (.sh (lstL (ofLen P (n + 1)))) (by rw [List.length_append, List.length_singleton]; omega) hyP fun b4 => by
      rw [ek] at q
      have := q b4
      rw [List.append_assoc]
      exact this
    rw [List.map_append (l₁ := L ++ [x])] at fin
    exact fin
theorem lens_len (Rs : List (List Str)) (r : List Str) : (lensL Rs r).length = r.length := by
  have := congrArg List.length (lensL_fst Rs r)
  rw [List.length_map, List.length_reverse] at this
  exact this
theorem lens_sub {Rs : List (List Str)} {r : List Str} : ∀ p ∈ lensL Rs r, p.1 ∈ r := fun p hp => by
  have : p.1 ∈ (lensL Rs r).map (·.1) := List.mem_map.mpr ⟨p, hp, rfl⟩
  rw [lensL_fst] at this
  exact List.mem_reverse.mp this
theorem lens_nd {Rs : List (List Str)} {r : List Str} (nd : r.Nodup) : ((lensL Rs r).map (·.1)).Nodup := by
  rw [lensL_fst]; exact (List.reverse_perm r).nodup_iff.mpr nd
theorem lens_has {Rs : List (List Str)} {r : List Str} {x : Str} (h : x ∈ r) : ∃ n, (x, n) ∈ lensL Rs r := by
  have : x ∈ (lensL Rs r).map (·.1) := by rw [lensL_fst]; exact List.mem_reverse.mpr h
  obtain ⟨p, hp, rfl⟩ := List.mem_map.mp this
  exact ⟨p.2, hp⟩
abbrev topN (Rs : List (List Str)) (r : List Str) : Nat := maxN ((lensL Rs r).map (·.2))
theorem top_pos {Rs : List (List Str)} {r : List Str} (h : r ≠ []) : 1 ≤ topN Rs r := by
  obtain ⟨x, hx⟩ := List.exists_mem_of_ne_nil r h
  obtain ⟨n, hn⟩ := lens_has (Rs := Rs) hx
  exact Nat.le_trans (lensL_le Rs r _ hn).1 (maxN_ge (List.mem_map.mpr ⟨_, hn, rfl⟩))
theorem top_le (Rs : List (List Str)) (r : List Str) : topN Rs r ≤ r.length := maxN_le fun n hn => by
  obtain ⟨p, hp, rfl⟩ := List.mem_map.mp hn
  exact (lensL_le Rs r p hp).2

theorem lens_all {Rs : List (List Str)} {r : List Str} : ∀ (d k : Nat), 1 ≤ k → k + d = topN Rs r → ∃ p ∈ lensL Rs r, p.2 = k
  | 0, k, h1, h => by
    have : topN Rs r ∈ (lensL Rs r).map (·.2) := maxN_in (by show 0 < topN Rs r; omega)
    obtain ⟨p, hp, e⟩ := List.mem_map.mp this
    exact ⟨p, hp, by omega⟩
  | d + 1, k, h1, h => by
    obtain ⟨p, hp, e⟩ := lens_all (Rs := Rs) (r := r) d (k + 1) (by omega) (by omega)
    obtain ⟨q, hq, e2, _⟩ := lens_step Rs r p hp (by omega)
    exact ⟨q, hq, by omega⟩
theorem len_vals (P : List (Str × Nat)) : (dctD (lenK P)).map (·.2) = (P.map fun p => (p.2 : Int)).map PyData.int := by
  unfold dctD
  rw [List.map_map, List.map_map, List.map_map]; rfl
theorem len_max {P : List (Str × Nat)} (ne : P ≠ []) : maxL (P.map fun p => (p.2 : Int)) = (maxN (P.map (·.2)) : Nat) := by
  have := maxL_nat (P.map (·.2)) (by simpa using ne)
  rw [List.map_map] at this
  exact this

theorem GPair.rows {t h : List Str} (gp : GPair t h) : RowsOk [t, h] t := ⟨rfl, by simp, gp.gt.nd, gp.gt.few, gp.gt.let', fun r hr => by
  simp only [List.mem_cons, List.not_mem_nil, or_false] at hr
  rcases hr with rfl | rfl
  · exact .refl _
  · exact gp.pm.symm⟩
theorem len_one {P : List (Str × Nat)} {x : Str} {n m : Nat} (nd : (P.map (·.1)).Nodup) (h : (x, n) ∈ P) (g : (x, m) ∈ P) : n = m := by
  have h1 := len_look nd h
  have h2 := len_look nd g
  have h1 : lookD (dctD (lenK P)) (.inr x) = some (.int (n : Nat)) := h1
  rw [h1] at h2
  injection h2 with h2
  injection h2 with h2
  have h2 : (n : Int) = (m : Int) := h2
  omega
end TN
set_option Elab.async false
set_option linter.all false
set_option maxRecDepth 100000
set_option maxHeartbeats 2000000
set_option autoImplicit false
namespace TN
open PySem PySem.Spec PyProof.Rows L2
def Chain (Rs : List (List Str)) (L : List Str) : Prop := L.Pairwise fun x y => aheadR Rs x y = true
theorem ahead_in {Rs : List (List Str)} {r : List Str} {x y : Str} (hr : r ∈ Rs) (h : aheadR Rs x y = true) : ixS x r < ixS y r := by
  unfold aheadR at h
  have := List.all_eq_true.mp h r hr
  simpa using this
theorem ahead_trans {Rs : List (List Str)} {x y z : Str} (h : aheadR Rs x y = true) (g : aheadR Rs y z = true) : aheadR Rs x z = true := by
  unfold aheadR at *
  rw [List.all_eq_true] at *
  intro r hr
  have h1 := h r hr
  have h2 := g r hr
  simp only [decide_eq_true_eq] at *
  omega

theorem ahead_suf {Rs : List (List Str)} : ∀ (r : List Str) {x y : Str} {n m : Nat}, r.Nodup → (x, n) ∈ lensL Rs r → (y, m) ∈ lensL Rs r → aheadR Rs x y = true → (∃ pre suf, r = pre ++ x :: suf ∧ y ∈ suf) → m + 1 ≤ n
  | [], x, y, n, m, _, h, _, _, _ => by cases h
  | a :: tl, x, y, n, m, nd, hx, hy, ha, ⟨pre, suf, er, hs⟩ => by
    obtain ⟨na, nt⟩ := List.nodup_cons.mp nd
    have nk := lens_nd (Rs := Rs) nt
    cases pre with
    | nil =>
      rw [List.nil_append, List.cons.injEq] at er
      obtain ⟨rfl, rfl⟩ := er
      have hx : (a, n) ∈ lensL Rs tl ++ [(a, 1 + maxN (((lensL Rs tl).filter fun p => aheadR Rs a p.1).map (·.2)))] := hx
      have hn : n = 1 + maxN (((lensL Rs tl).filter fun p => aheadR Rs a p.1).map (·.2)) := by
        rcases List.mem_append.mp hx with h | h
        · exact absurd (lens_sub _ h) na
        · rw [List.mem_singleton] at h
          injection h
      have hy : (y, m) ∈ lensL Rs tl ++ [(a, 1 + maxN (((lensL Rs tl).filter fun p => aheadR Rs a p.1).map (·.2)))] := hy
      have hy : (y, m) ∈ lensL Rs tl := by
        rcases List.mem_append.mp hy with h | h
        · exact h
        · rw [List.mem_singleton] at h
          injection h with h1 h2
          rw [h1] at hs
          exact absurd hs na
      have : m ≤ maxN (((lensL Rs tl).filter fun p => aheadR Rs a p.1).map (·.2)) := maxN_ge (List.mem_map.mpr ⟨(y, m), List.mem_filter.mpr ⟨hy, ha⟩, rfl⟩)
      omega
    | cons b pre =>
      rw [List.cons_append, List.cons.injEq] at er
      obtain ⟨rfl, er⟩ := er
      have xt : x ∈ tl := by rw [er]; simp
      have yt : y ∈ tl := by rw [er]; simp [hs]
      have down : ∀ {z : Str} {k : Nat}, z ∈ tl → (z, k) ∈ lensL Rs (a :: tl) → (z, k) ∈ lensL Rs tl := fun {z k} hz h => by
        have h : (z, k) ∈ lensL Rs tl ++ [(a, 1 + maxN (((lensL Rs tl).filter fun p => aheadR Rs a p.1).map (·.2)))] := h
        rcases List.mem_append.mp h with h | h
        · exact h
        · rw [List.mem_singleton] at h
          injection h with h1 h2
          rw [h1] at hz
          exact absurd hz na
      exact ahead_suf tl nt (down xt hx) (down yt hy) ha ⟨pre, suf, er, hs⟩
theorem split_two {r : List Str} {x y : Str} (nd : r.Nodup) (hx : x ∈ r) (hy : y ∈ r) (h : ixS x r < ixS y r) : ∃ pre suf, r = pre ++ x :: suf ∧ y ∈ suf := by
  have lx := idx_lt hx
  have ly := idx_lt hy
  have ex := idx_at hx
  have ey := idx_at hy
  have h : (idxS x r).getD 0 < (idxS y r).getD 0 := h
  refine ⟨r.take ((idxS x r).getD 0), r.drop ((idxS x r).getD 0 + 1), ?_, ?_⟩
  · have := split_at (p := (idxS x r).getD 0) (r := r) lx
    rw [ex] at this
    exact this.symm
  · rw [getD_of ly] at ey
    rw [← ey]
    refine List.mem_iff_getElem.mpr ⟨(idxS y r).getD 0 - ((idxS x r).getD 0 + 1), by rw [List.length_drop]; omega, ?_⟩
    rw [List.getElem_drop]
    congr 1; omega
section
variable {Rs : List (List Str)} {r0 : List Str}
theorem RowsOk.mem (ro : RowsOk Rs r0) : r0 ∈ Rs := List.mem_of_mem_head? ro.hd
theorem ahead_less (ro : RowsOk Rs r0) {x y : Str} {n m : Nat} (hx : (x, n) ∈ lensL Rs r0) (hy : (y, m) ∈ lensL Rs r0) (h : aheadR Rs x y = true) : m + 1 ≤ n :=
  ahead_suf r0 ro.nd hx hy h (split_two ro.nd (lens_sub _ hx) (lens_sub _ hy) (ahead_in ro.mem h))

theorem chain_len (ro : RowsOk Rs r0) : ∀ {L : List Str} {x : Str} {n : Nat}, Chain Rs (x :: L) → (∀ z ∈ L, z ∈ r0) → (x, n) ∈ lensL Rs r0 → (x :: L).length ≤ n
  | [], x, n, _, _, hx => by
    have := (lensL_le Rs r0 _ hx).1
    exact this
  | y :: L, x, n, c, sub, hx => by
    obtain ⟨m, hm⟩ := lens_has (Rs := Rs) (sub y List.mem_cons_self)
    obtain ⟨c1, c2⟩ := List.pairwise_cons.mp c
    have ih := chain_len ro c2 (fun z hz => sub z (List.mem_cons_of_mem _ hz)) hm
    have := ahead_less ro hx hm (c1 y List.mem_cons_self)
    rw [List.length_cons]; omega
theorem chain_top (ro : RowsOk Rs r0) {L : List Str} (c : Chain Rs L) (sub : ∀ z ∈ L, z ∈ r0) : L.length ≤ topN Rs r0 := by
  cases L with
  | nil => exact Nat.zero_le _
  | cons x L =>
    obtain ⟨n, hn⟩ := lens_has (Rs := Rs) (sub x List.mem_cons_self)
    exact Nat.le_trans (chain_len ro c (fun z hz => sub z (List.mem_cons_of_mem _ hz)) hn) (maxN_ge (List.mem_map.mpr ⟨_, hn, rfl⟩))

theorem keep_next (ro : RowsOk Rs r0) {n : Nat} {x : Str} (hx : (x, n + 2) ∈ lensL Rs r0) : ∃ y, (minS ((ofLen (lensL Rs r0) (n + 1)).filter fun z => aheadR Rs x z)) = some y ∧ (y, n + 1) ∈ lensL Rs r0 ∧ aheadR Rs x y = true := by
  obtain ⟨q1, hq1, hq2, hq3⟩ := lens_step Rs r0 _ hx (by show 1 < n + 2; omega)
  have hq2 : q1.2 = n + 1 := by have : q1.2 + 1 = n + 2 := hq2; omega
  have ne : ((ofLen (lensL Rs r0) (n + 1)).filter fun z => aheadR Rs x z) ≠ [] := fun z => by
    have hm : q1.1 ∈ (ofLen (lensL Rs r0) (n + 1)).filter fun z => aheadR Rs x z := List.mem_filter.mpr ⟨ofLen_mem.mpr (by rw [← hq2]; exact hq1), hq3⟩
    rw [z] at hm; cases hm
  obtain ⟨y, ey, hy⟩ := min_some ne
  obtain ⟨h1, h2⟩ := List.mem_filter.mp hy
  exact ⟨y, ey, ofLen_mem.mp h1, h2⟩
theorem keepL_cons {n : Nat} {x y : Str} (h : (minS ((ofLen (lensL Rs r0) (n + 1)).filter fun z => aheadR Rs x z)) = some y) : keepL Rs (lensL Rs r0) (n + 1) x = y :: keepL Rs (lensL Rs r0) n y := by
  show (minS ((ofLen (lensL Rs r0) (n + 1)).filter fun z => aheadR Rs x z)).getD "" :: keepL Rs (lensL Rs r0) n ((minS ((ofLen (lensL Rs r0) (n + 1)).filter fun z => aheadR Rs x z)).getD "") = _
  rw [h]; rfl
theorem keep_chain (ro : RowsOk Rs r0) : ∀ (n : Nat) (x : Str), (x, n + 1) ∈ lensL Rs r0 → Chain Rs (x :: keepL Rs (lensL Rs r0) n x) ∧ (keepL Rs (lensL Rs r0) n x).length = n ∧ ∀ z ∈ keepL Rs (lensL Rs r0) n x, z ∈ r0
  | 0, x, hx => ⟨List.pairwise_singleton _ _, rfl, fun z hz => by cases hz⟩
  | n + 1, x, hx => by
    obtain ⟨y, ey, hy, ha⟩ := keep_next ro hx
    obtain ⟨i1, i2, i3⟩ := keep_chain ro n y hy
    rw [keepL_cons ey]
    refine ⟨List.pairwise_cons.mpr ⟨fun z hz => ?_, i1⟩, by rw [List.length_cons, i2], fun z hz => ?_⟩
    · rcases List.mem_cons.mp hz with rfl | hz
      · exact ha
      · exact ahead_trans ha ((List.pairwise_cons.mp i1).1 z hz)
    · rcases List.mem_cons.mp hz with rfl | hz
      · exact lens_sub _ hy
      · exact i3 z hz
theorem kept_head (ro : RowsOk Rs r0) (ne : r0 ≠ []) : ∃ x, minS (ofLen (lensL Rs r0) (topN Rs r0)) = some x ∧ (x, topN Rs r0) ∈ lensL Rs r0 ∧ keptL Rs (lensL Rs r0) = x :: keepL Rs (lensL Rs r0) (topN Rs r0 - 1) x := by
  have tp := top_pos (Rs := Rs) ne
  obtain ⟨p, hp, ep⟩ := lens_all (Rs := Rs) (r := r0) 0 (topN Rs r0) tp (by omega)
  have on : ofLen (lensL Rs r0) (topN Rs r0) ≠ [] := fun z => by
    have : p.1 ∈ ofLen (lensL Rs r0) (topN Rs r0) := ofLen_mem.mpr (by rw [← ep]; exact hp)
    rw [z] at this; cases this
  obtain ⟨x, ex, hx⟩ := min_some on
  refine ⟨x, ex, ofLen_mem.mp hx, ?_⟩
  show (minS (ofLen (lensL Rs r0) (topN Rs r0))).getD "" :: keepL Rs (lensL Rs r0) (topN Rs r0 - 1) ((minS (ofLen (lensL Rs r0) (topN Rs r0))).getD "") = _
  rw [ex]; rfl

theorem kept_chain (ro : RowsOk Rs r0) (ne : r0 ≠ []) : Chain Rs (keptL Rs (lensL Rs r0)) ∧ (keptL Rs (lensL Rs r0)).length = topN Rs r0 ∧ ∀ z ∈ keptL Rs (lensL Rs r0), z ∈ r0 := by
  have tp := top_pos (Rs := Rs) ne
  obtain ⟨x, ex, hx, ek⟩ := kept_head ro ne
  obtain ⟨c1, c2, c3⟩ := keep_chain ro (topN Rs r0 - 1) x (by rw [show topN Rs r0 - 1 + 1 = topN Rs r0 by omega]; exact hx)
  rw [ek]
  refine ⟨c1, by rw [List.length_cons, c2]; omega, fun z hz => ?_⟩
  rcases List.mem_cons.mp hz with rfl | hz
  · exact lens_sub _ hx
  · exact c3 z hz

theorem keep_least (ro : RowsOk Rs r0) : ∀ (n : Nat) (x : Str) (L : List Str), (x, n + 1) ∈ lensL Rs r0 → Chain Rs (x :: L) → L.length = n → (∀ z ∈ L, z ∈ r0) → ltT L (keepL Rs (lensL Rs r0) n x) = false
  | 0, x, L, _, _, hl, _ => by
    obtain rfl := List.length_eq_zero_iff.mp hl
    rfl
  | n + 1, x, L, hx, c, hl, sub => by
    cases L with
    | nil => cases hl
    | cons y L =>
      obtain ⟨y0, ey, hy0, ha0⟩ := keep_next ro hx
      rw [keepL_cons ey]
      obtain ⟨c1, c2⟩ := List.pairwise_cons.mp c
      obtain ⟨m, hm⟩ := lens_has (Rs := Rs) (sub y List.mem_cons_self)
      have h1 := ahead_less ro hx hm (c1 y List.mem_cons_self)
      have h2 := chain_len ro c2 (fun z hz => sub z (List.mem_cons_of_mem _ hz)) hm
      have hm1 : m = n + 1 := by rw [List.length_cons] at h2 hl; omega
      subst hm1
      have hy : y ∈ (ofLen (lensL Rs r0) (n + 1)).filter fun z => aheadR Rs x z := List.mem_filter.mpr ⟨ofLen_mem.mpr hm, c1 y List.mem_cons_self⟩
      have le := (minS_mem ey).2 y hy
      by_cases e : y = y0
      · subst e
        show (if y = y then ltT L (keepL Rs (lensL Rs r0) n y) else _) = false
        rw [if_pos rfl]
        exact keep_least ro n y L hm c2 (by simpa using hl) fun z hz => sub z (List.mem_cons_of_mem _ hz)
      · exact ltT_heads le (Ne.symm e)
theorem kept_least (ro : RowsOk Rs r0) (ne : r0 ≠ []) {L : List Str} (c : Chain Rs L) (hl : L.length = topN Rs r0) (sub : ∀ z ∈ L, z ∈ r0) : ltT L (keptL Rs (lensL Rs r0)) = false := by
  have tp := top_pos (Rs := Rs) ne
  obtain ⟨x0, ex, hx0, ek⟩ := kept_head ro ne
  rw [ek]
  cases L with
  | nil => simp at hl; omega
  | cons x L =>
    obtain ⟨m, hm⟩ := lens_has (Rs := Rs) (sub x List.mem_cons_self)
    have h1 : m ≤ topN Rs r0 := maxN_ge (List.mem_map.mpr ⟨_, hm, rfl⟩)
    have h2 := chain_len ro c (fun z hz => sub z (List.mem_cons_of_mem _ hz)) hm
    have hm1 : m = topN Rs r0 := by omega
    subst hm1
    have le := (minS_mem ex).2 x (ofLen_mem.mpr hm)
    by_cases e : x = x0
    · subst e
      show (if x = x then ltT L _ else _) = false
      rw [if_pos rfl]
      exact keep_least ro _ x L (by rw [show topN Rs r0 - 1 + 1 = topN Rs r0 by omega]; exact hm) c (by rw [List.length_cons] at hl; omega) fun z hz => sub z (List.mem_cons_of_mem _ hz)
    · exact ltT_heads le (Ne.symm e)
end
section
variable {K : PySem.W.Frag} {bor : List Nat} {ta tb tc : TE} {A B C : TDE}
end
section
variable {K : PySem.W.Frag} {bor : List Nat} {ta tb : TE} {A : TDL} {B : TDE}
end
end TN
set_option Elab.async false
set_option linter.all false
set_option maxRecDepth 100000
set_option maxHeartbeats 2000000
set_option autoImplicit false
namespace TN
open PySem PySem.Spec PyProof.Rows L2
theorem idx_pw {w : List Str} (nd : w.Nodup) : w.Pairwise fun x y => ixS x w < ixS y w := by
  rw [List.pairwise_iff_getElem]
  intro i j hi hj lt
  have e1 : ixS w[i] w = i := by rw [← getD_of (x := ("" : Str)) hi]; exact idx_getD nd hi
  have e2 : ixS w[j] w = j := by rw [← getD_of (x := ("" : Str)) hj]; exact idx_getD nd hj
  rw [e1, e2]; exact lt
section
variable {w : List Str} {p : Nat}
end
end TN
set_option Elab.async false
set_option linter.all false
set_option maxRecDepth 100000
set_option maxHeartbeats 2000000
set_option autoImplicit false
namespace TN
open PySem PySem.Spec PyProof.Rows L2
theorem idx_rev {t : List Str} (nd : t.Nodup) {x : Str} (hx : x ∈ t) : ixS x t.reverse + ixS x t + 1 = t.length := by
  have nr : t.reverse.Nodup := (List.reverse_perm t).nodup_iff.mpr nd
  have hlt : ixS x t < t.length := idx_lt hx
  have e : t.getD (ixS x t) "" = x := idx_at hx
  have e2 : t.reverse.getD (t.length - 1 - ixS x t) "" = x := by
    rw [rev_get (by omega), show t.length - 1 - (t.length - 1 - ixS x t) = ixS x t by omega, e]
  have := idx_getD nr (j := t.length - 1 - ixS x t) (by rw [List.length_reverse]; omega)
  rw [e2] at this
  have : ixS x t.reverse = t.length - 1 - ixS x t := this
  omega
section
variable {a b c d : List Str}
end
end TN
set_option Elab.async false
set_option linter.all false
set_option maxRecDepth 100000
set_option maxHeartbeats 1000000
set_option autoImplicit false
namespace TN
open PySem PySem.Spec PyProof.Rows L2
open Sem (wp)
section
variable {prog : Program} {w : World} {A : Around} {E : Value → Shared → Prop} {s : Shared}
end
section
variable {X : Cx} {pos : Pos}
end
section
variable {K : PySem.W.Frag} {bor : List Nat}
def tgLst (n : Nat) (r : List D → List Sl → (List Sl → Prop) → Prop) : TDG := fun d ρ Q => ∃ ds, d = .list ds ∧ ds.length = n ∧ r ds ρ Q
end
end TN
set_option Elab.async false
set_option linter.all false
set_option maxRecDepth 100000
set_option maxHeartbeats 1000000
set_option autoImplicit false
namespace TN
open PySem PySem.Spec PyProof.Rows L2
open Sem (wp)
section
variable {prog : Program} {w : World} {A : Around} {E : Value → Shared → Prop} {s : Shared}
end
section
variable {X : Cx}
end
section
variable {K : PySem.W.Frag} {bor : List Nat} {te : TE} {A : TDL}
def sCut (j : Nat) (c : Int) (A : TDL) : TDS := fun E ρ => A ρ fun ys ρ1 => ∃ xs, ownL j ρ1 = some xs ∧ 0 ≤ c ∧ xs.length + ys.length ≤ 100000 ∧ E.nx (ρ1.set j (.ow (ys ++ xs.drop c.toNat)))
end
end TN
set_option Elab.async false
set_option linter.all false
set_option maxRecDepth 100000
set_option maxHeartbeats 1000000
set_option autoImplicit false
namespace TN
open PySem PySem.Spec PyProof.Rows L2
mutual
def noList : D → Bool
  | .none => true
  | .bool _ => true
  | .int _ => true
  | .str _ => true
  | .tuple ds => noLists ds
  | _ => false
def noLists : List D → Bool
  | [] => true
  | d :: ds => noList d && noLists ds
end
section
variable {K : PySem.W.Frag} {c : C0} {G G' H H' : Hp} {σ : L2.St} {ρ : List Sl}
mutual
theorem dq_un {G1 G2 : Hp} (h : ∀ b u o, G1 b = some (.frz u o) → G2 b = some (.frz u o)) : ∀ {d : D} {v : V}, noList d = true → Dq K G1 v d → Dq K G2 v d
  | .none, _, _, p => by cases p; exact .non
  | .bool _, _, _, p => by cases p; exact .bl _
  | .int _, _, _, p => by cases p; exact .int _
  | .str _, _, _, p => by cases p; exact .str _
  | .list _, _, n, _ => by simp only [noList] at n; cases n
  | .dict _, _, n, _ => by simp only [noList] at n; cases n
  | .tuple ds, _, n, p => by
    cases p with
    | tup s a =>
      refine .tup ?_ (dqs_un h (by simpa only [noList] using n) a)
      rcases s with ⟨o, e, q⟩ | s
      · exact .inl ⟨o, h _ _ _ e, q⟩
      · exact .inr s
theorem dqs_un {G1 G2 : Hp} (h : ∀ b u o, G1 b = some (.frz u o) → G2 b = some (.frz u o)) : ∀ {ds : List D} {vs : List V}, noLists ds = true → DqAll K G1 vs ds → DqAll K G2 vs ds
  | [], _, _, p => by cases p; exact .nil
  | d :: ds, _, n, p => by
    have n : (noList d && noLists ds) = true := by simpa only [noLists] using n
    rw [Bool.and_eq_true] at n
    cases p with
    | cons a b => exact .cons (dq_un h n.1 a) (dqs_un h n.2 b)
end
end
section
variable {K : PySem.W.Frag} {bor : List Nat} {te : TE} {ta tr tk : TA} {A : TDE} {R : TDA} {is : List Nat}
def oVar (j : Nat) (R : TDA) : TDA := fun ρ Q => (ownL j ρ).isSome = true ∧ R ρ fun ds ρ2 => ∃ xs, ownL j ρ2 = some xs ∧ Q (.list xs :: ds) ρ2
def dCallO (sem : List D → (Sl → Prop) → Prop) (A : TDA) : TDE := fun ρ Q => A ρ fun ds ρ1 => sem ds fun r => ∃ d, r = .sh d ∧ noList d = true ∧ Q d ρ1
def dCallOI (sem : List D → (Sl → Prop) → Prop) (i : Int) (A : TDA) : TDE := fun ρ Q => A ρ fun ds ρ1 => sem ds fun r => ∃ e d, r = .sh e ∧ oIx e (.int i) = some d ∧ noList d = true ∧ Q d ρ1
def dCallNO (sem : List D → (Sl → Prop) → Prop) (is : List Nat) (A : TDA) : TDE := fun ρ Q => A ρ fun ds ρ1 => sem (pick is ds) fun r => ∃ d, r = .sh d ∧ noList d = true ∧ Q d ρ1
end
end TN
set_option Elab.async false
set_option linter.all false
set_option maxRecDepth 100000
set_option maxHeartbeats 2000000
set_option autoImplicit false
namespace TN
open PySem PySem.Spec PyProof.Rows L2
section
variable {K : PySem.W.Frag} {bor : List Nat} {te : TE}
end
def oMaxI : OC := fun ds => match ds with
  | [.list ds] => (intsOf ds).bind fun ns => if ns = [] then none else some (.int (maxL ns))
  | _ => none
theorem rc_maxI {K : PySem.W.Frag} : RC K (rMax K) oMaxI := fun {G H vs ds z Q} s p e k => by
  unfold oMaxI at e
  split at e
  · rename_i xs
    obtain ⟨is, e1, e2⟩ := Option.bind_eq_some_iff.mp e
    by_cases c : is = []
    · rw [if_pos c] at e2; cases e2
    · rw [if_neg c] at e2
      injection e2 with e2; subst e2
      cases p with
      | cons a b =>
        cases b
        rw [intsOf_is e1] at a
        obtain ⟨x, us, rfl, h1, h2⟩ := a.list s
        rw [dq_ints h2] at h1
        refine ⟨x, is, rfl, h1, List.length_pos_iff.mpr c, fun m a1 a2 => ?_⟩
        rw [maxL_is a1 a2] at k
        exact k _ G H (.refl s) (.int _)
  · cases e
end TN
set_option Elab.async false
set_option linter.all false
set_option maxRecDepth 100000
set_option maxHeartbeats 2000000
set_option autoImplicit false
namespace TN
open PySem PySem.Spec PyProof.Rows L2
open Sem (wp)
open AutoSeq1 (wpAny_loadPart')
section
variable {prog : Program} {w : World} {A : Around} {E : Value → Shared → Prop} {s : Shared}
theorem tn_item {it t : Addr} {i : Nat} {xs : Array Value} {x : Value} {Q : PySem.Fin → Shared → Prop} (hi : IsTupIter s.heap it t i) (ht : IsTup s.heap t xs) (hx : xs[i]? = some x)
    (q : ∀ h', IsTupIter h' it t (i + 1) → Heap.SameBut it s.heap h' → Q (.done (.ret x)) { s with heap := h' }) : wpAny (model prog w) A (Builtin.«tuple_iterator.__next__» ⟨[.ref it], []⟩) Q E s := by
  have hi' := hi
  obtain ⟨o, f0, f2, f1⟩ := hi'
  obtain ⟨ot, g0, _, m, g1⟩ := ht
  have get : ∀ (k : Nat) (v : Value) (R : Value → Shared → Prop), (#[Value.ref t, .int i 0] : Array Value)[k]? = some v → R v s → wpAny (model prog w) A (field (.ref it) k) R E s := fun k v R e r => wpAny_field f0 f1 e r
  show wpAny _ _ (field (.ref it) 0 >>= _) _ _ _
  refine wpAny_bind (get 0 _ _ rfl ?_)
  show wpAny _ _ (if (Value.ref t == Value.none) = true then _ else _) _ _ _
  rw [if_neg (c := (Value.ref t == Value.none) = true) Bool.false_ne_true]
  show wpAny _ _ (field (.ref it) 1 >>= _) _ _ _
  refine wpAny_bind (get 1 _ _ rfl (wpAny_bind (wpAny_seqItems g0 g1 ?_)))
  have e1 : xs[((i : Nat) : Int).toNat]? = some x := by rw [Int.toNat_natCast]; exact hx
  simp only [e1]
  refine wpAny_bind (wpAny_setField f0 f1 (by simp) (wpAny_pure (q _ ⟨_, Heap.get?_update_self _ f0 (Obj.isFreed_of_fields (Obj.data_mapFields f1 _)), (Obj.cls_mapFields ..).trans f2, ?_⟩ (Heap.SameBut.update ..))))
  rw [Obj.data_mapFields f1]
  simp [rawInt]

theorem tn_end {it t : Addr} {i : Nat} {xs : Array Value} {Q : PySem.Fin → Shared → Prop} (hh : A.handled = none) (hi : IsTupIter s.heap it t i) (ht : IsTup s.heap t xs) (hx : xs[i]? = none)
    (q : ∀ h' e, Heap.ExtBut it s.heap h' → (∃ o, h'.get? e = some o ∧ o.cls = .type "StopIteration") → E (.ref e) { s with heap := h' }) : wpAny (model prog w) A (Builtin.«tuple_iterator.__next__» ⟨[.ref it], []⟩) Q E s := by
  have hi' := hi
  obtain ⟨o, f0, f2, f1⟩ := hi'
  obtain ⟨ot, g0, _, m, g1⟩ := ht
  have get : ∀ (k : Nat) (v : Value) (R : Value → Shared → Prop), (#[Value.ref t, .int i 0] : Array Value)[k]? = some v → R v s → wpAny (model prog w) A (field (.ref it) k) R E s := fun k v R e r => wpAny_field f0 f1 e r
  show wpAny _ _ (field (.ref it) 0 >>= _) _ _ _
  refine wpAny_bind (get 0 _ _ rfl ?_)
  show wpAny _ _ (if (Value.ref t == Value.none) = true then _ else _) _ _ _
  rw [if_neg (c := (Value.ref t == Value.none) = true) Bool.false_ne_true]
  show wpAny _ _ (field (.ref it) 1 >>= _) _ _ _
  refine wpAny_bind (get 1 _ _ rfl (wpAny_bind (wpAny_seqItems g0 g1 ?_)))
  have e1 : xs[((i : Nat) : Int).toNat]? = none := by rw [Int.toNat_natCast]; exact hx
  simp only [e1]
  refine wpAny_bind (wpAny_rule (wpAny_bind (wpAny_setField f0 f1 (by simp) ?_)))
  show wpAny _ _ (newExc (.type "StopIteration") [] >>= _) _ _ _
  apply wpAny_bind
  simp only [newExc, newTuple]
  refine wpAny_bind (wpAny_newObj_type (wpAny_bind (m := firstArgMember _ _) (wpAny_of_eq (a := Value.none) (by first | rfl | (simp only [firstArgMember]; rfl)) (wpAny_newObj_type ?_ (by size_fits)))) (by size_fits))
  simp only [raiseNew]
  refine wpAny_bind (wpAny_handled ?_)
  rw [hh]
  exact wpAny_bind (wpAny_pure (wpAny_throw (q _ _ (((Heap.SameBut.update ..).extBut.push _).push _) ⟨_, Heap.get?_push_size _ rfl, rfl⟩)))
theorem drawsT (hh : A.handled = none) (it t : Addr) (ne : t ≠ it) (xs : Array Value) :
    Draws prog w A it [it, t] xs.size (fun i v => xs[i]? = some v) (fun i h => IsTupIter h it t i ∧ IsTup h t xs) where
  live := fun _ _ st => let ⟨o, e, _⟩ := st.1; ⟨o, e⟩
  frame := fun _ _ _ st k => ⟨by obtain ⟨o, e, r⟩ := st.1; exact ⟨o, k it (by simp) o e, r⟩, by obtain ⟨o, e, r⟩ := st.2; exact ⟨o, k t (by simp) o e, r⟩⟩
  item := fun i s Q E hi st q => by
    unfold Builtin.SmallTypes.nextOf
    refine wpAny_bind (wpAny_callSpecial?_slot (name := Str.ofString "__next__") st.1.typeIs slot_tupleiter_next (wpAny_call_entry slot_tupleiter_next st.1.typeIs entry_tupleiter_next ?_ (args_tupleiter_next _)))
    refine tn_item st.1 st.2 (x := xs[i]) (by simp [hi]) fun h' a b => ⟨_, rfl, wpAny_pure (q _ h' s.toks (by simp [hi]) ⟨a, st.2.extBut b.extBut ne⟩ b)⟩
  done := fun s Q E st q => by
    unfold Builtin.SmallTypes.nextOf
    refine wpAny_bind (wpAny_callSpecial?_slot (name := Str.ofString "__next__") st.1.typeIs slot_tupleiter_next (wpAny_call_entry slot_tupleiter_next st.1.typeIs entry_tupleiter_next ?_ (args_tupleiter_next _)))
    exact tn_end hh st.1 st.2 (by simp) q
theorem drawsE (hh : A.handled = none) (it t : Addr) (xs : Array Value) {i : Nat} (hx : xs[i]? = none) :
    Draws prog w A it [it, t] 0 (fun _ _ => False) (fun _ h => IsTupIter h it t i ∧ IsTup h t xs) where
  live := fun _ _ st => let ⟨o, e, _⟩ := st.1; ⟨o, e⟩
  frame := fun _ _ _ st k => ⟨by obtain ⟨o, e, r⟩ := st.1; exact ⟨o, k it (by simp) o e, r⟩, by obtain ⟨o, e, r⟩ := st.2; exact ⟨o, k t (by simp) o e, r⟩⟩
  item := fun i s Q E hi st q => absurd hi (Nat.not_lt_zero i)
  done := fun s Q E st q => by
    unfold Builtin.SmallTypes.nextOf
    refine wpAny_bind (wpAny_callSpecial?_slot (name := Str.ofString "__next__") st.1.typeIs slot_tupleiter_next (wpAny_call_entry slot_tupleiter_next st.1.typeIs entry_tupleiter_next ?_ (args_tupleiter_next _)))
    exact tn_end hh st.1 st.2 hx q
abbrev tupIt (t : Addr) : Obj := { cls := .type "tuple_iterator", data := .fields #[.ref t, .int 0 0] }
abbrev enuOn (a : Addr) : Obj := { cls := .type "enumerate", data := .fields #[.none, .bool false, .ref a, rawInt 0, .none, .none] }
theorem enu_new (t : Addr) (xs : Array Value) (o : Obj) (m : Nat) (oc : o.cls = .type "tuple") (od : o.data = .seq xs m) :
    Meets (Builtin.«enumerate.__new__» ⟨[.type "enumerate", .ref t], []⟩) (fun _ R s => s.heap.get? t = some o ∧ R (.ok (.ret (.ref (s.heap.push (tupIt t)).objs.size))) { s with heap := (s.heap.push (tupIt t)).push (enuOn s.heap.objs.size) }) :=
  .of_wp fun prog w A R s h => by
    obtain ⟨c, dct, dt, sl⟩ := o
    have oc : c = .type "tuple" := oc
    have od : dt = .seq xs m := od
    subst oc od
    obtain ⟨hp, g, d, tk, os⟩ := s
    obtain ⟨hl, h⟩ := h
    have hsub := sub_enumerate
    have hT : IsTup (Shared.heap ⟨hp, g, d, tk, os⟩) t xs := ⟨_, hl, rfl, m, rfl⟩
    wp_walk using wpAny_loadPart' hl
    refine wpAny_stack_any fun st => wpAny_pure ?_
    split
    · rename_i c _ _ _ _ _
      cases (c == Value.type "enumerate") <;> (wp_walk using wpAny_loadPart' hl, iter_tuple hT; exact ⟨_, rfl, h⟩)
    · wp_walk using wpAny_loadPart' hl, iter_tuple hT
      exact ⟨_, rfl, h⟩
theorem call_enuT {t : Addr} {xs : Array Value} {Q : Value → Shared → Prop} (ht : IsTup s.heap t xs)
    (q : ∀ h', IsEnum h' (s.heap.objs.size + 1) s.heap.objs.size 0 .none → IsTupIter h' s.heap.objs.size t 0 → h'.objs.size = s.heap.objs.size + 2 → (∀ b o, s.heap.get? b = some o → h'.get? b = some o) → Q (.ref (s.heap.objs.size + 1)) { s with heap := h' }) :
    wpAny (model prog w) A (call (.type "enumerate") [.ref t]) Q E s := by
  obtain ⟨o, hl, oc, m, od⟩ := ht
  refine callType_new F.called_enumerate (by decide) (F.typeCall_enumerate_1 _) (F.newCall_enumerate_1 _) (fun obj => F.args_object_init_2 obj _) F.entry_enumerate_new (enu_new t xs o m oc od) ⟨hl, ?_⟩
  have z1 : (s.heap.push (tupIt t)).objs.size = s.heap.objs.size + 1 := Heap.size_push ..
  have e1 : IsEnum ((s.heap.push (tupIt t)).push (enuOn s.heap.objs.size)) (s.heap.objs.size + 1) s.heap.objs.size 0 .none := by
    rw [← z1]; exact Heap.get?_push_size _ rfl
  show _ ∧ _
  rw [z1]
  exact ⟨⟨_, e1, rfl⟩, q _ e1 ⟨_, Heap.get?_push_of_some _ (Heap.get?_push_size _ rfl), rfl, rfl⟩ (by rw [Heap.size_push, z1]) fun b o x => Heap.get?_push_of_some _ (Heap.get?_push_of_some _ x)⟩
end
def IteT (K : PySem.W.Frag) (a : Addr) : It :=
  ⟨fun i H => ∃ (xs : List V) (x : V), SqT K H a xs ∧ xs[i]? = some x, fun i H v H' => ∃ T x, v = .ref T ∧ H T = none ∧ H' = upd H T (.tup [.int (i : Nat), x]) ∧ ∀ xs, SqT K H a xs → xs[i]? = some x, fun i H => ∃ xs : List V, SqT K H a xs ∧ xs.length ≤ i⟩
theorem turn_enumT {P : Program} {w : World} {K : PySem.W.Frag} {elts : List Expr} {kk : Nat} {tpos : Pos} (a e it : Addr) :
    Turn P w K (.Tuple elts kk tpos) (IteT K a) [e, it] e (fun i h => (∃ old, IsEnum h e it ((i : Nat) : Int) old) ∧ IsTupIter h it a i ∧ e ≠ it ∧ e ≠ a ∧ a ≠ it) where
  mem := by simp
  obj := fun i h st b hb => by
    obtain ⟨⟨old, he⟩, ⟨o, ho, _, hd⟩, _⟩ := st
    simp only [List.mem_cons, List.not_mem_nil, or_false] at hb
    rcases hb with rfl | rfl
    · exact ⟨_, he, fun v z => nomatch z⟩
    · exact ⟨o, ho, fun v z => by rw [hd] at z; cases z⟩
  keep := fun i h h' st k => by
    obtain ⟨⟨old, he⟩, ⟨o, ho, r⟩, n⟩ := st
    exact ⟨⟨old, k e (by simp) _ he⟩, ⟨o, k it (by simp) o ho, r⟩, n⟩
  item := by
    intro X hP hw hK hc i pins s σ H E I hf st hg
    subst hP hw hK
    obtain ⟨⟨old, he⟩, hit, n1, n2, n3⟩ := st
    obtain ⟨xs, x, hq, hx⟩ := hg
    obtain ⟨its, rv, ht, hz⟩ := I.tuple hq
    obtain ⟨u, hu, ru⟩ := rv.get hx
    have iu : i < its.toArray.size := by
      rw [List.size_toArray]
      exact (List.getElem?_eq_some_iff.mp hu).1
    have el : e < s.heap.objs.size := Heap.lt_size he
    have il : it < s.heap.objs.size := by obtain ⟨_, z, _⟩ := hit; exact Heap.lt_size z
    refine wpAny_pyNext_enum_itemD (drawsT (A := X.A.in1) (I.ok.hd hc) it a n3 its.toArray) he ⟨hit, ht⟩ iu n1 (by simp [n1, n2]) fun v h' tk hv ho hst hT hsz hk => ?_
    have evu : v = u := by
      have hv : its.toArray[i]? = some v := hv
      have hu2 : its.toArray[i]? = some u := by simpa using hu
      rw [hu2] at hv; exact (Option.some.inj hv).symm
    subst evu
    refine ⟨_, rfl, wpAny_letOwnedTupleGo_enum (s := { s with heap := h', toks := tk + 1 }) ho fun h2 he2 sb => ?_⟩
    have far : ∀ b, b < s.heap.objs.size → b ≠ s.heap.objs.size := fun b z => Nat.ne_of_lt z
    have hT2 : h2.get? s.heap.objs.size = some { cls := .type "tuple", data := .seq #[.int i tk, v] } := (sb.2 _ (Ne.symm (far e el))).trans hT
    have new : ObjOk X.prog X.w (upd H s.heap.objs.size (.tup [.int (i : Nat), x])) h2 s.heap.objs.size (.tup [.int (i : Nat), x]) :=
      ⟨by show 2 ≤ sizeLine; decide, [.int i tk, v], .cons ⟨_, rfl⟩ (.cons ru .nil), ⟨_, hT2, rfl, _, rfl⟩⟩
    have I1 : Inv X pins σ (upd H s.heap.objs.size (.tup [.int (i : Nat), x])) { s with heap := h2, toks := tk + 1 } :=
      I.turnedNew (ch := [e, it]) (fun b ob hb z => by
        simp only [List.mem_cons, List.not_mem_nil, or_false, not_or] at hb
        exact (sb.2 b hb.1).trans (hk b ob hb.1 hb.2 z)) hf (Nat.le_refl _) new
    refine ⟨.ref s.heap.objs.size, _, I1, rfl, ⟨_, x, rfl, I.hok.fresh (Nat.le_refl _), rfl, fun ys hy => by rw [I.tuple_inj hy hq]; exact hx⟩, ⟨⟨v, ?_⟩, ?_, n1, n2, n3⟩, fun b hb => ?_⟩
    · rw [show ((i + 1 : Nat) : Int) = (i : Int) + 1 by omega]; exact he2
    · obtain ⟨o, z, r⟩ := hst.1
      exact ⟨o, (sb.2 it (Ne.symm n1)).trans z, r⟩
    · have lb : b < s.heap.objs.size := by
        simp only [List.mem_cons, List.not_mem_nil, or_false] at hb
        rcases hb with rfl | rfl
        · exact el
        · exact il
      rw [upd_ne (far b lb)]
      exact (hf b hb).1
  done := by
    intro X hP hw hK hc i pins s σ H E I hf st hg
    subst hP hw hK
    obtain ⟨⟨old, he⟩, hit, n1, n2, n3⟩ := st
    obtain ⟨xs, hq, hx⟩ := hg
    obtain ⟨its, rv, ht, hz⟩ := I.tuple hq
    obtain ⟨f0, f1, f2, f3, f4, f5⟩ := hf it (by simp)
    have hl := rv.length
    exact wpAny_pyNext_enum_endD (drawsE (A := X.A.in1) (I.ok.hd hc) it a its.toArray (i := i) (by simp; omega)) he ⟨hit, ht⟩ fun h' eb => ⟨rfl, I.turned (t' := s.toks) (fun b o hb q => eb b o hb q) f0 f1 f3 f4 f5⟩
  self := fun A i s Q E st h => let ⟨⟨_, he⟩, _⟩ := st; wpAny_pyIter_enum he h

def iEnuT (K : PySem.W.Frag) (ta : TA) : TI := fun σ H R => ta σ H fun vs H1 => ∃ a xs, vs = [.ref a] ∧ SqT K H1 a xs ∧ R (IteT K a) H1
theorem pi_enumT {X : Cx} {e : Expr} {ta : TA} {p pos tpos : Pos} {elts : List Expr} {kk : Nat} (hg : Gl X "enumerate") (hm : X.mg "enumerate" = none) (ha : PA X [e] ta) (hs : starEach [e] X.env = [(false, eval e X.env)] := by rfl) :
    PI X (.Tuple elts kk tpos) (.Call (.Name "enumerate" p) [e] [] pos) (iEnuT X.K ta) := by
  refine ⟨fun pins s σ H R I h => Call_ (ld_blt I hg hm boot_enumerate (PyProof.Rows.callWith_type1 (thn (ha.run pos pins s σ H _ I h) fun us s1 ⟨vs, H1, I1, r1, q1⟩ => ?_) hs rfl))⟩
  obtain ⟨a, xs, rfl, hq, q⟩ := q1
  cases r1 with
  | cons r rr =>
    cases rr
    cases r
    obtain ⟨its, rv, ht, hz⟩ := I1.tuple hq
    have la : a < s1.heap.objs.size := by obtain ⟨o, e, _⟩ := ht; exact Heap.lt_size e
    refine call_enuT ht fun h' he hit hsz hk => wpAny_pyIter_enum he ?_
    refine ⟨s1.heap.objs.size + 1, [s1.heap.objs.size + 1, s1.heap.objs.size], _, _, H1, rfl, I1.kept (t' := s1.toks) hk, turn_enumT a (s1.heap.objs.size + 1) s1.heap.objs.size, ⟨⟨.none, he⟩, hit, Nat.succ_ne_self _, Nat.ne_of_gt (Nat.lt_succ_of_lt la), Nat.ne_of_lt la⟩, fun b hb => ?_, q⟩
    have lb : s1.heap.objs.size ≤ b := by
      simp only [List.mem_cons, List.not_mem_nil, or_false] at hb
      rcases hb with rfl | rfl
      · exact Nat.le_add_right _ _
      · exact Nat.le_refl _
    exact I1.fpOk lb (I1.hok.fresh lb)
section
variable {K : PySem.W.Frag} {bor : List Nat} {te : TE} {A : TDE}
theorem walk_enumT {a : Addr} {xs : List V} : Walk (IteT K a) xs.length (fun H => SqT K H a xs) (YPair (fun i => some (.int (i : Nat))) (fun i => xs[i]?)) :=
  ⟨fun i _ hi z => ⟨xs, xs[i], z, by simp [hi]⟩, fun _ z => ⟨xs, z, Nat.le_refl _⟩, fun i H v H' _ z ⟨T, x, h1, h2, h3, h4⟩ => ⟨T, .int (i : Nat), x, h1, h2, h3, rfl, h4 xs z⟩⟩
theorem itok_enumT {G : Hp} {a : Addr} {xs : List V} {ds : List D} (h : TupX K G a xs) (p : DqAll K G xs ds) : ItOk Pw K G (IteT K a) (enumD ds) := by
  have el : (enumD ds).length = xs.length := by unfold enumD; simp [dps_len p]
  refine ⟨_, _, by rw [el]; exact walk_enumT, fun H s => (tupS s h).sq, fun i H x H' G2 hi s1 s2 y => ?_⟩
  obtain ⟨T, y1, y2, rfl, hT, rfl, e1, e2⟩ := y
  injection e1 with e1; subst e1
  obtain ⟨d, f1, f2⟩ := dps_get p e2
  refine ⟨G2, .tuple [.int i, d], ?_, grow_own (o := .tup [V.int i, y2]) s2 hT, T, _, _, rfl, rfl, .inl (.inl upd_same), .cons (.int _) (.cons (dpS s1 f2) .nil)⟩
  unfold enumD
  rw [List.getElem?_map, List.getElem?_range (by have := dps_len p; omega)]
  show some (PyData.tuple [.int i, ds.getD i .none]) = _
  rw [List.getD_eq_getElem?_getD, f1]; rfl
def iET (A : TDE) : TDI := fun ρ Q => A ρ fun d ρ1 => ∃ ds, d = .tuple ds ∧ Q (enumD ds) ρ1
theorem li_enumT (h : LE K bor te A) : LI Pw K bor (iEnuT K (tCons te tNil)) (iET A) := fun {c G σ H ρ Qd R} hc Rl q k => h hc Rl q fun v H1 G1 ρ1 d s1 R1 p1 ⟨ds, e, q1⟩ => by
  subst e
  cases p1 with
  | @tup a xs _ h1 h2 => exact ⟨a, xs, rfl, (tupS R1.sub h1).sq, k _ H1 G1 ρ1 _ s1 R1 (itok_enumT h1 h2) q1⟩
end
end TN
set_option Elab.async false
set_option linter.all false
set_option maxRecDepth 100000
set_option maxHeartbeats 2000000
set_option autoImplicit false
namespace TN
open PySem PySem.Spec PyProof.Rows L2
theorem ord_uniq {f : Str → Nat} {L M : List Str} (a : L.Pairwise fun x y => f x < f y) (b : M.Pairwise fun x y => f x < f y) (p : ∀ x, x ∈ L ↔ x ∈ M) : L = M := by
  have na : L.Nodup := a.imp fun h e => by rw [e] at h; exact absurd h (Nat.lt_irrefl _)
  have nb : M.Nodup := b.imp fun h e => by rw [e] at h; exact absurd h (Nat.lt_irrefl _)
  exact List.Perm.eq_of_pairwise (le := fun x y => f x < f y) (fun x y _ _ h1 h2 => by omega) a b ((List.perm_ext_iff_of_nodup na nb).mpr p)
section
variable {t h : List Str}
end
end TN
namespace TN
open PySem PySem.Spec PyProof.Rows L2
end TN
namespace TN
open PySem PySem.Spec PyProof.Rows L2
theorem front_fst (Rs : List (List Str)) (pre : List Str) : (lensL Rs pre.reverse).map (·.1) = pre := by rw [lensL_fst, List.reverse_reverse]
end TN
namespace TN
open PySem PySem.Spec PyProof.Rows L2
theorem minS_perm {l m : List Str} (p : l.Perm m) : minS l = minS m := by unfold minS; rw [sortS_congr p]
theorem kept_split {Rs : List (List Str)} {r0 : List Str} (ro : RowsOk Rs r0) : ∀ (n : Nat) (x : Str) (A : List Str) (y : Str) (R : List Str), (x, n + 1) ∈ lensL Rs r0 → keepL Rs (lensL Rs r0) n x = A ++ y :: R →
    minS ((ofLen (lensL Rs r0) (n - A.length)).filter fun z => aheadR Rs ((x :: A).getLast (by simp)) z) = some y
  | 0, x, A, y, R, _, e => by
    have e : ([] : List Str) = A ++ y :: R := e
    simp at e
  | n + 1, x, A, y, R, hx, e => by
    obtain ⟨y0, ey, hy, ha⟩ := keep_next ro hx
    rw [keepL_cons ey] at e
    cases A with
    | nil =>
      rw [List.nil_append] at e
      injection e with e1 e2
      subst e1
      exact ey
    | cons a A =>
      rw [List.cons_append] at e
      injection e with e1 e2
      subst e1
      have := kept_split ro n y0 A y R hy e2
      rw [List.length_cons, show n + 1 - (A.length + 1) = n - A.length by omega, List.getLast_cons (by simp)]
      exact this
section
variable {t h : List Str}
theorem ofLen_nd {P : List (Str × Nat)} (nd : (P.map (·.1)).Nodup) (s : Nat) : (ofLen P s).Nodup := nd.sublist (by unfold ofLen; exact List.filter_sublist.map _)
end
theorem oSl_back_nil : oSlice (some (-1)) none (tupL []) = some (tupL []) := rfl
theorem oSl_back {L : List Str} {x : Str} : oSlice (some (-1)) none (tupL (L ++ [x])) = some (tupL [x]) := by
  show some (PyData.tuple (cutD ((L ++ [x]).map PyData.str) (some (-1)) none)) = _
  unfold cutD
  have e : HT.sIx ((L ++ [x]).map PyData.str).length 0 (some (-1)) = L.length := by
    rw [List.length_map, List.length_append, List.length_singleton]
    unfold HT.sIx
    simp only []
    rw [if_pos (by omega)]; omega
  rw [e, HT.sIx_none, List.length_map, List.length_append, List.length_singleton, List.map_append, List.drop_left' (by simp), show L.length + 1 - L.length = 1 by omega]
  rfl
end TN
set_option Elab.async false
set_option linter.all false
set_option maxRecDepth 100000
set_option maxHeartbeats 2000000
set_option autoImplicit false
namespace TN
open PySem PySem.Spec PyProof.Rows L2
def CmpJ (prog : Program) (w : World) (A : Around) (P : Nat → Value → Prop) (bt : Nat → Nat → Bool) (J : Heap → Prop) : Prop :=
  ∀ i j vi vj (s : Shared) (Q : Value → Shared → Prop) (E : Value → Shared → Prop), J s.heap → P i vi → P j vj → Q (.bool (bt i j)) s → wpAny (model prog w) A (richCompare .Lt vi vj) Q E s
section
variable {R : Result → Shared → Prop} {St : Nat → Heap → Prop} {P : Nat → Value → Prop} {prog : Program} {w : World} {A : Around} {I : Addr} {fp wr : List Addr} {n : Nat}
theorem loopJ_min {J : Heap → Prop} (W : Walks prog w A.in1 I fp wr n P St) (bt : Nat → Nat → Bool) (cmp : CmpJ prog w A.in1 P bt J) (T : Addr) (out : T ∉ fp) (jk : ∀ h h' : Heap, J h → (∀ b o, b ∉ wr → b ≠ T → h.get? b = some o → h'.get? b = some o) → J h') :
    ∀ (k j : Nat) (s : Shared) (u : Value) (c : Nat), J s.heap → n - (j + 1) = k → j + 1 ≤ n → St (j + 1) s.heap → P (argBest bt j) u → s.heap.get? T = some { cls := .type "list", dict := none, data := .seq #[u, u] c, slots := #[] } →
    (∀ v h1 t1, P (argBest bt (n - 1)) v → (∀ b o, b ∉ wr → b ≠ T → s.heap.get? b = some o → h1.get? b = some o) → R (.ok (.ret v)) { s with heap := h1, toks := t1 }) → codeAny (model prog w) A (.builtin "min.loop" ⟨[.ref I, .none, .ref T], []⟩) R s := by
  have out2 : T ∉ wr := fun z => out (W.sub _ z)
  have nm : (toString "min" ++ toString ".loop" : String) = "min.loop" := by decide
  intro k
  induction k with
  | zero =>
    intro j s u c js e1 le st pu at0 q
    have en : j + 1 = n := by omega
    apply codeAny_builtin F.entry_min_loop; rw [Around.under_plainId F.plain_min_loop _]
    show wpAny _ A.in1 (seqItems? (.ref T) >>= _) _ _ s
    apply wpAny_bind; apply wpAny_seqItems at0 rfl
    show wpAny _ A.in1 (tryCatch (pyNext (.ref I)) _ >>= _) _ _ s; apply wpAny_bind
    refine wpAny_tryCatch (W.done s _ _ (en ▸ st) fun h1 t1 keep => ?_)
    have at1 := keep T _ out2 at0
    show wpAny _ A.in1 (updateSeq T (fun _ => #[]) >>= _) _ _ _; apply wpAny_bind
    refine wpAny_updateSeq at1 rfl (wpAny_bind (wpAny_letGo (wpAny_pure (q u _ t1 (by rw [← en]; exact pu) fun b o b1 b2 e => ?_))))
    exact (Heap.get?_update_other _ _ (Ne.symm b2)).trans (keep b o b1 e)
  | succ k ih =>
    intro j s u c js e1 le st pu at0 q
    have lt : j + 1 < n := by omega
    apply codeAny_builtin F.entry_min_loop; rw [Around.under_plainId F.plain_min_loop _]
    show wpAny _ A.in1 (seqItems? (.ref T) >>= _) _ _ s
    apply wpAny_bind; apply wpAny_seqItems at0 rfl
    show wpAny _ A.in1 (tryCatch (pyNext (.ref I)) _ >>= _) _ _ s; apply wpAny_bind
    refine wpAny_tryCatch (W.item (j + 1) s _ _ lt st fun v h1 t1 pv st1 keep => ?_)
    have at1 := keep T _ out2 at0
    have j1 : J h1 := jk _ _ js fun b o b1 _ e => keep b o b1 e
    show wpAny _ A.in1 (tryCatch (holding [v, v] (richCompare .Lt v u >>= _)) _ >>= _) _ _ _; apply wpAny_bind
    refine wpAny_tryCatch (wpAny_holding (wpAny_bind (cmp (j + 1) (argBest bt j) v u _ _ _ j1 pv pu ?_)))
    apply wpAny_bind; refine wpAny_holding (wpAny_truthy_bool (wpAny_bind (wpAny_letGo (wpAny_pure ?_))))
    cases hbt : bt (j + 1) (argBest bt j) with
    | true =>
      simp only [if_true]; apply wpAny_bind
      refine wpAny_updateSeq at1 rfl (wpAny_bind (wpAny_letGo ?_)); rw [nm]
      refine wpAny_pure ⟨plainId_quiet F.plain_min_loop _, ih (j + 1) _ v _ (jk _ _ j1 fun b o _ b2 e => (Heap.get?_update_other _ _ (Ne.symm b2)).trans e) (by omega) lt (W.frame _ _ _ st1 fun b bf o e => ?_) (by simp only [argBest, hbt, if_true]; exact pv) (Heap.get?_update_self _ at1 rfl) fun v2 h2 t2 pv2 keep2 => ?_⟩
      · exact (Heap.get?_update_other _ _ fun z : T = b => out (by rw [z]; exact bf)).trans e
      · exact q v2 h2 t2 pv2 fun b o b1 b2 e => keep2 b o b1 b2 ((Heap.get?_update_other _ _ (Ne.symm b2)).trans (keep b o b1 e))
    | false =>
      simp only [Bool.false_eq_true, if_false]; apply wpAny_bind; apply wpAny_letGo; rw [nm]
      exact wpAny_pure ⟨plainId_quiet F.plain_min_loop _, ih (j + 1) _ u c j1 (by omega) lt st1 (by simp only [argBest, hbt, Bool.false_eq_true, if_false]; exact pu) at1 fun v2 h2 t2 pv2 keep2 => q v2 h2 t2 pv2 fun b o b1 b2 e => keep2 b o b1 b2 (keep b o b1 e)⟩
theorem firstJ_min {J : Heap → Prop} (W : Walks prog w A.in1 I fp wr n P St) (bt : Nat → Nat → Bool) (cmp : CmpJ prog w A.in1 P bt J) (T : Addr) (out : T ∉ fp) (jk : ∀ h h' : Heap, J h → (∀ b o, b ∉ wr → b ≠ T → h.get? b = some o → h'.get? b = some o) → J h') {s : Shared} {c : Nat} (js : J s.heap) (n0 : 0 < n) (st : St 0 s.heap) (at0 : s.heap.get? T = some { cls := .type "list", dict := none, data := .seq #[] c, slots := #[] })
    (q : ∀ v h1 t1, P (argBest bt (n - 1)) v → (∀ b o, b ∉ wr → b ≠ T → s.heap.get? b = some o → h1.get? b = some o) → R (.ok (.ret v)) { s with heap := h1, toks := t1 }) : codeAny (model prog w) A (.builtin "min.loop" ⟨[.ref I, .none, .ref T], []⟩) R s := by
  have out2 : T ∉ wr := fun z => out (W.sub _ z)
  have nm : (toString "min" ++ toString ".loop" : String) = "min.loop" := by decide
  apply codeAny_builtin F.entry_min_loop; rw [Around.under_plainId F.plain_min_loop _]
  show wpAny _ A.in1 (seqItems? (.ref T) >>= _) _ _ s
  apply wpAny_bind; apply wpAny_seqItems at0 rfl
  show wpAny _ A.in1 (tryCatch (pyNext (.ref I)) _ >>= _) _ _ s; apply wpAny_bind
  refine wpAny_tryCatch (W.item 0 s _ _ n0 st fun v h1 t1 pv st1 keep => ?_)
  have at1 := keep T _ out2 at0
  have j1 : J h1 := jk _ _ js fun b o b1 _ e => keep b o b1 e
  have up : ∀ b o, b ≠ T → h1.get? b = some o → (h1.update T (Obj.mapSeq fun _ => #[v, v])).get? b = some o := fun b o b2 e => (Heap.get?_update_other _ _ (Ne.symm b2)).trans e
  show wpAny _ A.in1 (updateSeq T (fun _ => #[v, v]) >>= _) _ _ _; apply wpAny_bind; apply wpAny_updateSeq at1 rfl; rw [nm]
  exact wpAny_pure ⟨plainId_quiet F.plain_min_loop _, loopJ_min W bt cmp T out jk _ 0 _ v _ (jk _ _ j1 fun b o _ b2 e => up b o b2 e) rfl n0 (W.frame _ _ _ st1 fun b bf o e => up b o (fun z => out (z ▸ bf)) e) pv (Heap.get?_update_self _ at1 rfl) fun v2 h2 t2 pv2 keep2 => q v2 h2 t2 pv2 fun b o b1 b2 e => keep2 b o b1 b2 (up b o b2 (keep b o b1 e))⟩
end
section
variable {w : World} {prog : Program} {A : Around} {E : Value → Shared → Prop} {s : Shared}
theorem callJ_min {x : Value} {Q : Value → Shared → Prop}
    (h : wpAny (model prog w) A.in1 (pyIter x) (fun it s1 => ∃ I fp wr n P St bt J, it = .ref I ∧ Walks prog w A.in1 I fp wr n P St ∧ St 0 s1.heap ∧ (∀ b ∈ fp, b < s1.heap.objs.size) ∧ CmpJ prog w A.in1 P bt J ∧ J s1.heap ∧
      (∀ h h' : Heap, J h → (∀ b o, b ∉ wr → b ≠ s1.heap.objs.size → h.get? b = some o → h'.get? b = some o) → J h') ∧ 0 < n ∧
      ∀ v h1 t1, P (argBest bt (n - 1)) v → (∀ b o, b ∉ wr → s1.heap.get? b = some o → h1.get? b = some o) → Q v { s1 with heap := h1, toks := t1 }) E s) : wpAny (model prog w) A (call (.builtin "min") [x]) Q E s := by
  have nm : (toString "min" ++ toString ".loop" : String) = "min.loop" := by decide
  refine call_function_tree F.kind_min F.plain_min F.entry_min (F.args_min1 _) ?_
  show wpAny _ A.in1 (Builtin.Builtins.bindParams "min" ["key", "default"] 0 ⟨[], []⟩ >>= _) _ _ s; apply wpAny_bind
  refine wpAny_of_eq (show Builtin.Builtins.bindParams "min" ["key", "default"] 0 ⟨[], []⟩ = pure [none, none] from rfl) (wpAny_bind (wpAny_pure (wpAny_bind (wpAny_mono h (fun it s1 g => ?_) fun _ _ e => e))))
  obtain ⟨I, fp, wr, n, P, St, bt, J, rfl, W, st, hfp, cmp, js, jk, n0, q⟩ := g
  apply wpAny_bind; refine wpAny_newObj_type ?_
  have out : s1.heap.objs.size ∉ fp := fun z => Nat.lt_irrefl _ (hfp _ z)
  have up : ∀ b o, s1.heap.get? b = some o → (s1.heap.push { cls := .type "list", data := .seq #[] }).get? b = some o := fun b o e => Heap.get?_push_of_some _ e
  rw [nm]
  exact wpAny_pure ⟨plainId_quiet F.plain_min_loop _, firstJ_min W bt cmp s1.heap.objs.size out jk (jk _ _ js fun b o _ _ e => up b o e) n0 (W.frame _ _ _ st fun b _ o e => up b o e) (Heap.get?_push_size _ rfl) fun v h1 t1 pv keep => q v h1 t1 pv fun b o b1 e => keep b o b1 (Nat.ne_of_lt (Heap.lt_size e)) (up b o e)⟩
end
end TN
namespace TN
open PySem PySem.Spec PyProof.Rows L2
open PySem.SeqAt
theorem firstLt_ltT (e r : Nat → Bool) : ∀ (xs ys : List Str) (k : Nat), (∀ j, j < xs.length → j < ys.length → e (k + j) = decide (xs.getD j "" = ys.getD j "")) → (∀ j, j < xs.length → j < ys.length → r (k + j) = decide ((xs.getD j "").cps.toList < (ys.getD j "").cps.toList)) →
    firstLt e r (decide (xs.length < ys.length)) (List.range' k (min xs.length ys.length)) = ltT xs ys
  | [], [], k, _, _ => rfl
  | [], y :: ys, k, _, _ => by
    rw [List.length_nil, Nat.zero_min]
    show decide (0 < (y :: ys).length) = true
    simp
  | x :: xs, [], k, _, _ => by
    rw [List.length_nil, Nat.min_zero]
    show decide ((x :: xs).length < 0) = false
    simp
  | x :: xs, y :: ys, k, he, hr => by
    have h0 := he 0 (by simp) (by simp)
    have r0 := hr 0 (by simp) (by simp)
    rw [Nat.add_zero] at h0 r0
    have h0 : e k = decide (x = y) := h0
    have r0 : r k = decide (x.cps.toList < y.cps.toList) := r0
    have ih := firstLt_ltT e r xs ys (k + 1) (fun j h1 h2 => by
      have := he (j + 1) (by simpa using h1) (by simpa using h2)
      rw [show k + (j + 1) = k + 1 + j by omega] at this
      exact this) fun j h1 h2 => by
      have := hr (j + 1) (by simpa using h1) (by simpa using h2)
      rw [show k + (j + 1) = k + 1 + j by omega] at this
      exact this
    rw [List.length_cons, List.length_cons, Nat.add_min_add_right, List.range'_succ]
    have ed : decide (xs.length + 1 < ys.length + 1) = decide (xs.length < ys.length) := decide_eq_decide.mpr (by omega)
    rw [ed]
    show firstLt e r _ (k :: List.range' (k + 1) _) = (if x = y then ltT xs ys else decide (x.cps.toList < y.cps.toList))
    by_cases c : x = y
    · rw [firstLt_yes (by rw [h0]; simpa using c), ih, if_pos c]
    · rw [firstLt_no (by rw [h0]; simpa using c), r0, if_neg c]
theorem tx_get {v : Value} {xs : List Str} {us : List Value} (r : Vals (xs.map V.str) us) {j : Nat} (h : j < us.length) : ∃ t, us[j] = .str (xs.getD j "") t := by
  obtain ⟨x, ex, rx⟩ := vals_ix r (List.getElem?_eq_getElem h)
  rw [List.getElem?_map] at ex
  obtain ⟨y, ey, rfl⟩ := Option.map_eq_some_iff.mp ex
  obtain ⟨t, e⟩ : ∃ t, us[j] = .str y t := rx
  exact ⟨t, by rw [e, List.getD_eq_getElem?_getD, ey]; rfl⟩
theorem lt_tx {prog : Program} {w : World} {A : Around} {E : Value → Shared → Prop} {s : Shared} {u v : Value} {xs ys : List Str} {Q : Value → Shared → Prop} (hu : A.units < cLine) (h1 : IsTx s.heap u xs) (h2 : IsTx s.heap v ys) (q : Q (.bool (ltT xs ys)) s) :
    wpAny (model prog w) A (richCompare .Lt u v) Q E s := by
  obtain ⟨a, o, its, n, rfl, e1, c1, d1, r1⟩ := h1
  obtain ⟨b, o2, its2, n2, rfl, e2, c2, d2, r2⟩ := h2
  have l1 := r1.length
  have l2 := r2.length
  rw [List.length_map] at l1 l2
  have z1 : its.toList.length = its.size := Array.length_toList
  have z2 : its2.toList.length = its2.size := Array.length_toList
  have hl : s.heap.IsTuple a its := ⟨o, e1, c1, n, d1⟩
  have hb : s.heap.IsTuple b its2 := ⟨o2, e2, c2, n2, d2⟩
  have g1 : ∀ j (h : j < its.size), ∃ t, its[j] = .str (xs.getD j "") t := fun j h => by
    have := tx_get (v := .none) r1 (j := j) (by rw [z1]; exact h)
    simpa using this
  have g2 : ∀ j (h : j < its2.size), ∃ t, its2[j] = .str (ys.getD j "") t := fun j h => by
    have := tx_get (v := .none) r2 (j := j) (by rw [z2]; exact h)
    simpa using this
  have key := RcLt.tuples (A := A) (e := fun j => decide (xs.getD j "" = ys.getD j "")) (r := fun j => decide ((xs.getD j "").cps.toList < (ys.getD j "").cps.toList)) hl hb hu (fun j h1 h2 => by
    obtain ⟨t1, w1⟩ := g1 j h1
    obtain ⟨t2, w2⟩ := g2 j h2
    rw [w1, w2]
    have := EqAt.str_str (A := A.in1) (s := s) (xs.getD j "") t1 (ys.getD j "") t2
    rw [show (xs.getD j "" == ys.getD j "") = decide (xs.getD j "" = ys.getD j "") from rfl] at this
    exact this) (fun j h1 h2 _ => by
    obtain ⟨t1, w1⟩ := g1 j h1
    obtain ⟨t2, w2⟩ := g2 j h2
    rw [w1, w2]
    exact fun prog w E Q q => PyProof.Rows.lt_str q) prog w E Q
  refine key ?_
  rw [show its.size = xs.length by omega, show its2.size = ys.length by omega, List.range_eq_range', firstLt_ltT _ _ xs ys 0 (fun j _ _ => by rw [Nat.zero_add]) fun j _ _ => by rw [Nat.zero_add]]
  exact q
theorem best_minT (z : Nat → List Str) : ∀ k, argBest (fun i j => ltT (z i) (z j)) k ≤ k ∧ ∀ j, j ≤ k → ltT (z j) (z (argBest (fun i j => ltT (z i) (z j)) k)) = false
  | 0 => ⟨Nat.le_refl _, fun j hj => by
    have : j = 0 := Nat.le_zero.mp hj
    subst this
    cases h : ltT (z 0) (z 0) with
    | false => exact h
    | true => have := ltT_asym h; rw [h] at this; cases this⟩
  | k + 1 => by
    obtain ⟨h1, h2⟩ := best_minT z k
    have e : argBest (fun i j => ltT (z i) (z j)) (k + 1) = if ltT (z (k + 1)) (z (argBest (fun i j => ltT (z i) (z j)) k)) = true then k + 1 else argBest (fun i j => ltT (z i) (z j)) k := rfl
    rw [e]
    generalize argBest (fun i j => ltT (z i) (z j)) k = b at h1 h2
    by_cases c : ltT (z (k + 1)) (z b) = true
    · rw [if_pos c]
      refine ⟨Nat.le_refl _, fun j hj => ?_⟩
      by_cases hk : j = k + 1
      · subst hk
        cases h : ltT (z (k + 1)) (z (k + 1)) with
        | false => rfl
        | true => have := ltT_asym h; rw [h] at this; cases this
      · exact ltT_no_trans (ltT_asym c) (h2 j (by omega))
    · rw [if_neg c]
      refine ⟨by omega, fun j hj => ?_⟩
      by_cases hk : j = k + 1
      · subst hk; simpa using c
      · exact h2 j (by omega)
def rMinTx (K : PySem.W.Frag) : List V → Hp → VK → Prop := fun vs H Q => ∃ (a : Addr) (ps : List (V × List Str)), vs = [V.ref a] ∧ SqL K H a (ps.map (·.1)) ∧ (∀ p ∈ ps, (∃ t, p.1 = V.ref t ∧ SqT K H t (p.2.map V.str)) ∧ p.2 ≠ []) ∧ ps ≠ [] ∧
  ∀ p ∈ ps, (∀ r ∈ ps, ltT r.2 p.2 = false) → Q p.1 H
theorem cr_minTx {X : Cx} (hc : X.calm = true) (hu : X.A.in1.units < cLine) : CallR X (.builtin "min") (rMinTx X.K) := by
  intro pins s σ H vs us Q I r h
  obtain ⟨a, ps, rfl, hs, hx, ne, q⟩ := h
  obtain ⟨its, rv, hl, hz⟩ := I.list hs
  obtain ⟨u, rfl, ru⟩ := vals1 r
  obtain rfl : u = Value.ref a := ru
  obtain ⟨e1, e2⟩ := pairs_back I rv hx
  have hl := hl.isList
  have lt : a < s.heap.objs.size := by obtain ⟨_, e, _⟩ := hl; exact Heap.lt_size e
  have lp : its.length = ps.length := by rw [e1, List.length_map]
  have tx : ∀ v ∈ its, IsTx s.heap v (decT s.heap v) ∧ ∃ b, v = .ref b ∧ b < s.heap.objs.size := fun v hv => by
    obtain ⟨⟨b, rfl⟩, t, _⟩ := e2 v hv
    have t' := t
    obtain ⟨b', o, _, _, eb, g, _⟩ := t'
    cases eb
    exact ⟨t, b, rfl, Heap.lt_size g⟩
  show wpAny _ _ (call (.builtin "min") [.ref a]) _ _ _
  apply callJ_min; apply wpAny_pyIter_list hl
  refine ⟨_, _, _, _, _, _, fun i j => ltT (decT s.heap (its.getD i .none)) (decT s.heap (its.getD j .none)), fun h => ∀ v ∈ its, IsTx h v (decT s.heap v), rfl, Walks.list (A := X.A.in1) (I.ok.hd hc) _ a (Nat.ne_of_lt lt) its.toArray, ⟨⟨_, Heap.get?_push_size _ rfl, rfl, rfl⟩, hl.push _⟩, fun b hb => ?_, fun i j vi vj s' Q' E' J pi pj q' => ?_, fun v hv => ?_, fun h h' J k v hv => ?_, ?_, fun v h1 t1 pv keep => ?_⟩
  · show b < (s.heap.push _).objs.size
    rw [Heap.size_push]
    rcases List.mem_cons.mp hb with rfl | hb
    · exact Nat.lt_succ_self _
    · rw [List.mem_singleton.mp hb]; exact Nat.lt_succ_of_lt lt
  · have pi : its[i]? = some vi := by simpa using pi
    have pj : its[j]? = some vj := by simpa using pj
    have gi : its.getD i .none = vi := by rw [List.getD_eq_getElem?_getD, pi]; rfl
    have gj : its.getD j .none = vj := by rw [List.getD_eq_getElem?_getD, pj]; rfl
    have q' : Q' (.bool (ltT (decT s.heap (its.getD i .none)) (decT s.heap (its.getD j .none)))) s' := q'
    rw [gi, gj] at q'
    exact lt_tx hu (J vi (List.mem_of_getElem? pi)) (J vj (List.mem_of_getElem? pj)) q'
  · exact (tx v hv).1.keeps fun b o e _ => Heap.get?_push_of_some _ e
  · obtain ⟨b, rfl, lb⟩ := (tx v hv).2
    obtain ⟨b', o, xs, n, eb, g, c, d, rr⟩ := J _ hv
    cases eb
    refine ⟨b, o, xs, n, rfl, k b o ?_ ?_ g, c, d, rr⟩
    · intro z
      rw [List.mem_singleton] at z
      exact absurd z (Nat.ne_of_lt lb)
    · show b ≠ (s.heap.push _).objs.size
      rw [Heap.size_push]; exact Nat.ne_of_lt (Nat.lt_succ_of_lt lb)
  · rw [List.size_toArray, lp]
    exact List.length_pos_iff.mpr ne
  · have pv : its[argBest (fun i j => ltT (decT s.heap (its.getD i .none)) (decT s.heap (its.getD j .none))) (its.toArray.size - 1)]? = some v := by rw [← List.getElem?_toArray]; exact pv
    obtain ⟨b1, b2⟩ := best_minT (fun i => decT s.heap (its.getD i .none)) (its.toArray.size - 1)
    have gv : its.getD (argBest (fun i j => ltT (decT s.heap (its.getD i .none)) (decT s.heap (its.getD j .none))) (its.toArray.size - 1)) .none = v := by rw [List.getD_eq_getElem?_getD, pv]; rfl
    have hv := List.mem_of_getElem? pv
    obtain ⟨b, rfl, lb⟩ := (tx v hv).2
    refine ⟨.ref b, H, I.kept (t' := t1) fun c o e => ?_, rfl, ?_⟩
    · exact keep c o (fun z => by rw [List.mem_singleton] at z; exact absurd z (Nat.ne_of_lt (Heap.lt_size e))) (Heap.get?_push_of_some _ e)
    · have hp : ((V.ref b, decT s.heap (.ref b)) : V × List Str) ∈ ps := by
        rw [e1]
        exact List.mem_map.mpr ⟨_, hv, rfl⟩
      refine q _ hp fun r hr => ?_
      rw [e1] at hr
      obtain ⟨u, hu2, rfl⟩ := List.mem_map.mp hr
      obtain ⟨j, hj, rfl⟩ := List.mem_iff_getElem.mp hu2
      have g := b2 j (by rw [List.size_toArray]; omega)
      rw [gv] at g
      have ej : its.getD j .none = its[j] := by rw [List.getD_eq_getElem?_getD, List.getElem?_eq_getElem hj]; rfl
      rw [ej] at g
      exact g
def oMinTx : OC := fun ds => match ds with
  | [.list xs] => (tupsOf xs).bind fun rs => (sortT rs).head?.map tupL
  | _ => none
theorem rc_minTx {K : PySem.W.Frag} : RC K (rMinTx K) oMinTx := fun {G H vs ds z Q} s p e k => by
  unfold oMinTx at e
  split at e
  · rename_i xs
    obtain ⟨rs, e1, e2⟩ := Option.bind_eq_some_iff.mp e
    obtain ⟨m, e3, rfl⟩ := Option.map_eq_some_iff.mp e2
    cases p with
    | cons a b =>
      cases b
      obtain ⟨x, us, rfl, h1, h2⟩ := a.list s
      obtain ⟨ps, f1, f2, f3⟩ := tups_dq s h2 e1
      subst f1 f2
      refine ⟨x, ps, rfl, h1, fun p hp => (f3 p hp).1, fun z => by subst z; simp [sortT] at e3, fun p hp lp => ?_⟩
      have em : m = p.2 := by
        have hm : m ∈ ps.map (·.2) := (sortT_perm _).mem_iff.mp (List.mem_of_head? e3)
        have sp : (sortT (ps.map (·.2))).Pairwise fun a b => leT a b = true := List.pairwise_mergeSort leT_trans leT_total _
        have hp2 : p.2 ∈ sortT (ps.map (·.2)) := (sortT_perm _).mem_iff.mpr (List.mem_map.mpr ⟨p, hp, rfl⟩)
        obtain ⟨r, hr, er⟩ := List.mem_map.mp hm
        have l1 : leT p.2 m = true := leT_iff.mpr (by rw [← er]; exact lp r hr)
        cases es : sortT (ps.map (·.2)) with
        | nil => rw [es] at e3; cases e3
        | cons y ys =>
          rw [es] at e3 hp2 sp
          injection e3 with e3
          subst e3
          rcases List.mem_cons.mp hp2 with h | h
          · exact h.symm
          · exact leT_anti ((List.pairwise_cons.mp sp).1 _ h) l1
      subst em
      exact k _ G H (.refl s) (f3 p hp).2
  · cases e
end TN
namespace TN
open PySem PySem.Spec PyProof.Rows L2
theorem units_in {A : Around} {k : Nat} (hr : Room k A) : A.in1.units < cLine := by
  have := hu_of hr
  rw [units_in1]
  exact this
end TN
set_option Elab.async false
set_option linter.all false
set_option maxRecDepth 100000
set_option maxHeartbeats 2000000
set_option autoImplicit false
namespace TN
open PySem PySem.Spec PyProof.Rows L2
def partsG : List (List Str) → List Str → List (List Str)
  | acc, [] => acc
  | acc, x :: l => partsG (acc ++ acc.map (· ++ [x])) l
theorem parts_mem {M : List Str} : ∀ {l : List Str} {acc : List (List Str)}, M ∈ partsG acc l ↔ ∃ A ∈ acc, ∃ B : List Str, B.Sublist l ∧ M = A ++ B
  | [], acc => by
    show M ∈ acc ↔ _
    constructor
    · intro h
      exact ⟨M, h, [], List.Sublist.refl _, by simp⟩
    · rintro ⟨A, hA, B, hB, rfl⟩
      have := List.sublist_nil.mp hB
      subst this
      simpa using hA
  | x :: l, acc => by
    show M ∈ partsG (acc ++ acc.map (· ++ [x])) l ↔ _
    rw [parts_mem]
    constructor
    · rintro ⟨A, hA, B, hB, rfl⟩
      rcases List.mem_append.mp hA with h | h
      · exact ⟨A, h, B, hB.cons x, rfl⟩
      · obtain ⟨A', h', rfl⟩ := List.mem_map.mp h
        exact ⟨A', h', x :: B, hB.cons_cons x, by simp⟩
    · rintro ⟨A, hA, B, hB, rfl⟩
      cases hB with
      | cons _ h => exact ⟨A, List.mem_append_left _ hA, B, h, rfl⟩
      | cons_cons _ h => exact ⟨A ++ [x], List.mem_append_right _ (List.mem_map.mpr ⟨A, hA, rfl⟩), _, h, by simp⟩
theorem parts_len : ∀ (l : List Str) (acc : List (List Str)), (partsG acc l).length = acc.length * 2 ^ l.length
  | [], acc => by simp [partsG]
  | x :: l, acc => by
    show (partsG (acc ++ acc.map (· ++ [x])) l).length = _
    rw [parts_len, List.length_append, List.length_map, List.length_cons, Nat.pow_succ]
    rw [show acc.length + acc.length = acc.length * 2 by omega, Nat.mul_assoc, Nat.mul_comm 2]
def partsL (l : List Str) : List (List Str) := partsG [[]] l
theorem partsL_mem {M l : List Str} : M ∈ partsL l ↔ M.Sublist l := by
  unfold partsL
  rw [parts_mem]
  constructor
  · rintro ⟨A, hA, B, hB, rfl⟩
    rw [List.mem_singleton] at hA
    subst hA
    simpa using hB
  · intro h
    exact ⟨[], by simp, M, h, by simp⟩
theorem partsL_len (l : List Str) : (partsL l).length = 2 ^ l.length := by
  unfold partsL
  rw [parts_len]; simp
def semParts (ds : List D) (Q : Sl → Prop) : Prop := ∃ l : List Str, ds = [tupL l] ∧ l.length ≤ 7 ∧ Q (.sh (.list ((partsL l).map tupL)))
def semInOrder (ds : List D) (Q : Sl → Prop) : Prop := ∃ M r : List Str, ds = [tupL M, tupL r] ∧ (∀ x ∈ M, okS x) ∧ (∀ x ∈ r, okS x) ∧ r.length ≤ 1000 ∧ Q (.sh (.bool (decide ((r.filter fun x => decide (x ∈ M)) = M))))

theorem chain_filter {Rs : List (List Str)} {r0 : List Str} (ro : RowsOk Rs r0) {M : List Str} (c : Chain Rs M) (sub : ∀ z ∈ M, z ∈ r0) {r : List Str} (hr : r ∈ Rs) : (r.filter fun x => decide (x ∈ M)) = M := by
  have rp := ro.all r hr
  have rn : r.Nodup := rp.nodup_iff.mpr ro.nd
  refine ord_uniq (f := fun x => ixS x r) ((idx_pw rn).filter _) (c.imp fun z => ahead_in hr z) fun x => ?_
  rw [List.mem_filter, decide_eq_true_eq]
  exact ⟨fun h => h.2, fun h => ⟨rp.mem_iff.mpr (sub x h), h⟩⟩
theorem chain_sub {Rs : List (List Str)} {r0 : List Str} (ro : RowsOk Rs r0) {M : List Str} (c : Chain Rs M) (sub : ∀ z ∈ M, z ∈ r0) {r : List Str} (hr : r ∈ Rs) : M.Sublist r := by
  have := chain_filter ro c sub hr
  rw [← this]
  exact List.filter_sublist

theorem chain_of {Rs : List (List Str)} {r0 : List Str} (ro : RowsOk Rs r0) {M : List Str} (h : ∀ r ∈ Rs, M.Sublist r) : Chain Rs M := by
  have nd : M.Nodup := ro.nd.sublist (h r0 ro.mem)
  unfold Chain
  rw [List.pairwise_iff_getElem]
  intro i j hi hj lt
  unfold aheadR
  rw [List.all_eq_true]
  intro r hr
  have rn : r.Nodup := (ro.all r hr).nodup_iff.mpr ro.nd
  have := List.pairwise_iff_getElem.mp ((idx_pw rn).sublist (h r hr)) i j hi hj lt
  simpa using this
theorem headT {R : List (List Str)} {m : List Str} (hm : m ∈ R) (le : ∀ r ∈ R, ltT r m = false) : (sortT R).head? = some m := by
  have sp : (sortT R).Pairwise fun a b => leT a b = true := List.pairwise_mergeSort leT_trans leT_total _
  have hp := (sortT_perm R).mem_iff.mpr hm
  cases es : sortT R with
  | nil => rw [es] at hp; cases hp
  | cons y ys =>
    rw [es] at hp sp
    have hy : y ∈ R := (sortT_perm R).mem_iff.mp (by rw [es]; exact List.mem_cons_self)
    rcases List.mem_cons.mp hp with h | h
    · rw [h]; rfl
    · have e := leT_anti ((List.pairwise_cons.mp sp).1 _ h) (leT_iff.mpr (le y hy))
      rw [← e]; rfl
theorem oMinTx_of {R : List (List Str)} {m : List Str} (ne : ∀ r ∈ R, r ≠ []) (hm : m ∈ R) (le : ∀ r ∈ R, ltT r m = false) : oMinTx [.list (R.map tupL)] = some (tupL m) := by
  show (tupsOf (R.map tupL)).bind _ = _
  rw [tupsOf_map ne, Option.bind_some, headT hm le]; rfl
theorem oMaxI_lens {R : List (List Str)} {m : Nat} (hm : ∃ r ∈ R, r.length = m) (le : ∀ r ∈ R, r.length ≤ m) : oMaxI [.list (R.map fun r => PyData.int (r.length : Nat))] = some (.int (m : Nat)) := by
  have e1 : ∀ R : List (List Str), intsOf (R.map fun r => PyData.int (r.length : Nat)) = some (R.map fun r => ((r.length : Nat) : Int)) := by
    intro R
    induction R with
    | nil => rfl
    | cons r R ih =>
      show (intsOf (R.map fun r => PyData.int (r.length : Nat))).map _ = _
      rw [ih]; rfl
  obtain ⟨r, hr, er⟩ := hm
  have ne : (R.map fun r => ((r.length : Nat) : Int)) ≠ [] := by
    intro z
    have := List.map_eq_nil_iff.mp z
    rw [this] at hr; cases hr
  show (intsOf _).bind _ = _
  rw [e1, Option.bind_some, if_neg ne]
  rw [maxL_is (m := ((m : Nat) : Int)) (List.mem_map.mpr ⟨r, hr, by rw [er]⟩) fun y hy => by
    obtain ⟨q, hq, rfl⟩ := List.mem_map.mp hy
    have := le q hq
    show ((q.length : Nat) : Int) ≤ (m : Int)
    omega]
section
variable {t h : List Str}
end
end TN
namespace TN
open PySem PySem.Spec PyProof.Rows L2
end TN
set_option Elab.async false
set_option linter.all false
set_option maxRecDepth 100000
set_option maxHeartbeats 2000000
set_option autoImplicit false
namespace TN
open PySem PySem.Spec PyProof.Rows L2
structure Folk (t : List Str) (hs : List (List Str)) : Prop where
  gt : GRow t
  ne : hs ≠ []
  few : hs.length ≤ 4
  all : ∀ h ∈ hs, GPair t h
theorem Folk.rows {t : List Str} {hs : List (List Str)} (fk : Folk t hs) : RowsOk (t :: hs) t := ⟨rfl, by have := fk.few; rw [List.length_cons]; omega, fk.gt.nd, fk.gt.few, fk.gt.let', fun r hr => by
  rcases List.mem_cons.mp hr with rfl | h
  · exact .refl _
  · exact (fk.all r h).pm.symm⟩
abbrev kF (t : List Str) (hs : List (List Str)) : List Str := keptL (t :: hs) (lensL (t :: hs) t)
abbrev topF (t : List Str) (hs : List (List Str)) : Nat := topN (t :: hs) t
def nF (t : List Str) (hs : List (List Str)) : List Str := sortS (t.filter fun x => decide (x ∉ kF t hs))
abbrev folkD (hs : List (List Str)) : D := .list (hs.map tupL)
def semNeedHearers (ds : List D) (Q : Sl → Prop) : Prop := ∃ (t : List Str) (hs : List (List Str)), ds = [tupL t, folkD hs] ∧ Folk t hs ∧ Q (.sh .none)
def semAllAlone (ds : List D) (Q : Sl → Prop) : Prop := ∃ (t : List Str) (hs : List (List Str)), ds = [tupL t, folkD hs] ∧ Folk t hs ∧ Q (.ow ((nF t hs).map PyData.str))
def semFolk (xs ds : List D) (Q : Sl → List D → Prop) : Prop := ∃ (n m : Int), Spl n xs ∧ n + 5000 ≤ big ∧ ds = [.int m] ∧ 1 ≤ m ∧ m ≤ 16 ∧
  ∀ (t : List Str) (hs : List (List Str)) (ys : List D), Folk t hs → (t.length : Int) ≤ m → Spl (n + 5000) ys → Q (.sh (.tuple [tupL t, folkD hs])) ys
abbrev frontF (Rs : List (List Str)) (r0 : List Str) : List (Str × Nat) := lensL (Rs.map List.reverse) r0.reverse
def semHeightsF (ds : List D) (Q : Sl → Prop) : Prop := ∃ (Rs : List (List Str)) (r0 : List Str), ds = [folkD Rs] ∧ RowsOk Rs r0 ∧ Q (.sh (lenD (frontF Rs r0)))
def semLeastF (ds : List D) (Q : Sl → Prop) : Prop := ∃ (Rs : List (List Str)) (r0 : List Str), ds = [folkD Rs] ∧ RowsOk Rs r0 ∧ r0 ≠ [] ∧ Q (.sh (tupL (keptL Rs (lensL Rs r0))))

abbrev wrongR (Rs : List (List Str)) (y x : Str) : Bool := decide ((Rs.filter fun r => decide (ixS x r < ixS y r)) = [])
section
variable {Rs : List (List Str)} {r0 : List Str}
theorem RowsOk.rev (ro : RowsOk Rs r0) : RowsOk (Rs.map List.reverse) r0.reverse := by
  have rp : ∀ l : List Str, l.reverse.Perm l := List.reverse_perm
  refine ⟨?_, by rw [List.length_map]; exact ro.few, (rp _).nodup_iff.mpr ro.nd, by rw [List.length_reverse]; exact ro.len, fun x hx => ro.isl x (List.mem_reverse.mp hx), fun r hr => ?_⟩
  · rw [List.head?_map, ro.hd]; rfl
  · obtain ⟨q, hq, rfl⟩ := List.mem_map.mp hr
    exact (rp q).trans ((ro.all q hq).trans (rp r0).symm)
theorem wrong_iff (ro : RowsOk Rs r0) {x y : Str} (hx : x ∈ r0) (hy : y ∈ r0) (ne : x ≠ y) : wrongR Rs y x = aheadR Rs y x := by
  unfold aheadR
  rw [Bool.eq_iff_iff, decide_eq_true_eq, List.filter_eq_nil_iff, List.all_eq_true]
  refine ⟨fun h r hr => ?_, fun h r hr => ?_⟩
  · have z := h r hr
    rw [decide_eq_true_eq] at z ⊢
    have e1 : r.getD (ixS x r) "" = x := idx_at ((ro.all r hr).mem_iff.mpr hx)
    have e2 : r.getD (ixS y r) "" = y := idx_at ((ro.all r hr).mem_iff.mpr hy)
    have : ixS x r ≠ ixS y r := fun e => by rw [e, e2] at e1; exact ne e1.symm
    omega
  · have z := h r hr
    rw [decide_eq_true_eq] at z ⊢
    omega
theorem ahead_back (ro : RowsOk Rs r0) {x y : Str} (hx : x ∈ r0) (hy : y ∈ r0) : aheadR (Rs.map List.reverse) x y = aheadR Rs y x := by
  unfold aheadR
  rw [Bool.eq_iff_iff, List.all_eq_true, List.all_eq_true]
  have go : ∀ r ∈ Rs, decide (ixS x r.reverse < ixS y r.reverse) = decide (ixS y r < ixS x r) := fun r hr => ?_
  · refine ⟨fun h r hr => by rw [← go r hr]; exact h _ (List.mem_map.mpr ⟨r, hr, rfl⟩), fun h r hr => ?_⟩
    obtain ⟨q, hq, rfl⟩ := List.mem_map.mp hr
    rw [go q hq]; exact h q hq
  have rn : r.Nodup := (ro.all r hr).nodup_iff.mpr ro.nd
  have a1 := idx_rev rn ((ro.all r hr).mem_iff.mpr hx)
  have a2 := idx_rev rn ((ro.all r hr).mem_iff.mpr hy)
  exact decide_eq_decide.mpr (by omega)
theorem frontF_step (ro : RowsOk Rs r0) {pre rest : List Str} {x : Str} (e : r0 = pre ++ x :: rest) :
    lensL (Rs.map List.reverse) (pre ++ [x]).reverse = lensL (Rs.map List.reverse) pre.reverse ++ [(x, 1 + maxN (((lensL (Rs.map List.reverse) pre.reverse).filter fun p => wrongR Rs p.1 x).map (·.2)))] := by
  rw [List.reverse_append, List.reverse_singleton, List.singleton_append]
  show lensL (Rs.map List.reverse) pre.reverse ++ [(x, 1 + maxN (((lensL (Rs.map List.reverse) pre.reverse).filter fun p => aheadR (Rs.map List.reverse) x p.1).map (·.2)))] = _
  have ef : ((lensL (Rs.map List.reverse) pre.reverse).filter fun p => aheadR (Rs.map List.reverse) x p.1) = (lensL (Rs.map List.reverse) pre.reverse).filter fun p => wrongR Rs p.1 x := ?_
  · rw [ef]
  refine List.filter_congr fun p hp => ?_
  have pk : p.1 ∈ pre := by rw [← front_fst (Rs.map List.reverse) pre]; exact List.mem_map.mpr ⟨p, hp, rfl⟩
  have pt : p.1 ∈ r0 := by rw [e]; simp [pk]
  have xt : x ∈ r0 := by rw [e]; simp
  have ne : x ≠ p.1 := fun z => by
    have nd := ro.nd
    rw [e] at nd
    exact (List.nodup_append.mp nd).2.2 _ pk _ List.mem_cons_self z.symm
  rw [wrong_iff ro xt pt ne, ahead_back ro xt pt]
theorem keep_at (ro : RowsOk Rs r0) : ∀ (n : Nat) (x : Str) (A : List Str) (y : Str) (R : List Str), (x, n + 1) ∈ lensL Rs r0 → keepL Rs (lensL Rs r0) n x = A ++ y :: R → (y, n - A.length) ∈ lensL Rs r0
  | 0, x, A, y, R, _, e => by
    have e : ([] : List Str) = A ++ y :: R := e
    simp at e
  | n + 1, x, A, y, R, hx, e => by
    obtain ⟨y0, ey, hy, ha⟩ := keep_next ro hx
    rw [keepL_cons ey] at e
    cases A with
    | nil =>
      rw [List.nil_append] at e
      injection e with e1 e2
      subst e1
      exact hy
    | cons a A =>
      rw [List.cons_append] at e
      injection e with e1 e2
      subst e1
      have := keep_at ro n y0 A y R hy e2
      rw [List.length_cons, show n + 1 - (A.length + 1) = n - A.length by omega]
      exact this
theorem keptF_first (ro : RowsOk Rs r0) (ne : r0 ≠ []) {y : Str} {R : List Str} (e : keptL Rs (lensL Rs r0) = y :: R) : minS (r0.filter fun z => decide ((z, topN Rs r0) ∈ lensL Rs r0)) = some y := by
  obtain ⟨x, ex, hx, ek⟩ := kept_head ro ne
  rw [e] at ek
  injection ek with e1 e2
  subst e1
  rw [← ex]
  refine minS_perm ((List.perm_ext_iff_of_nodup (ro.nd.filter _) (ofLen_nd (lens_nd ro.nd) _)).mpr fun z => ?_)
  rw [List.mem_filter, ofLen_mem, decide_eq_true_eq]
  exact ⟨fun w => w.2, fun w => ⟨lens_sub _ w, w⟩⟩
theorem keptF_later (ro : RowsOk Rs r0) (ne : r0 ≠ []) {A R : List Str} {x y : Str} (e : keptL Rs (lensL Rs r0) = A ++ x :: y :: R) :
    minS ((r0.filter fun z => decide ((z, topN Rs r0 - (A.length + 1)) ∈ lensL Rs r0)).filter fun z => wrongR Rs x z) = some y := by
  obtain ⟨w, ex, hw, ek⟩ := kept_head ro ne
  have tp := top_pos (Rs := Rs) ne
  have nd := lens_nd (Rs := Rs) ro.nd
  have hw : (w, topN Rs r0 - 1 + 1) ∈ lensL Rs r0 := by rw [show topN Rs r0 - 1 + 1 = topN Rs r0 by omega]; exact hw
  have go : minS ((ofLen (lensL Rs r0) (topN Rs r0 - (A.length + 1))).filter fun z => aheadR Rs x z) = some y ∧ (x, topN Rs r0 - A.length) ∈ lensL Rs r0 ∧ A.length + 1 ≤ topN Rs r0 := by
    have el := (kept_chain ro ne).2.1
    rw [e] at ek el
    rw [List.length_append, List.length_cons] at el
    cases A with
    | nil =>
      rw [List.nil_append] at ek
      injection ek with e1 e2
      subst e1
      have := kept_split ro _ x [] y R hw e2.symm
      refine ⟨this, ?_, by rw [List.length_nil]; omega⟩
      rw [List.length_nil, Nat.sub_zero, ← show topN Rs r0 - 1 + 1 = topN Rs r0 by omega]
      exact hw
    | cons a A =>
      rw [List.cons_append] at ek
      injection ek with e1 e2
      subst e1
      have e3 : keepL Rs (lensL Rs r0) (topN Rs r0 - 1) a = (A ++ [x]) ++ y :: R := by rw [← e2]; simp
      have := kept_split ro _ a (A ++ [x]) y R hw e3
      have gl : (a :: (A ++ [x])).getLast (List.cons_ne_nil _ _) = x := by rw [List.getLast_cons (by simp)]; exact List.getLast_concat
      rw [List.length_append, List.length_singleton, gl] at this
      have at1 := keep_at ro _ a A x (y :: R) hw e2.symm
      rw [List.length_cons, show topN Rs r0 - (A.length + 1 + 1) = topN Rs r0 - 1 - (A.length + 1) by omega, show topN Rs r0 - (A.length + 1) = topN Rs r0 - 1 - A.length by omega]
      rw [List.length_cons] at el
      exact ⟨this, at1, by omega⟩
  obtain ⟨go, hx, hl⟩ := go
  rw [← go]
  have xm : x ∈ r0 := lens_sub _ hx
  have same : ∀ z, (z, topN Rs r0 - (A.length + 1)) ∈ lensL Rs r0 → wrongR Rs x z = aheadR Rs x z := fun z hz => by
    refine wrong_iff ro (lens_sub _ hz) xm fun q => ?_
    subst q
    have := len_one nd hx hz
    omega
  refine minS_perm ((List.perm_ext_iff_of_nodup ((ro.nd.filter _).filter _) ((ofLen_nd nd _).filter _)).mpr fun z => ?_)
  rw [List.mem_filter, List.mem_filter, List.mem_filter, ofLen_mem, decide_eq_true_eq]
  exact ⟨fun w => ⟨w.1.2, by rw [← same z w.1.2]; exact w.2⟩, fun w => ⟨⟨lens_sub _ w.1, w.1⟩, by rw [same z w.1]; exact w.2⟩⟩
end
section
variable {t : List Str} {hs : List (List Str)}
theorem nF_mem {x : Str} : x ∈ nF t hs ↔ x ∈ t ∧ x ∉ kF t hs := by
  unfold nF
  rw [(sortS_perm _).mem_iff, List.mem_filter, decide_eq_true_eq]

abbrev inF (hs : List (List Str)) (M : List Str) : Bool := decide ((hs.filter fun h => !decide ((h.filter fun x => decide (x ∈ M)) = M)) = [])
abbrev bothF (t : List Str) (hs : List (List Str)) : List (List Str) := (partsL t).filter fun M => inF hs M
theorem bothF_mem (fk : Folk t hs) {M : List Str} : M ∈ bothF t hs ↔ Chain (t :: hs) M ∧ ∀ z ∈ M, z ∈ t := by
  rw [List.mem_filter, partsL_mem, decide_eq_true_eq, List.filter_eq_nil_iff]
  constructor
  · rintro ⟨h1, h2⟩
    refine ⟨chain_of fk.rows fun r hr => ?_, fun z hz => h1.subset hz⟩
    rcases List.mem_cons.mp hr with rfl | hr
    · exact h1
    · have := h2 r hr
      rw [Bool.not_eq_true', decide_eq_false_iff_not, Decidable.not_not] at this
      rw [← this]; exact List.filter_sublist
  · rintro ⟨h1, h2⟩
    refine ⟨chain_sub fk.rows h1 h2 (by simp), fun h hh => ?_⟩
    have := chain_filter fk.rows h1 h2 (r := h) (List.mem_cons_of_mem _ hh)
    rw [Bool.not_eq_true', decide_eq_false_iff_not, Decidable.not_not]
    exact this
theorem kept_bothF (fk : Folk t hs) : kF t hs ∈ bothF t hs := (bothF_mem fk).mpr ⟨(kept_chain fk.rows fk.gt.ne).1, (kept_chain fk.rows fk.gt.ne).2.2⟩
theorem bothF_le (fk : Folk t hs) : ∀ M ∈ bothF t hs, M.length ≤ topF t hs := fun M hM => chain_top fk.rows ((bothF_mem fk).mp hM).1 ((bothF_mem fk).mp hM).2
theorem bothF_least (fk : Folk t hs) : ∀ M ∈ (bothF t hs).filter fun M => decide (M.length = topF t hs), ltT M (kF t hs) = false := fun M hM => by
  obtain ⟨h1, h2⟩ := List.mem_filter.mp hM
  obtain ⟨c1, c2⟩ := (bothF_mem fk).mp h1
  exact kept_least fk.rows fk.gt.ne c1 (by simpa using h2) c2
end
theorem oEq_nilT {R : List (List Str)} (h : ∀ r ∈ R, ∀ x ∈ r, okS x) : oEq (.list (R.map tupL)) (.list []) = some (.bool (decide (R = []))) := by
  have f1 : Fine 9 (.list (R.map tupL)) := .list fun d hd => by
    obtain ⟨r, hr, rfl⟩ := List.mem_map.mp hd
    exact fine_tupL (h r hr)
  rw [oEq_is f1 (.list fun d hd => by cases hd)]
  congr 2
  exact decide_eq_decide.mpr (by rw [PyData.list.injEq, List.map_eq_nil_iff])
theorem oEq_folk {R : List (List Str)} (h : ∀ r ∈ R, ∀ x ∈ r, okS x) : oEq (folkD R) (folkD R) = some (.bool true) := by
  have f1 : Fine 9 (folkD R) := .list fun d hd => by
    obtain ⟨r, hr, rfl⟩ := List.mem_map.mp hd
    exact fine_tupL (h r hr)
  rw [oEq_is f1 f1]; simp
theorem oMaxI_0 (ns : List Nat) : oMaxI [.list ((0 :: ns).map fun (n : Nat) => PyData.int n)] = some (.int (maxN ns : Nat)) := by
  have e1 : ∀ ns : List Nat, intsOf (ns.map fun (n : Nat) => PyData.int n) = some (ns.map fun (n : Nat) => (n : Int)) := by
    intro ns
    induction ns with
    | nil => rfl
    | cons n ns ih =>
      show (intsOf (ns.map fun (n : Nat) => PyData.int n)).map _ = _
      rw [ih]; rfl
  show (intsOf _).bind _ = _
  rw [e1, Option.bind_some, if_neg (by simp), maxL_nat _ (by simp)]
  show some (PyData.int ((max 0 (maxN ns) : Nat) : Int)) = _
  rw [Nat.zero_max]
def semSmall42 (xs ds : List D) (Q : Sl → List D → Prop) : Prop := ∃ n : Int, Spl n xs ∧ n + 5000 ≤ big ∧ ds = [] ∧ ∀ ys, Spl (n + 5000) ys → Q (.sh (.bool true)) ys
end TN
set_option Elab.async false
set_option linter.all false
set_option maxRecDepth 100000
set_option maxHeartbeats 2000000
set_option autoImplicit false
namespace K42
open PySem PySem.Spec PyProof.Rows L2 TN
def topS (i : Nat) : Stmt := PySem.Challenge.pw_twonames_k42_all_alone_of_all_parts.main.body.getD i (.Pass ⟨0, 0, 0, 0⟩)
structure Blt (mg : Str → Option Value) : Prop where
  all : mg "all" = none
  bool : mg "bool" = none
  enumerate : mg "enumerate" = none
  isinstance : mg "isinstance" = none
  len : mg "len" = none
  list : mg "list" = none
  max : mg "max" = none
  min : mg "min" = none
  range : mg "range" = none
  reversed : mg "reversed" = none
  set : mg "set" = none
  sorted : mg "sorted" = none
  str : mg "str" = none
  tuple : mg "tuple" = none
  type : mg "type" = none
section
variable {P : Program} {w : World} {K : PySem.W.Frag} {mg : Str → Option Value} {base : Heap}
abbrev s_is_letter : Stmt := topS 6
theorem sc_is_letter : FnScope ["thing"] ["thing"] (defScope s_is_letter) := ⟨rfl, rfl, rfl, by decide +kernel, rfl, by decide +kernel, by decide +kernel⟩
theorem ok_is_letter (b : Blt mg) {f : Addr} {fd : FuncData} (F : Fun K "is_letter" "is_letter" s_is_letter f fd) : FnG P w K mg base CX0 1 f fd ["thing"] (sp0 K semLetter) := by
  refine fn0 (k := 0) F sc_is_letter (fun ds Q h => by obtain ⟨x, rfl, _⟩ := h; rfl) (fun cdv A outer s H E hg hr =>
    have nd := sc_is_letter.nd
    have hu := hr.units
    have hu1 := hu_of hr
    (pss_one (ps_ret (pe_and (pe_cmpR op_isTyB (pe_callTy call_typeF (by rfl) b.type (by decide +kernel) (pa_cons (pv 0) pa_nil)) (pe_bltn (v := .ty "str") (by rfl) b.str (by decide +kernel) rfl) (nomark _)) (pe_and (pe_cmpR (op_eqD hu) (pe_callB call_len (by rfl) b.len (by decide +kernel) (pa_cons (pv 0) pa_nil)) pe_int (nomark _)) (pe_one (pe_chain op_leU op_leU pe_str (pv 0) pe_str)))))))
    (ls_ret (LP.e (lp_andV (LP.m (lp_typeIs (LP.m (lp_var (i := 0))))) (lp_andV (LP.m (lp_op (LP.m (lp_cb (lms_cons (LP.m (lp_var (i := 0))) lms_nil) rc_len)) (LP.m lp_int) rb_eq)) (lp_chain (LP.m lp_str) (LP.m (lp_var (i := 0))) (LP.m lp_str) rb_U rb_U))))) ?_
  rintro ds Q ⟨x, rfl, hx, q⟩
  (simp only [TN.sSeq, TN.sNext, TN.sDrop, TN.sRet, TN.sRetL, TN.sRetN, TN.sIf, TN.sAsg, TN.sAsgL, TN.sStore, TN.sForL, TN.sForT, TN.sForR, TN.sForR2, TN.tgN, TN.tgTup, TN.tgCons, TN.tgNil, TN.dP, TN.dB, TN.dCall, TN.dCallL, TN.dCallB, TN.dCallBL, TN.dCons, TN.dNil, TN.dTup, TN.dLst, TN.dKeep, TN.dVar, TN.fVar, TN.fPeek, TN.fC, TN.f2, TN.d2, TN.d2V, TN.f1, TN.d1, TN.fCB, TN.dCB, TN.dCBL, TN.fNil, TN.fCons, TN.asBool, TN.dTest, TN.bAnd, TN.bOr, TN.bNot, TN.dAnd, TN.dOr, TN.dNot, TN.fAndV, TN.fOrV, TN.fNotV, TN.dAndV, TN.dOrV, TN.dNotV, TN.dIfE, TN.dIfL, TN.fIfE, TN.fChain, TN.fSlice, TN.dSlice, TN.fNo, TN.fEnd, TN.dAppend, TN.dInsert, TN.dPopAt, TN.ownL, TN.start0, TN.begB, TN.backD, TN.wipeD, TN.dYes, TN.sNever, List.getElem?_cons_zero, List.getElem?_cons_succ, List.set_cons_zero, List.set_cons_succ, List.map_cons, List.map_nil, List.length_cons, List.length_nil, List.cons_append, List.nil_append, List.replicate_succ, List.replicate_zero, Option.map_some, Option.map_none, Nat.add_one_sub_one, Nat.sub_zero, Nat.sub_self, Nat.zero_add, reduceCtorEq, Option.some.injEq, PyData.int.injEq, PyData.str.injEq, PyData.bool.injEq, PyData.list.injEq, PyData.tuple.injEq, Sl.sh.injEq, Sl.ow.injEq, List.cons.injEq, exists_eq_left', exists_eq_left, true_implies, false_implies, and_true, true_and, forall_const, Option.isSome_some, TN.imp_ff, TN.imp_tf, TN.imp_tt, exists_eq_left, exists_eq_left', exists_eq])
  obtain ⟨c, rfl, h1, h2⟩ := hx
  have ea : Str.ofString "a" = ⟨#[97]⟩ := by decide +kernel
  have ez : Str.ofString "z" = ⟨#[122]⟩ := by decide +kernel
  have l1 : oLen [.str ⟨#[c]⟩] = some (.int 1) := rfl
  refine ⟨.bool true, ?_, q⟩
  (simp only [Ev.d, TN.ix0, TN.ix1, TN.ix2, TN.ixl0, TN.ixl1, TN.ixl2, TN.ixm2, TN.ixm3, TN.len2, TN.len3, TN.neg1, TN.ty_tup, TN.ty_lst, TN.ty_str, TN.ty_int, TN.oLen_tupL, TN.oLen_lstL, TN.oU_int, TN.oEq_int, TN.oNe_int, decide_true, Bool.not_true, Bool.not_false, reduceCtorEq, Option.some.injEq, PyData.int.injEq, PyData.str.injEq, PyData.bool.injEq, PyData.list.injEq, PyData.tuple.injEq, exists_eq_left', TN.imp_ff, TN.imp_tf, TN.imp_tt, true_and, and_true, forall_const, true_implies, false_implies, TN.w_place_place, TN.n_place_place, TN.w_place_name, TN.n_place_name, TN.w_place_lost, TN.n_place_lost, TN.w_place_twice, TN.n_place_twice, TN.w_place_as, TN.n_place_as, TN.w_name_place, TN.n_name_place, TN.w_name_name, TN.n_name_name, TN.w_name_lost, TN.n_name_lost, TN.w_name_twice, TN.n_name_twice, TN.w_name_as, TN.n_name_as, TN.w_lost_place, TN.n_lost_place, TN.w_lost_name, TN.n_lost_name, TN.w_lost_lost, TN.n_lost_lost, TN.w_lost_twice, TN.n_lost_twice, TN.w_lost_as, TN.n_lost_as, TN.w_twice_place, TN.n_twice_place, TN.w_twice_name, TN.n_twice_name, TN.w_twice_lost, TN.n_twice_lost, TN.w_twice_twice, TN.n_twice_twice, TN.w_twice_as, TN.n_twice_as, TN.w_as_place, TN.n_as_place, TN.w_as_name, TN.n_as_name, TN.w_as_lost, TN.n_as_lost, TN.w_as_twice, TN.n_as_twice, TN.w_as_as, TN.n_as_as])
  simp only [l1, oEq_int, oU_str, ea, ez, decide_true]
  have a1 : ¬ ([c] < [97]) := by rw [List.cons_lt_cons_iff]; simp; omega
  have a2 : ¬ ([122] < [c]) := by rw [List.cons_lt_cons_iff]; simp; omega
  simp [a1, a2]

abbrev s_is_row : Stmt := topS 7
theorem sc_is_row : FnScope ["thing"] ["thing"] (defScope s_is_row) := ⟨rfl, rfl, rfl, by decide +kernel, rfl, by decide +kernel, by decide +kernel⟩
theorem ok_is_row (b : Blt mg) (h_are_unlike_letters : Has P w K mg base "are_unlike_letters" 2 ["parts"] (sp0 K semUnlikeL)) {tkM : Tok} (c_MOST_LETTERS : mg "MOST_LETTERS" = some (.int 16 tkM)) {f : Addr} {fd : FuncData} (F : Fun K "is_row" "is_row" s_is_row f fd) : FnG P w K mg base CX0 3 f fd ["thing"] (sp0 K semRow) := by
  refine fn0 (k := 2) F sc_is_row (fun ds Q h => by obtain ⟨x, rfl, _⟩ := h; rfl) (fun cdv A outer s H E hg hr =>
    have nd := sc_is_row.nd
    have hu := hr.units
    have hu1 := hu_of hr
    (pss_cons (ps_if (PW.pt (pw_or (pt_cmpR op_notTyB (pe_callTy call_typeF (by rfl) b.type (by decide +kernel) (pa_cons (pv 0) pa_nil)) (pe_bltn (v := .ty "tuple") (by rfl) b.tuple (by decide +kernel) rfl) (nomark _)) (pw_or1 (pt_not (pt_chain op_leU op_leU pe_int (pe_callB call_len (by rfl) b.len (by decide +kernel) (pa_cons (pv 0) pa_nil)) (pe_glob (v := .int 16) (by rfl) c_MOST_LETTERS ⟨_, rfl⟩)))))) (pss_one (ps_ret pe_bl)) pss_nil)
 (pss_one (ps_ret (pe_has (h_are_unlike_letters.up (by decide)) hg hr (by rfl) (pa_cons (pv 0) pa_nil))))))
    (ls_seq (ls_if (LB.g (lb_or (lb_test (LP.m (lp_typeNot (LP.m (lp_var (i := 0)))))) (lb_not (lb_test (LP.m (lp_chain (LP.m lp_int) (LP.m (lp_cb (lms_cons (LP.m (lp_var (i := 0))) lms_nil) rc_len)) (LP.m lp_int) rb_U rb_U)))))) (ls_ret (LP.e lp_bl)) ls_next)
 (ls_ret (le_call (les_cons (LP.e (lp_var (i := 0))) les_nil)))) ?_
  rintro ds Q ⟨r, rfl, hr, q⟩
  (simp only [TN.sSeq, TN.sNext, TN.sDrop, TN.sRet, TN.sRetL, TN.sRetN, TN.sIf, TN.sAsg, TN.sAsgL, TN.sStore, TN.sForL, TN.sForT, TN.sForR, TN.sForR2, TN.tgN, TN.tgTup, TN.tgCons, TN.tgNil, TN.dP, TN.dB, TN.dCall, TN.dCallL, TN.dCallB, TN.dCallBL, TN.dCons, TN.dNil, TN.dTup, TN.dLst, TN.dKeep, TN.dVar, TN.fVar, TN.fPeek, TN.fC, TN.f2, TN.d2, TN.d2V, TN.f1, TN.d1, TN.fCB, TN.dCB, TN.dCBL, TN.fNil, TN.fCons, TN.asBool, TN.dTest, TN.bAnd, TN.bOr, TN.bNot, TN.dAnd, TN.dOr, TN.dNot, TN.fAndV, TN.fOrV, TN.fNotV, TN.dAndV, TN.dOrV, TN.dNotV, TN.dIfE, TN.dIfL, TN.fIfE, TN.fChain, TN.fSlice, TN.dSlice, TN.fNo, TN.fEnd, TN.dAppend, TN.dInsert, TN.dPopAt, TN.ownL, TN.start0, TN.begB, TN.backD, TN.wipeD, TN.dYes, TN.sNever, List.getElem?_cons_zero, List.getElem?_cons_succ, List.set_cons_zero, List.set_cons_succ, List.map_cons, List.map_nil, List.length_cons, List.length_nil, List.cons_append, List.nil_append, List.replicate_succ, List.replicate_zero, Option.map_some, Option.map_none, Nat.add_one_sub_one, Nat.sub_zero, Nat.sub_self, Nat.zero_add, reduceCtorEq, Option.some.injEq, PyData.int.injEq, PyData.str.injEq, PyData.bool.injEq, PyData.list.injEq, PyData.tuple.injEq, Sl.sh.injEq, Sl.ow.injEq, List.cons.injEq, exists_eq_left', exists_eq_left, true_implies, false_implies, and_true, true_and, forall_const, Option.isSome_some, TN.imp_ff, TN.imp_tf, TN.imp_tt, exists_eq_left, exists_eq_left', exists_eq])
  have n1 := hr.few
  have n2 : 0 < r.length := List.length_pos_iff.mpr hr.ne
  have a1 : ((1 : Int) ≤ r.length) := by omega
  have a2 : ((r.length : Int) ≤ 16) := by omega
  refine ⟨false, ?_, (fun z => by cases z), fun _ => ⟨r, rfl, hr, _, rfl, q⟩⟩
  (simp only [Ev.d, TN.ix0, TN.ix1, TN.ix2, TN.ixl0, TN.ixl1, TN.ixl2, TN.ixm2, TN.ixm3, TN.len2, TN.len3, TN.neg1, TN.ty_tup, TN.ty_lst, TN.ty_str, TN.ty_int, TN.oLen_tupL, TN.oLen_lstL, TN.oU_int, TN.oEq_int, TN.oNe_int, decide_true, Bool.not_true, Bool.not_false, reduceCtorEq, Option.some.injEq, PyData.int.injEq, PyData.str.injEq, PyData.bool.injEq, PyData.list.injEq, PyData.tuple.injEq, exists_eq_left', TN.imp_ff, TN.imp_tf, TN.imp_tt, true_and, and_true, forall_const, true_implies, false_implies, TN.w_place_place, TN.n_place_place, TN.w_place_name, TN.n_place_name, TN.w_place_lost, TN.n_place_lost, TN.w_place_twice, TN.n_place_twice, TN.w_place_as, TN.n_place_as, TN.w_name_place, TN.n_name_place, TN.w_name_name, TN.n_name_name, TN.w_name_lost, TN.n_name_lost, TN.w_name_twice, TN.n_name_twice, TN.w_name_as, TN.n_name_as, TN.w_lost_place, TN.n_lost_place, TN.w_lost_name, TN.n_lost_name, TN.w_lost_lost, TN.n_lost_lost, TN.w_lost_twice, TN.n_lost_twice, TN.w_lost_as, TN.n_lost_as, TN.w_twice_place, TN.n_twice_place, TN.w_twice_name, TN.n_twice_name, TN.w_twice_lost, TN.n_twice_lost, TN.w_twice_twice, TN.n_twice_twice, TN.w_twice_as, TN.n_twice_as, TN.w_as_place, TN.n_as_place, TN.w_as_name, TN.n_as_name, TN.w_as_lost, TN.n_as_lost, TN.w_as_twice, TN.n_as_twice, TN.w_as_as, TN.n_as_as])
  simp [a1, a2]

abbrev s_are_unlike_letters : Stmt := topS 8
theorem sc_are_unlike_letters : FnScope ["parts", "part"] ["parts"] (defScope s_are_unlike_letters) := ⟨rfl, rfl, rfl, by decide +kernel, rfl, by decide +kernel, by decide +kernel⟩
theorem ok_are_unlike_letters (b : Blt mg) (h_is_letter : Has P w K mg base "is_letter" 1 ["thing"] (sp0 K semLetter)) {f : Addr} {fd : FuncData} (F : Fun K "are_unlike_letters" "are_unlike_letters" s_are_unlike_letters f fd) : FnG P w K mg base CX0 2 f fd ["parts"] (sp0 K semUnlikeL) := by
  refine fn0 (k := 1) F sc_are_unlike_letters (fun ds Q h => by obtain ⟨r, rfl, _⟩ := h; rfl) (fun cdv A outer s H E hg hr =>
    have nd := sc_are_unlike_letters.nd
    have hu := hr.units
    have hu1 := hu_of hr
    (pss_one (ps_ret (pe_and (pe_callB (cr_all rfl) (by rfl) b.all (by decide +kernel) (pa_cons (pe_lc (own := [("part", 1)]) (g := gName 1) (tt := tYes) rfl nd (pi_tup (pv 0)) (blkOk_by (own := [("part", 1)]) (N := ["parts", "part"]) (sc := defScope s_are_unlike_letters) (by decide +kernel)) (fun _ _ _ _ _ => pg_name (i := 1) nd rfl (by first | exact Or.inl rfl | exact Or.inr rfl)) (fun _ _ _ _ _ => by exact pts_nil) (fun _ _ _ _ _ => by exact (pe_has (h_is_letter.up (by decide)) hg hr (by rfl) (pa_cons (pv 1) pa_nil)))) pa_nil)) (pe_one (pe_cmpR (op_eqD hu) (pe_lenSetT rfl (by rfl) b.len (by rfl) b.set (pv 0)) (pe_callB call_len (by rfl) b.len (by decide +kernel) (pa_cons (pv 0) pa_nil)) (nomark _)))))))
    (ls_ret (le_andV (le_cb (les_cons (LL.e (ll_compT (j := 1) (vs := [1]) (by decide) (by decide) (LP.e (lp_var (i := 0))) lt_yes (le_call (les_cons (LP.e (lp_var (i := 1))) les_nil)))) les_nil) rc_all) (LP.e (lp_op (LP.m (lp_lenSet (LP.m (lp_var (i := 0))))) (LP.m (lp_cb (lms_cons (LP.m (lp_var (i := 0))) lms_nil) rc_len)) rb_eq)))) ?_
  rintro ds Q ⟨r, rfl, hr, q⟩
  (simp only [TN.sSeq, TN.sNext, TN.sDrop, TN.sRet, TN.sRetL, TN.sRetN, TN.sIf, TN.sAsg, TN.sAsgL, TN.sStore, TN.sForL, TN.sForT, TN.sForR, TN.sForR2, TN.tgN, TN.tgTup, TN.tgCons, TN.tgNil, TN.dP, TN.dB, TN.dCall, TN.dCallL, TN.dCallB, TN.dCallBL, TN.dCons, TN.dNil, TN.dTup, TN.dLst, TN.dKeep, TN.dVar, TN.fVar, TN.fPeek, TN.fC, TN.f2, TN.d2, TN.d2V, TN.f1, TN.d1, TN.fCB, TN.dCB, TN.dCBL, TN.fNil, TN.fCons, TN.asBool, TN.dTest, TN.bAnd, TN.bOr, TN.bNot, TN.dAnd, TN.dOr, TN.dNot, TN.fAndV, TN.fOrV, TN.fNotV, TN.dAndV, TN.dOrV, TN.dNotV, TN.dIfE, TN.dIfL, TN.fIfE, TN.fChain, TN.fSlice, TN.dSlice, TN.fNo, TN.fEnd, TN.dAppend, TN.dInsert, TN.dPopAt, TN.ownL, TN.start0, TN.begB, TN.backD, TN.wipeD, TN.dYes, TN.sNever, List.getElem?_cons_zero, List.getElem?_cons_succ, List.set_cons_zero, List.set_cons_succ, List.map_cons, List.map_nil, List.length_cons, List.length_nil, List.cons_append, List.nil_append, List.replicate_succ, List.replicate_zero, Option.map_some, Option.map_none, Nat.add_one_sub_one, Nat.sub_zero, Nat.sub_self, Nat.zero_add, reduceCtorEq, Option.some.injEq, PyData.int.injEq, PyData.str.injEq, PyData.bool.injEq, PyData.list.injEq, PyData.tuple.injEq, Sl.sh.injEq, Sl.ow.injEq, List.cons.injEq, exists_eq_left', exists_eq_left, true_implies, false_implies, and_true, true_and, forall_const, Option.isSome_some, TN.imp_ff, TN.imp_tf, TN.imp_tt, exists_eq_left, exists_eq_left', exists_eq])
  have n1 := hr.few
  have n2 : 0 < r.length := List.length_pos_iff.mpr hr.ne
  refine ⟨_, rfl, _, rfl, ?_⟩
  refine comp_all (fun d => ∃ x ∈ r, d = .str x) (fun _ => .bool true) rfl (fun _ => rfl) ?_ _ _ ?_ ?_ ?_
  · rintro d R ⟨x, hx, rfl⟩ k
    (simp only [TN.sSeq, TN.sNext, TN.sDrop, TN.sRet, TN.sRetL, TN.sRetN, TN.sIf, TN.sAsg, TN.sAsgL, TN.sStore, TN.sForL, TN.sForT, TN.sForR, TN.sForR2, TN.tgN, TN.tgTup, TN.tgCons, TN.tgNil, TN.dP, TN.dB, TN.dCall, TN.dCallL, TN.dCallB, TN.dCallBL, TN.dCons, TN.dNil, TN.dTup, TN.dLst, TN.dKeep, TN.dVar, TN.fVar, TN.fPeek, TN.fC, TN.f2, TN.d2, TN.d2V, TN.f1, TN.d1, TN.fCB, TN.dCB, TN.dCBL, TN.fNil, TN.fCons, TN.asBool, TN.dTest, TN.bAnd, TN.bOr, TN.bNot, TN.dAnd, TN.dOr, TN.dNot, TN.fAndV, TN.fOrV, TN.fNotV, TN.dAndV, TN.dOrV, TN.dNotV, TN.dIfE, TN.dIfL, TN.fIfE, TN.fChain, TN.fSlice, TN.dSlice, TN.fNo, TN.fEnd, TN.dAppend, TN.dInsert, TN.dPopAt, TN.ownL, TN.start0, TN.begB, TN.backD, TN.wipeD, TN.dYes, TN.sNever, List.getElem?_cons_zero, List.getElem?_cons_succ, List.set_cons_zero, List.set_cons_succ, List.map_cons, List.map_nil, List.length_cons, List.length_nil, List.cons_append, List.nil_append, List.replicate_succ, List.replicate_zero, Option.map_some, Option.map_none, Nat.add_one_sub_one, Nat.sub_zero, Nat.sub_self, Nat.zero_add, reduceCtorEq, Option.some.injEq, PyData.int.injEq, PyData.str.injEq, PyData.bool.injEq, PyData.list.injEq, PyData.tuple.injEq, Sl.sh.injEq, Sl.ow.injEq, List.cons.injEq, exists_eq_left', exists_eq_left, true_implies, false_implies, and_true, true_and, forall_const, Option.isSome_some, TN.imp_ff, TN.imp_tf, TN.imp_tt, exists_eq_left, exists_eq_left', exists_eq])
    exact ⟨x, rfl, hr.let' x hx, _, rfl, k⟩
  · intro d hd
    obtain ⟨x, hx, rfl⟩ := List.mem_map.mp hd
    exact ⟨x, hx, rfl⟩
  · simp; omega
  · rw [List.nil_append]
    refine ⟨_, oAll_tt, true, rfl, fun _ => ⟨.bool true, ?_, q⟩, (fun z => by cases z)⟩
    (simp only [TN.sSeq, TN.sNext, TN.sDrop, TN.sRet, TN.sRetL, TN.sRetN, TN.sIf, TN.sAsg, TN.sAsgL, TN.sStore, TN.sForL, TN.sForT, TN.sForR, TN.sForR2, TN.tgN, TN.tgTup, TN.tgCons, TN.tgNil, TN.dP, TN.dB, TN.dCall, TN.dCallL, TN.dCallB, TN.dCallBL, TN.dCons, TN.dNil, TN.dTup, TN.dLst, TN.dKeep, TN.dVar, TN.fVar, TN.fPeek, TN.fC, TN.f2, TN.d2, TN.d2V, TN.f1, TN.d1, TN.fCB, TN.dCB, TN.dCBL, TN.fNil, TN.fCons, TN.asBool, TN.dTest, TN.bAnd, TN.bOr, TN.bNot, TN.dAnd, TN.dOr, TN.dNot, TN.fAndV, TN.fOrV, TN.fNotV, TN.dAndV, TN.dOrV, TN.dNotV, TN.dIfE, TN.dIfL, TN.fIfE, TN.fChain, TN.fSlice, TN.dSlice, TN.fNo, TN.fEnd, TN.dAppend, TN.dInsert, TN.dPopAt, TN.ownL, TN.start0, TN.begB, TN.backD, TN.wipeD, TN.dYes, TN.sNever, List.getElem?_cons_zero, List.getElem?_cons_succ, List.set_cons_zero, List.set_cons_succ, List.map_cons, List.map_nil, List.length_cons, List.length_nil, List.cons_append, List.nil_append, List.replicate_succ, List.replicate_zero, Option.map_some, Option.map_none, Nat.add_one_sub_one, Nat.sub_zero, Nat.sub_self, Nat.zero_add, reduceCtorEq, Option.some.injEq, PyData.int.injEq, PyData.str.injEq, PyData.bool.injEq, PyData.list.injEq, PyData.tuple.injEq, Sl.sh.injEq, Sl.ow.injEq, List.cons.injEq, exists_eq_left', exists_eq_left, true_implies, false_implies, and_true, true_and, forall_const, Option.isSome_some, TN.imp_ff, TN.imp_tf, TN.imp_tt, exists_eq_left, exists_eq_left', exists_eq])
    rw [oLenSet_nd hr.nd (by omega)]
    (simp only [Ev.d, TN.ix0, TN.ix1, TN.ix2, TN.ixl0, TN.ixl1, TN.ixl2, TN.ixm2, TN.ixm3, TN.len2, TN.len3, TN.neg1, TN.ty_tup, TN.ty_lst, TN.ty_str, TN.ty_int, TN.oLen_tupL, TN.oLen_lstL, TN.oU_int, TN.oEq_int, TN.oNe_int, decide_true, Bool.not_true, Bool.not_false, reduceCtorEq, Option.some.injEq, PyData.int.injEq, PyData.str.injEq, PyData.bool.injEq, PyData.list.injEq, PyData.tuple.injEq, exists_eq_left', TN.imp_ff, TN.imp_tf, TN.imp_tt, true_and, and_true, forall_const, true_implies, false_implies, TN.w_place_place, TN.n_place_place, TN.w_place_name, TN.n_place_name, TN.w_place_lost, TN.n_place_lost, TN.w_place_twice, TN.n_place_twice, TN.w_place_as, TN.n_place_as, TN.w_name_place, TN.n_name_place, TN.w_name_name, TN.n_name_name, TN.w_name_lost, TN.n_name_lost, TN.w_name_twice, TN.n_name_twice, TN.w_name_as, TN.n_name_as, TN.w_lost_place, TN.n_lost_place, TN.w_lost_name, TN.n_lost_name, TN.w_lost_lost, TN.n_lost_lost, TN.w_lost_twice, TN.n_lost_twice, TN.w_lost_as, TN.n_lost_as, TN.w_twice_place, TN.n_twice_place, TN.w_twice_name, TN.n_twice_name, TN.w_twice_lost, TN.n_twice_lost, TN.w_twice_twice, TN.n_twice_twice, TN.w_twice_as, TN.n_twice_as, TN.w_as_place, TN.n_as_place, TN.w_as_name, TN.n_as_name, TN.w_as_lost, TN.n_as_lost, TN.w_as_twice, TN.n_as_twice, TN.w_as_as, TN.n_as_as])

abbrev s_is_pair : Stmt := topS 9
theorem sc_is_pair : FnScope ["thing", "told", "heard"] ["thing"] (defScope s_is_pair) := ⟨rfl, rfl, rfl, by decide +kernel, rfl, by decide +kernel, by decide +kernel⟩
theorem ok_is_pair (b : Blt mg) (h_is_row : Has P w K mg base "is_row" 3 ["thing"] (sp0 K semRow)) {f : Addr} {fd : FuncData} (F : Fun K "is_pair" "is_pair" s_is_pair f fd) : FnG P w K mg base CX0 4 f fd ["thing"] (sp0 K semPair) := by
  refine fn0 (k := 3) F sc_is_pair (fun ds Q h => by obtain ⟨t, x, rfl, _⟩ := h; rfl) (fun cdv A outer s H E hg hr =>
    have nd := sc_is_pair.nd
    have hu := hr.units
    have hu1 := hu_of hr
    (pss_cons (ps_if (PW.pt (pw_or (pt_cmpR op_notTyB (pe_callTy call_typeF (by rfl) b.type (by decide +kernel) (pa_cons (pv 0) pa_nil)) (pe_bltn (v := .ty "tuple") (by rfl) b.tuple (by decide +kernel) rfl) (nomark _)) (pw_or1 (pt_cmpR (op_neD hu) (pe_callB call_len (by rfl) b.len (by decide +kernel) (pa_cons (pv 0) pa_nil)) pe_int (nomark _))))) (pss_one (ps_ret pe_bl)) pss_nil)
 (pss_cons (ps_asg (pv 0) (pg_tup (n := 2) rfl (pgs_cons (pg_name (i := 1) nd rfl (by first | exact Or.inl rfl | exact Or.inr rfl)) (pgs_cons (pg_name (i := 2) nd rfl (by first | exact Or.inl rfl | exact Or.inr rfl)) pgs_nil))))
 (pss_one (ps_ret (pe_and (pe_has (h_is_row.up (by decide)) hg hr (by rfl) (pa_cons (pv 1) pa_nil)) (pe_and (pe_has (h_is_row.up (by decide)) hg hr (by rfl) (pa_cons (pv 2) pa_nil)) (pe_one (pe_cmpR (op_eqD hu) (pe_callB call_sortedA (by rfl) b.sorted (by decide +kernel) (pa_cons (pv 1) pa_nil)) (pe_callB call_sortedA (by rfl) b.sorted (by decide +kernel) (pa_cons (pv 2) pa_nil)) (nomark _))))))))))
    (ls_seq (ls_if (LB.g (lb_or (lb_test (LP.m (lp_typeNot (LP.m (lp_var (i := 0)))))) (lb_test (LP.m (lp_op (LP.m (lp_cb (lms_cons (LP.m (lp_var (i := 0))) lms_nil) rc_len)) (LP.m lp_int) rb_ne))))) (ls_ret (LP.e lp_bl)) ls_next)
 (ls_seq (ls_asg (LP.e (lp_var (i := 0))) (lg_tup (lgs_cons (lg_name (i := 1) (by decide)) (lgs_cons (lg_name (i := 2) (by decide)) lgs_nil))))
 (ls_ret (le_andV (le_call (les_cons (LP.e (lp_var (i := 1))) les_nil)) (le_andV (le_call (les_cons (LP.e (lp_var (i := 2))) les_nil)) (LP.e (lp_op (LP.m (lp_cb (lms_cons (LP.m (lp_var (i := 1))) lms_nil) (RCL.c rc_sorted))) (LP.m (lp_cb (lms_cons (LP.m (lp_var (i := 2))) lms_nil) (RCL.c rc_sorted))) rb_eq))))))) ?_
  rintro ds Q ⟨t, h, rfl, hp, q⟩
  (simp only [TN.sSeq, TN.sNext, TN.sDrop, TN.sRet, TN.sRetL, TN.sRetN, TN.sIf, TN.sAsg, TN.sAsgL, TN.sStore, TN.sForL, TN.sForT, TN.sForR, TN.sForR2, TN.tgN, TN.tgTup, TN.tgCons, TN.tgNil, TN.dP, TN.dB, TN.dCall, TN.dCallL, TN.dCallB, TN.dCallBL, TN.dCons, TN.dNil, TN.dTup, TN.dLst, TN.dKeep, TN.dVar, TN.fVar, TN.fPeek, TN.fC, TN.f2, TN.d2, TN.d2V, TN.f1, TN.d1, TN.fCB, TN.dCB, TN.dCBL, TN.fNil, TN.fCons, TN.asBool, TN.dTest, TN.bAnd, TN.bOr, TN.bNot, TN.dAnd, TN.dOr, TN.dNot, TN.fAndV, TN.fOrV, TN.fNotV, TN.dAndV, TN.dOrV, TN.dNotV, TN.dIfE, TN.dIfL, TN.fIfE, TN.fChain, TN.fSlice, TN.dSlice, TN.fNo, TN.fEnd, TN.dAppend, TN.dInsert, TN.dPopAt, TN.ownL, TN.start0, TN.begB, TN.backD, TN.wipeD, TN.dYes, TN.sNever, List.getElem?_cons_zero, List.getElem?_cons_succ, List.set_cons_zero, List.set_cons_succ, List.map_cons, List.map_nil, List.length_cons, List.length_nil, List.cons_append, List.nil_append, List.replicate_succ, List.replicate_zero, Option.map_some, Option.map_none, Nat.add_one_sub_one, Nat.sub_zero, Nat.sub_self, Nat.zero_add, reduceCtorEq, Option.some.injEq, PyData.int.injEq, PyData.str.injEq, PyData.bool.injEq, PyData.list.injEq, PyData.tuple.injEq, Sl.sh.injEq, Sl.ow.injEq, List.cons.injEq, exists_eq_left', exists_eq_left, true_implies, false_implies, and_true, true_and, forall_const, Option.isSome_some, TN.imp_ff, TN.imp_tf, TN.imp_tt, exists_eq_left, exists_eq_left', exists_eq])
  have n1 := hp.gt.few
  have n2 := hp.len
  refine ⟨false, by (simp only [Ev.d, TN.ix0, TN.ix1, TN.ix2, TN.ixl0, TN.ixl1, TN.ixl2, TN.ixm2, TN.ixm3, TN.len2, TN.len3, TN.neg1, TN.ty_tup, TN.ty_lst, TN.ty_str, TN.ty_int, TN.oLen_tupL, TN.oLen_lstL, TN.oU_int, TN.oEq_int, TN.oNe_int, decide_true, Bool.not_true, Bool.not_false, reduceCtorEq, Option.some.injEq, PyData.int.injEq, PyData.str.injEq, PyData.bool.injEq, PyData.list.injEq, PyData.tuple.injEq, exists_eq_left', TN.imp_ff, TN.imp_tf, TN.imp_tt, true_and, and_true, forall_const, true_implies, false_implies, TN.w_place_place, TN.n_place_place, TN.w_place_name, TN.n_place_name, TN.w_place_lost, TN.n_place_lost, TN.w_place_twice, TN.n_place_twice, TN.w_place_as, TN.n_place_as, TN.w_name_place, TN.n_name_place, TN.w_name_name, TN.n_name_name, TN.w_name_lost, TN.n_name_lost, TN.w_name_twice, TN.n_name_twice, TN.w_name_as, TN.n_name_as, TN.w_lost_place, TN.n_lost_place, TN.w_lost_name, TN.n_lost_name, TN.w_lost_lost, TN.n_lost_lost, TN.w_lost_twice, TN.n_lost_twice, TN.w_lost_as, TN.n_lost_as, TN.w_twice_place, TN.n_twice_place, TN.w_twice_name, TN.n_twice_name, TN.w_twice_lost, TN.n_twice_lost, TN.w_twice_twice, TN.n_twice_twice, TN.w_twice_as, TN.n_twice_as, TN.w_as_place, TN.n_as_place, TN.w_as_name, TN.n_as_name, TN.w_as_lost, TN.n_as_lost, TN.w_as_twice, TN.n_as_twice, TN.w_as_as, TN.n_as_as]), (fun z => by cases z), fun _ => ⟨_, _, ⟨rfl, rfl⟩, _, _, rfl, rfl, t, rfl, hp.gt, _, rfl, true, rfl, fun _ => ⟨h, rfl, hp.gh, _, rfl, true, rfl, fun _ => ⟨.bool true, ?_, q⟩, (fun z => by cases z)⟩, (fun z => by cases z)⟩⟩
  rw [oSL_of (by omega), oSL_of (by omega)]
  show oEq _ _ = _
  have ok : ∀ x ∈ sortS h, okS x := fun x hx => hp.gh.oks x ((sortS_perm h).mem_iff.mp hx)
  rw [sortS_congr hp.pm, oEq_is (fine_lstL ok) (fine_lstL ok)]
  simp

abbrev s_need_row : Stmt := topS 10
theorem sc_need_row : FnScope ["row"] ["row"] (defScope s_need_row) := ⟨rfl, rfl, rfl, by decide +kernel, rfl, by decide +kernel, by decide +kernel⟩
theorem ok_need_row (b : Blt mg) (h_is_row : Has P w K mg base "is_row" 3 ["thing"] (sp0 K semRow)) {f : Addr} {fd : FuncData} (F : Fun K "need_row" "need_row" s_need_row f fd) : FnG P w K mg base CX0 4 f fd ["row"] (sp0 K semNeedRow) := by
  refine fn0 (k := 3) F sc_need_row (fun ds Q h => by obtain ⟨r, rfl, _⟩ := h; rfl) (fun cdv A outer s H E hg hr =>
    have nd := sc_need_row.nd
    have hu := hr.units
    have hu1 := hu_of hr
    (pss_one (ps_if (pt_not (pt_val (pe_has (h_is_row.up (by decide)) hg hr (by rfl) (pa_cons (pv 0) pa_nil)))) (pss_one ps_never) pss_nil)))
    (ls_if (lt_not (lt_B (le_call (les_cons (LP.e (lp_var (i := 0))) les_nil)))) ls_never ls_next) ?_
  rintro ds Q ⟨r, rfl, gr, q⟩
  (simp only [TN.dCallM, TN.mVar, TN.sRetV, TN.dAug, TN.dCallNT, TN.dCallNL, TN.fIxTs, TN.sForI, TN.dCompI, TN.dCompL, TN.dCompT, TN.dCompR, TN.iL, TN.iT, TN.iR1, TN.iR2, TN.iR3, TN.iS, TN.iE, TN.iRv, TN.iZ, TN.dKeepT, TN.dCallT, TN.pTup, TN.pCons, TN.pOwn, TN.sAsgT, TN.sRetT, TN.tpL, TN.fIxT, TN.fTp, TN.dAppendT, TN.dReverseT, TN.dClearT, TN.dVarT, TN.dReverse, TN.dClear, TN.dPop, Pt.d, Sl.tp.injEq, TN.startF, TN.dCallV, Sl.fn.injEq, TN.dCallF, TN.dLRev, TN.dLAdd, TN.dLSlP, TN.dLSlice, TN.dSliceE, TN.dNo, TN.dEnd, TN.fNo, TN.sSeq, TN.sNext, TN.sDrop, TN.sRet, TN.sRetL, TN.sRetN, TN.sIf, TN.sAsg, TN.sAsgL, TN.sStore, TN.sForL, TN.sForT, TN.sForR, TN.sForR2, TN.tgN, TN.tgTup, TN.tgCons, TN.tgNil, TN.dP, TN.dB, TN.dCall, TN.dCallL, TN.dCallB, TN.dCallBL, TN.dCons, TN.dNil, TN.dTup, TN.dLst, TN.dKeep, TN.dVar, TN.fVar, TN.fPeek, TN.fC, TN.f2, TN.d2, TN.d2V, TN.f1, TN.d1, TN.fCB, TN.dCB, TN.dCBL, TN.fNil, TN.fCons, TN.asBool, TN.dTest, TN.bAnd, TN.bOr, TN.bNot, TN.dAnd, TN.dOr, TN.dNot, TN.fAndV, TN.fOrV, TN.fNotV, TN.dAndV, TN.dOrV, TN.dNotV, TN.dIfE, TN.dIfL, TN.fIfE, TN.fChain, TN.fSlice, TN.dSlice, TN.fNo, TN.fEnd, TN.dAppend, TN.dInsert, TN.dPopAt, TN.ownL, TN.start0, TN.begB, TN.backD, TN.wipeD, TN.dYes, TN.sNever, List.getElem?_cons_zero, List.getElem?_cons_succ, List.set_cons_zero, List.set_cons_succ, List.map_cons, List.map_nil, List.length_cons, List.length_nil, List.cons_append, List.nil_append, List.replicate_succ, List.replicate_zero, Option.map_some, Option.map_none, Nat.add_one_sub_one, Nat.sub_zero, Nat.sub_self, Nat.zero_add, reduceCtorEq, Option.some.injEq, PyData.int.injEq, PyData.str.injEq, PyData.bool.injEq, PyData.list.injEq, PyData.tuple.injEq, Sl.sh.injEq, Sl.ow.injEq, List.cons.injEq, exists_eq_left', exists_eq_left, true_implies, false_implies, and_true, true_and, forall_const, Option.isSome_some, TN.imp_ff, TN.imp_tf, TN.imp_tt, exists_eq_left, exists_eq_left', exists_eq])
  exact ⟨r, rfl, gr, _, rfl, true, rfl, (fun z => by cases z), fun _ => q⟩

abbrev s_is_ahead : Stmt := topS 12
theorem sc_is_ahead : FnScope ["rows", "letter", "other", "row"] ["rows", "letter", "other"] (defScope s_is_ahead) := ⟨rfl, rfl, rfl, by decide +kernel, rfl, by decide +kernel, by decide +kernel⟩
theorem ok_is_ahead (b : Blt mg) {f : Addr} {fd : FuncData} (F : Fun K "is_ahead" "is_ahead" s_is_ahead f fd) : FnG P w K mg base CX0 1 f fd ["rows", "letter", "other"] (sp0 K semAhead) := by
  refine fn0 (k := 0) F sc_is_ahead (fun ds Q h => by obtain ⟨Rs, r0, x, y, rfl | rfl, _⟩ := h <;> rfl) (fun cdv A outer s H E hg hr =>
    have nd := sc_is_ahead.nd
    have hu := hr.units
    have hu1 := hu_of hr
    (pss_one (ps_ret (pe_callB (cr_all rfl) (by rfl) b.all (by decide +kernel) (pa_cons (pe_lc (own := [("row", 3)]) (g := (gName 3)) (tt := tYes) rfl nd (pi_lt (pv 0)) (blkOk_by (own := [("row", 3)]) (N := ["rows", "letter", "other", "row"]) (sc := defScope s_is_ahead) (by decide +kernel)) (fun _ _ _ _ _ => (pg_name (i := 3) nd rfl (by first | exact Or.inl rfl | exact Or.inr rfl))) (fun _ _ _ _ _ => by exact pts_nil) (fun _ _ _ _ _ => by exact (pe_cmpR op_ltU (pe_tidx (pv 3) (pv 1)) (pe_tidx (pv 3) (pv 2)) (nomark _)))) pa_nil)))))
    (ls_ret (le_cb (les_cons (LL.e (ll_compI (vs := [3]) (li_lt (LP.e (lp_var (i := 0)))) (lgc_name (by decide) (by decide)) (by decide) lt_yes (LP.e (lp_op (LP.m (lp_tindex (LP.m (lp_var (i := 3))) (LP.m (lp_var (i := 1))))) (LP.m (lp_tindex (LP.m (lp_var (i := 3))) (LP.m (lp_var (i := 2))))) rb_U)))) les_nil) rc_all)) ?_
  rintro ds Q ⟨Rs, r0, x, y, ed, ro, hx, hy, q⟩
  rcases ed with rfl | rfl
  · (simp only [TN.iK, TN.iV, TN.iLT, TN.pNew, TN.dCallN, TN.dCompI2, TN.dLAddE, TN.oD, TN.sDNew, TN.sPutD, TN.fGetO, TN.fGetO2, TN.fInO, TN.fNinO, TN.dVarD, TN.dExtS, TN.mOwn, TN.dCallM, TN.mVar, TN.sRetV, TN.dAug, TN.dCallNT, TN.dCallNL, TN.fIxTs, TN.sForI, TN.dCompI, TN.dCompL, TN.dCompT, TN.dCompR, TN.iL, TN.iT, TN.iR1, TN.iR2, TN.iR3, TN.iS, TN.iE, TN.iRv, TN.iZ, TN.dKeepT, TN.dCallT, TN.pTup, TN.pCons, TN.pOwn, TN.sAsgT, TN.sRetT, TN.tpL, TN.fIxT, TN.fTp, TN.dAppendT, TN.dReverseT, TN.dClearT, TN.dVarT, TN.dReverse, TN.dClear, TN.dPop, Pt.d, Sl.tp.injEq, TN.startF, TN.dCallV, Sl.fn.injEq, TN.dCallF, TN.dLRev, TN.dLAdd, TN.dLSlP, TN.dLSlice, TN.dSliceE, TN.dNo, TN.dEnd, TN.fNo, TN.sSeq, TN.sNext, TN.sDrop, TN.sRet, TN.sRetL, TN.sRetN, TN.sIf, TN.sAsg, TN.sAsgL, TN.sStore, TN.sForL, TN.sForT, TN.sForR, TN.sForR2, TN.tgN, TN.tgTup, TN.tgCons, TN.tgNil, TN.dP, TN.dB, TN.dCall, TN.dCallL, TN.dCallB, TN.dCallBL, TN.dCons, TN.dNil, TN.dTup, TN.dLst, TN.dKeep, TN.dVar, TN.fVar, TN.fPeek, TN.fC, TN.f2, TN.d2, TN.d2V, TN.f1, TN.d1, TN.fCB, TN.dCB, TN.dCBL, TN.fNil, TN.fCons, TN.asBool, TN.dTest, TN.bAnd, TN.bOr, TN.bNot, TN.dAnd, TN.dOr, TN.dNot, TN.fAndV, TN.fOrV, TN.fNotV, TN.dAndV, TN.dOrV, TN.dNotV, TN.dIfE, TN.dIfL, TN.fIfE, TN.fChain, TN.fSlice, TN.dSlice, TN.fNo, TN.fEnd, TN.dAppend, TN.dInsert, TN.dPopAt, TN.ownL, TN.start0, TN.begB, TN.backD, TN.wipeD, TN.dYes, TN.sNever, List.getElem?_cons_zero, List.getElem?_cons_succ, List.set_cons_zero, List.set_cons_succ, List.map_cons, List.map_nil, List.length_cons, List.length_nil, List.cons_append, List.nil_append, List.replicate_succ, List.replicate_zero, Option.map_some, Option.map_none, Nat.add_one_sub_one, Nat.sub_zero, Nat.sub_self, Nat.zero_add, reduceCtorEq, Option.some.injEq, PyData.int.injEq, PyData.str.injEq, PyData.bool.injEq, PyData.list.injEq, PyData.tuple.injEq, Sl.sh.injEq, Sl.ow.injEq, List.cons.injEq, exists_eq_left', exists_eq_left, true_implies, false_implies, and_true, true_and, forall_const, Option.isSome_some, TN.imp_ff, TN.imp_tf, TN.imp_tt, exists_eq_left, exists_eq_left', exists_eq])
    refine ⟨_, .inr rfl, ?_⟩
    refine compT_fil tupL (fun r => .bool (decide (ixS x r < ixS y r))) (fun _ => true) (fun r => r ∈ Rs) (fun r => [.sh (.tuple (Rs.map tupL)), .sh (.str x), .sh (.str y), .sh (tupL r)]) rfl (fun r K k => k) (fun r => rfl) (fun r R _ k => ?_) (fun r R hr _ k => ?_) Rs [] (fun _ h => h) (by have := ro.few; simp; omega) ?_
    · (simp only [TN.iK, TN.iV, TN.iLT, TN.pNew, TN.dCallN, TN.dCompI2, TN.dLAddE, TN.oD, TN.sDNew, TN.sPutD, TN.fGetO, TN.fGetO2, TN.fInO, TN.fNinO, TN.dVarD, TN.dExtS, TN.mOwn, TN.dCallM, TN.mVar, TN.sRetV, TN.dAug, TN.dCallNT, TN.dCallNL, TN.fIxTs, TN.sForI, TN.dCompI, TN.dCompL, TN.dCompT, TN.dCompR, TN.iL, TN.iT, TN.iR1, TN.iR2, TN.iR3, TN.iS, TN.iE, TN.iRv, TN.iZ, TN.dKeepT, TN.dCallT, TN.pTup, TN.pCons, TN.pOwn, TN.sAsgT, TN.sRetT, TN.tpL, TN.fIxT, TN.fTp, TN.dAppendT, TN.dReverseT, TN.dClearT, TN.dVarT, TN.dReverse, TN.dClear, TN.dPop, Pt.d, Sl.tp.injEq, TN.startF, TN.dCallV, Sl.fn.injEq, TN.dCallF, TN.dLRev, TN.dLAdd, TN.dLSlP, TN.dLSlice, TN.dSliceE, TN.dNo, TN.dEnd, TN.fNo, TN.sSeq, TN.sNext, TN.sDrop, TN.sRet, TN.sRetL, TN.sRetN, TN.sIf, TN.sAsg, TN.sAsgL, TN.sStore, TN.sForL, TN.sForT, TN.sForR, TN.sForR2, TN.tgN, TN.tgTup, TN.tgCons, TN.tgNil, TN.dP, TN.dB, TN.dCall, TN.dCallL, TN.dCallB, TN.dCallBL, TN.dCons, TN.dNil, TN.dTup, TN.dLst, TN.dKeep, TN.dVar, TN.fVar, TN.fPeek, TN.fC, TN.f2, TN.d2, TN.d2V, TN.f1, TN.d1, TN.fCB, TN.dCB, TN.dCBL, TN.fNil, TN.fCons, TN.asBool, TN.dTest, TN.bAnd, TN.bOr, TN.bNot, TN.dAnd, TN.dOr, TN.dNot, TN.fAndV, TN.fOrV, TN.fNotV, TN.dAndV, TN.dOrV, TN.dNotV, TN.dIfE, TN.dIfL, TN.fIfE, TN.fChain, TN.fSlice, TN.dSlice, TN.fNo, TN.fEnd, TN.dAppend, TN.dInsert, TN.dPopAt, TN.ownL, TN.start0, TN.begB, TN.backD, TN.wipeD, TN.dYes, TN.sNever, List.getElem?_cons_zero, List.getElem?_cons_succ, List.set_cons_zero, List.set_cons_succ, List.map_cons, List.map_nil, List.length_cons, List.length_nil, List.cons_append, List.nil_append, List.replicate_succ, List.replicate_zero, Option.map_some, Option.map_none, Nat.add_one_sub_one, Nat.sub_zero, Nat.sub_self, Nat.zero_add, reduceCtorEq, Option.some.injEq, PyData.int.injEq, PyData.str.injEq, PyData.bool.injEq, PyData.list.injEq, PyData.tuple.injEq, Sl.sh.injEq, Sl.ow.injEq, List.cons.injEq, exists_eq_left', exists_eq_left, true_implies, false_implies, and_true, true_and, forall_const, Option.isSome_some, TN.imp_ff, TN.imp_tf, TN.imp_tt, exists_eq_left, exists_eq_left', exists_eq])
      exact k
    · (simp only [TN.iK, TN.iV, TN.iLT, TN.pNew, TN.dCallN, TN.dCompI2, TN.dLAddE, TN.oD, TN.sDNew, TN.sPutD, TN.fGetO, TN.fGetO2, TN.fInO, TN.fNinO, TN.dVarD, TN.dExtS, TN.mOwn, TN.dCallM, TN.mVar, TN.sRetV, TN.dAug, TN.dCallNT, TN.dCallNL, TN.fIxTs, TN.sForI, TN.dCompI, TN.dCompL, TN.dCompT, TN.dCompR, TN.iL, TN.iT, TN.iR1, TN.iR2, TN.iR3, TN.iS, TN.iE, TN.iRv, TN.iZ, TN.dKeepT, TN.dCallT, TN.pTup, TN.pCons, TN.pOwn, TN.sAsgT, TN.sRetT, TN.tpL, TN.fIxT, TN.fTp, TN.dAppendT, TN.dReverseT, TN.dClearT, TN.dVarT, TN.dReverse, TN.dClear, TN.dPop, Pt.d, Sl.tp.injEq, TN.startF, TN.dCallV, Sl.fn.injEq, TN.dCallF, TN.dLRev, TN.dLAdd, TN.dLSlP, TN.dLSlice, TN.dSliceE, TN.dNo, TN.dEnd, TN.fNo, TN.sSeq, TN.sNext, TN.sDrop, TN.sRet, TN.sRetL, TN.sRetN, TN.sIf, TN.sAsg, TN.sAsgL, TN.sStore, TN.sForL, TN.sForT, TN.sForR, TN.sForR2, TN.tgN, TN.tgTup, TN.tgCons, TN.tgNil, TN.dP, TN.dB, TN.dCall, TN.dCallL, TN.dCallB, TN.dCallBL, TN.dCons, TN.dNil, TN.dTup, TN.dLst, TN.dKeep, TN.dVar, TN.fVar, TN.fPeek, TN.fC, TN.f2, TN.d2, TN.d2V, TN.f1, TN.d1, TN.fCB, TN.dCB, TN.dCBL, TN.fNil, TN.fCons, TN.asBool, TN.dTest, TN.bAnd, TN.bOr, TN.bNot, TN.dAnd, TN.dOr, TN.dNot, TN.fAndV, TN.fOrV, TN.fNotV, TN.dAndV, TN.dOrV, TN.dNotV, TN.dIfE, TN.dIfL, TN.fIfE, TN.fChain, TN.fSlice, TN.dSlice, TN.fNo, TN.fEnd, TN.dAppend, TN.dInsert, TN.dPopAt, TN.ownL, TN.start0, TN.begB, TN.backD, TN.wipeD, TN.dYes, TN.sNever, List.getElem?_cons_zero, List.getElem?_cons_succ, List.set_cons_zero, List.set_cons_succ, List.map_cons, List.map_nil, List.length_cons, List.length_nil, List.cons_append, List.nil_append, List.replicate_succ, List.replicate_zero, Option.map_some, Option.map_none, Nat.add_one_sub_one, Nat.sub_zero, Nat.sub_self, Nat.zero_add, reduceCtorEq, Option.some.injEq, PyData.int.injEq, PyData.str.injEq, PyData.bool.injEq, PyData.list.injEq, PyData.tuple.injEq, Sl.sh.injEq, Sl.ow.injEq, List.cons.injEq, exists_eq_left', exists_eq_left, true_implies, false_implies, and_true, true_and, forall_const, Option.isSome_some, TN.imp_ff, TN.imp_tf, TN.imp_tt, exists_eq_left, exists_eq_left', exists_eq])
      have pr := ro.all r hr
      have h1 := oTIx (pr.mem_iff.mpr hx)
      have h2 := oTIx (pr.mem_iff.mpr hy)
      simp only [h1, h2, oU_int]
      have e : decide ((ixS x r : Int) < (ixS y r : Int)) = decide (ixS x r < ixS y r) := decide_eq_decide.mpr (by omega)
      rw [e]
      exact ⟨_, rfl, k⟩
    rw [List.nil_append, List.filter_eq_self.mpr (fun _ _ => rfl)]
    exact ⟨_, oAll_map _ _, q⟩
  · (simp only [TN.iK, TN.iV, TN.iLT, TN.pNew, TN.dCallN, TN.dCompI2, TN.dLAddE, TN.oD, TN.sDNew, TN.sPutD, TN.fGetO, TN.fGetO2, TN.fInO, TN.fNinO, TN.dVarD, TN.dExtS, TN.mOwn, TN.dCallM, TN.mVar, TN.sRetV, TN.dAug, TN.dCallNT, TN.dCallNL, TN.fIxTs, TN.sForI, TN.dCompI, TN.dCompL, TN.dCompT, TN.dCompR, TN.iL, TN.iT, TN.iR1, TN.iR2, TN.iR3, TN.iS, TN.iE, TN.iRv, TN.iZ, TN.dKeepT, TN.dCallT, TN.pTup, TN.pCons, TN.pOwn, TN.sAsgT, TN.sRetT, TN.tpL, TN.fIxT, TN.fTp, TN.dAppendT, TN.dReverseT, TN.dClearT, TN.dVarT, TN.dReverse, TN.dClear, TN.dPop, Pt.d, Sl.tp.injEq, TN.startF, TN.dCallV, Sl.fn.injEq, TN.dCallF, TN.dLRev, TN.dLAdd, TN.dLSlP, TN.dLSlice, TN.dSliceE, TN.dNo, TN.dEnd, TN.fNo, TN.sSeq, TN.sNext, TN.sDrop, TN.sRet, TN.sRetL, TN.sRetN, TN.sIf, TN.sAsg, TN.sAsgL, TN.sStore, TN.sForL, TN.sForT, TN.sForR, TN.sForR2, TN.tgN, TN.tgTup, TN.tgCons, TN.tgNil, TN.dP, TN.dB, TN.dCall, TN.dCallL, TN.dCallB, TN.dCallBL, TN.dCons, TN.dNil, TN.dTup, TN.dLst, TN.dKeep, TN.dVar, TN.fVar, TN.fPeek, TN.fC, TN.f2, TN.d2, TN.d2V, TN.f1, TN.d1, TN.fCB, TN.dCB, TN.dCBL, TN.fNil, TN.fCons, TN.asBool, TN.dTest, TN.bAnd, TN.bOr, TN.bNot, TN.dAnd, TN.dOr, TN.dNot, TN.fAndV, TN.fOrV, TN.fNotV, TN.dAndV, TN.dOrV, TN.dNotV, TN.dIfE, TN.dIfL, TN.fIfE, TN.fChain, TN.fSlice, TN.dSlice, TN.fNo, TN.fEnd, TN.dAppend, TN.dInsert, TN.dPopAt, TN.ownL, TN.start0, TN.begB, TN.backD, TN.wipeD, TN.dYes, TN.sNever, List.getElem?_cons_zero, List.getElem?_cons_succ, List.set_cons_zero, List.set_cons_succ, List.map_cons, List.map_nil, List.length_cons, List.length_nil, List.cons_append, List.nil_append, List.replicate_succ, List.replicate_zero, Option.map_some, Option.map_none, Nat.add_one_sub_one, Nat.sub_zero, Nat.sub_self, Nat.zero_add, reduceCtorEq, Option.some.injEq, PyData.int.injEq, PyData.str.injEq, PyData.bool.injEq, PyData.list.injEq, PyData.tuple.injEq, Sl.sh.injEq, Sl.ow.injEq, List.cons.injEq, exists_eq_left', exists_eq_left, true_implies, false_implies, and_true, true_and, forall_const, Option.isSome_some, TN.imp_ff, TN.imp_tf, TN.imp_tt, exists_eq_left, exists_eq_left', exists_eq])
    refine ⟨_, .inl rfl, ?_⟩
    refine compT_fil tupL (fun r => .bool (decide (ixS x r < ixS y r))) (fun _ => true) (fun r => r ∈ Rs) (fun r => [.sh (.list (Rs.map tupL)), .sh (.str x), .sh (.str y), .sh (tupL r)]) rfl (fun r K k => k) (fun r => rfl) (fun r R _ k => ?_) (fun r R hr _ k => ?_) Rs [] (fun _ h => h) (by have := ro.few; simp; omega) ?_
    · (simp only [TN.iK, TN.iV, TN.iLT, TN.pNew, TN.dCallN, TN.dCompI2, TN.dLAddE, TN.oD, TN.sDNew, TN.sPutD, TN.fGetO, TN.fGetO2, TN.fInO, TN.fNinO, TN.dVarD, TN.dExtS, TN.mOwn, TN.dCallM, TN.mVar, TN.sRetV, TN.dAug, TN.dCallNT, TN.dCallNL, TN.fIxTs, TN.sForI, TN.dCompI, TN.dCompL, TN.dCompT, TN.dCompR, TN.iL, TN.iT, TN.iR1, TN.iR2, TN.iR3, TN.iS, TN.iE, TN.iRv, TN.iZ, TN.dKeepT, TN.dCallT, TN.pTup, TN.pCons, TN.pOwn, TN.sAsgT, TN.sRetT, TN.tpL, TN.fIxT, TN.fTp, TN.dAppendT, TN.dReverseT, TN.dClearT, TN.dVarT, TN.dReverse, TN.dClear, TN.dPop, Pt.d, Sl.tp.injEq, TN.startF, TN.dCallV, Sl.fn.injEq, TN.dCallF, TN.dLRev, TN.dLAdd, TN.dLSlP, TN.dLSlice, TN.dSliceE, TN.dNo, TN.dEnd, TN.fNo, TN.sSeq, TN.sNext, TN.sDrop, TN.sRet, TN.sRetL, TN.sRetN, TN.sIf, TN.sAsg, TN.sAsgL, TN.sStore, TN.sForL, TN.sForT, TN.sForR, TN.sForR2, TN.tgN, TN.tgTup, TN.tgCons, TN.tgNil, TN.dP, TN.dB, TN.dCall, TN.dCallL, TN.dCallB, TN.dCallBL, TN.dCons, TN.dNil, TN.dTup, TN.dLst, TN.dKeep, TN.dVar, TN.fVar, TN.fPeek, TN.fC, TN.f2, TN.d2, TN.d2V, TN.f1, TN.d1, TN.fCB, TN.dCB, TN.dCBL, TN.fNil, TN.fCons, TN.asBool, TN.dTest, TN.bAnd, TN.bOr, TN.bNot, TN.dAnd, TN.dOr, TN.dNot, TN.fAndV, TN.fOrV, TN.fNotV, TN.dAndV, TN.dOrV, TN.dNotV, TN.dIfE, TN.dIfL, TN.fIfE, TN.fChain, TN.fSlice, TN.dSlice, TN.fNo, TN.fEnd, TN.dAppend, TN.dInsert, TN.dPopAt, TN.ownL, TN.start0, TN.begB, TN.backD, TN.wipeD, TN.dYes, TN.sNever, List.getElem?_cons_zero, List.getElem?_cons_succ, List.set_cons_zero, List.set_cons_succ, List.map_cons, List.map_nil, List.length_cons, List.length_nil, List.cons_append, List.nil_append, List.replicate_succ, List.replicate_zero, Option.map_some, Option.map_none, Nat.add_one_sub_one, Nat.sub_zero, Nat.sub_self, Nat.zero_add, reduceCtorEq, Option.some.injEq, PyData.int.injEq, PyData.str.injEq, PyData.bool.injEq, PyData.list.injEq, PyData.tuple.injEq, Sl.sh.injEq, Sl.ow.injEq, List.cons.injEq, exists_eq_left', exists_eq_left, true_implies, false_implies, and_true, true_and, forall_const, Option.isSome_some, TN.imp_ff, TN.imp_tf, TN.imp_tt, exists_eq_left, exists_eq_left', exists_eq])
      exact k
    · (simp only [TN.iK, TN.iV, TN.iLT, TN.pNew, TN.dCallN, TN.dCompI2, TN.dLAddE, TN.oD, TN.sDNew, TN.sPutD, TN.fGetO, TN.fGetO2, TN.fInO, TN.fNinO, TN.dVarD, TN.dExtS, TN.mOwn, TN.dCallM, TN.mVar, TN.sRetV, TN.dAug, TN.dCallNT, TN.dCallNL, TN.fIxTs, TN.sForI, TN.dCompI, TN.dCompL, TN.dCompT, TN.dCompR, TN.iL, TN.iT, TN.iR1, TN.iR2, TN.iR3, TN.iS, TN.iE, TN.iRv, TN.iZ, TN.dKeepT, TN.dCallT, TN.pTup, TN.pCons, TN.pOwn, TN.sAsgT, TN.sRetT, TN.tpL, TN.fIxT, TN.fTp, TN.dAppendT, TN.dReverseT, TN.dClearT, TN.dVarT, TN.dReverse, TN.dClear, TN.dPop, Pt.d, Sl.tp.injEq, TN.startF, TN.dCallV, Sl.fn.injEq, TN.dCallF, TN.dLRev, TN.dLAdd, TN.dLSlP, TN.dLSlice, TN.dSliceE, TN.dNo, TN.dEnd, TN.fNo, TN.sSeq, TN.sNext, TN.sDrop, TN.sRet, TN.sRetL, TN.sRetN, TN.sIf, TN.sAsg, TN.sAsgL, TN.sStore, TN.sForL, TN.sForT, TN.sForR, TN.sForR2, TN.tgN, TN.tgTup, TN.tgCons, TN.tgNil, TN.dP, TN.dB, TN.dCall, TN.dCallL, TN.dCallB, TN.dCallBL, TN.dCons, TN.dNil, TN.dTup, TN.dLst, TN.dKeep, TN.dVar, TN.fVar, TN.fPeek, TN.fC, TN.f2, TN.d2, TN.d2V, TN.f1, TN.d1, TN.fCB, TN.dCB, TN.dCBL, TN.fNil, TN.fCons, TN.asBool, TN.dTest, TN.bAnd, TN.bOr, TN.bNot, TN.dAnd, TN.dOr, TN.dNot, TN.fAndV, TN.fOrV, TN.fNotV, TN.dAndV, TN.dOrV, TN.dNotV, TN.dIfE, TN.dIfL, TN.fIfE, TN.fChain, TN.fSlice, TN.dSlice, TN.fNo, TN.fEnd, TN.dAppend, TN.dInsert, TN.dPopAt, TN.ownL, TN.start0, TN.begB, TN.backD, TN.wipeD, TN.dYes, TN.sNever, List.getElem?_cons_zero, List.getElem?_cons_succ, List.set_cons_zero, List.set_cons_succ, List.map_cons, List.map_nil, List.length_cons, List.length_nil, List.cons_append, List.nil_append, List.replicate_succ, List.replicate_zero, Option.map_some, Option.map_none, Nat.add_one_sub_one, Nat.sub_zero, Nat.sub_self, Nat.zero_add, reduceCtorEq, Option.some.injEq, PyData.int.injEq, PyData.str.injEq, PyData.bool.injEq, PyData.list.injEq, PyData.tuple.injEq, Sl.sh.injEq, Sl.ow.injEq, List.cons.injEq, exists_eq_left', exists_eq_left, true_implies, false_implies, and_true, true_and, forall_const, Option.isSome_some, TN.imp_ff, TN.imp_tf, TN.imp_tt, exists_eq_left, exists_eq_left', exists_eq])
      have pr := ro.all r hr
      have h1 := oTIx (pr.mem_iff.mpr hx)
      have h2 := oTIx (pr.mem_iff.mpr hy)
      simp only [h1, h2, oU_int]
      have e : decide ((ixS x r : Int) < (ixS y r : Int)) = decide (ixS x r < ixS y r) := decide_eq_decide.mpr (by omega)
      rw [e]
      exact ⟨_, rfl, k⟩
    rw [List.nil_append, List.filter_eq_self.mpr (fun _ _ => rfl)]
    exact ⟨_, oAll_map _ _, q⟩

abbrev s_lengths_from : Stmt := topS 13
theorem sc_lengths_from : FnScope ["rows", "lengths", "letter", "behind", "other"] ["rows"] (defScope s_lengths_from) := ⟨rfl, rfl, rfl, by decide +kernel, rfl, by decide +kernel, by decide +kernel⟩
theorem ok_lengths_from (b : Blt mg) (h_is_ahead : Has P w K mg base "is_ahead" 1 ["rows", "letter", "other"] (sp0 K semAhead)) {f : Addr} {fd : FuncData} (F : Fun K "lengths_from" "lengths_from" s_lengths_from f fd) : FnG P w K mg base CX0 2 f fd ["rows"] (sp0 K semLengths) := by
  refine fn0 (k := 1) F sc_lengths_from (fun ds Q h => by obtain ⟨Rs, r0, rfl | rfl, _⟩ := h <;> rfl) (fun cdv A outer s H E hg hr =>
    have nd := sc_lengths_from.nd
    have hu := hr.units
    have hu1 := hu_of hr
    (pss_cons (ps_set (i := 1) nd rfl (by first | exact Or.inl rfl | exact Or.inr rfl) pe_dnewK)
 (pss_cons (ps_for PassesOwn.never rfl (RT.pi_revA (by rfl) b.reversed (pe_ix ix_seq (pv 0) pe_int (fun _ _ => rfl))) (pg_name (i := 2) nd rfl (by first | exact Or.inl rfl | exact Or.inr rfl)) (pss_cons (ps_lock (ps_setLc (i := 3) (own := [("other", 4)]) (g := (gName 4)) rfl nd rfl rfl (sw_true rfl rfl rfl (by decide +kernel)) (pi_keys (pv 1)) (blkOk_by (own := [("other", 4)]) (N := ["rows", "lengths", "letter", "behind", "other"]) (sc := defScope s_lengths_from) (by decide +kernel)) (fun _ _ _ _ _ => (pg_name (i := 4) nd rfl (by first | exact Or.inl rfl | exact Or.inr rfl))) (fun _ _ _ _ _ => by exact (pts_one (pt_val (pe_has (h_is_ahead.up (by decide)) hg hr (by rfl) (pa_cons (pv 0) (pa_cons (pv 2) (pa_cons (pv 4) pa_nil))))))) (fun _ _ _ _ _ => by exact (pe_dget hu1 (pv 1) (pv 4) (fun _ _ => rfl)))))
 (pss_one (ps_dput hu1 (pv 1) (pv 2) (pe_op op_addU pe_int (pe_callBK (crD_max rfl) (by rfl) b.max (by decide +kernel) (pa_cons (pv 3) pa_nil) (pk_cons pe_int pk_nil))) (by rfl)))))
 (pss_one (ps_ret (pe_frz (pv 1)))))))
    (ls_seq (ls_dnew (i := 1) (by decide))
 (ls_seq (ls_forI (li_rev (LP.e (lp_op (LP.m (lp_var (i := 0))) (LP.m lp_int) rb_ix))) (lgp_of (lg_name (i := 2) (by decide))) (ls_seq (ls_lock (j := 1) (ls_asg (LL.e (ll_compK (j := 1) (vs := [4]) (lgc_name (by decide) (by decide)) (by decide) (lt_B (le_call (les_cons (LP.e (lp_var (i := 0))) (les_cons (LP.e (lp_var (i := 2))) (les_cons (LP.e (lp_var (i := 4))) les_nil))))) (LP.e (lp_dgetK (j := 1) (LP.m (lp_var (i := 4))))))) (lg_name (i := 3) (by decide))))
 (ls_dput (j := 1) (LP.e (lp_op (LP.m lp_int) (LP.m (lp_cbK (lms_cons (LP.m (lp_var (i := 3))) lms_nil) (rcD_max (c := (V.int 0)) (dd := (PyData.int 0)) (fun _ => .int _)))) rb_add)) (LP.e (lp_var (i := 2))))))
 (ls_ret (le_varD (i := 1) (by decide))))) ?_
  rintro ds Q ⟨Rs, r0, ed, ro, q⟩
  have e0 : Rs = r0 :: Rs.tail := by
    have := ro.hd
    cases Rs with
    | nil => cases this
    | cons a b => injection this with h; subst h; rfl
  rcases ed with rfl | rfl
  · (simp only [TN.iK, TN.iV, TN.iLT, TN.pNew, TN.dCallN, TN.dCompI2, TN.dLAddE, TN.oD, TN.sDNew, TN.sPutD, TN.fGetO, TN.fGetO2, TN.fInO, TN.fNinO, TN.dVarD, TN.dExtS, TN.mOwn, TN.dCallM, TN.mVar, TN.sRetV, TN.dAug, TN.dCallNT, TN.dCallNL, TN.fIxTs, TN.sForI, TN.dCompI, TN.dCompL, TN.dCompT, TN.dCompR, TN.iL, TN.iT, TN.iR1, TN.iR2, TN.iR3, TN.iS, TN.iE, TN.iRv, TN.iZ, TN.dKeepT, TN.dCallT, TN.pTup, TN.pCons, TN.pOwn, TN.sAsgT, TN.sRetT, TN.tpL, TN.fIxT, TN.fTp, TN.dAppendT, TN.dReverseT, TN.dClearT, TN.dVarT, TN.dReverse, TN.dClear, TN.dPop, Pt.d, Sl.tp.injEq, TN.startF, TN.dCallV, Sl.fn.injEq, TN.dCallF, TN.dLRev, TN.dLAdd, TN.dLSlP, TN.dLSlice, TN.dSliceE, TN.dNo, TN.dEnd, TN.fNo, TN.sSeq, TN.sNext, TN.sDrop, TN.sRet, TN.sRetL, TN.sRetN, TN.sIf, TN.sAsg, TN.sAsgL, TN.sStore, TN.sForL, TN.sForT, TN.sForR, TN.sForR2, TN.tgN, TN.tgTup, TN.tgCons, TN.tgNil, TN.dP, TN.dB, TN.dCall, TN.dCallL, TN.dCallB, TN.dCallBL, TN.dCons, TN.dNil, TN.dTup, TN.dLst, TN.dKeep, TN.dVar, TN.fVar, TN.fPeek, TN.fC, TN.f2, TN.d2, TN.d2V, TN.f1, TN.d1, TN.fCB, TN.dCB, TN.dCBL, TN.fNil, TN.fCons, TN.asBool, TN.dTest, TN.bAnd, TN.bOr, TN.bNot, TN.dAnd, TN.dOr, TN.dNot, TN.fAndV, TN.fOrV, TN.fNotV, TN.dAndV, TN.dOrV, TN.dNotV, TN.dIfE, TN.dIfL, TN.fIfE, TN.fChain, TN.fSlice, TN.dSlice, TN.fNo, TN.fEnd, TN.dAppend, TN.dInsert, TN.dPopAt, TN.ownL, TN.start0, TN.begB, TN.backD, TN.wipeD, TN.dYes, TN.sNever, List.getElem?_cons_zero, List.getElem?_cons_succ, List.set_cons_zero, List.set_cons_succ, List.map_cons, List.map_nil, List.length_cons, List.length_nil, List.cons_append, List.nil_append, List.replicate_succ, List.replicate_zero, Option.map_some, Option.map_none, Nat.add_one_sub_one, Nat.sub_zero, Nat.sub_self, Nat.zero_add, reduceCtorEq, Option.some.injEq, PyData.int.injEq, PyData.str.injEq, PyData.bool.injEq, PyData.list.injEq, PyData.tuple.injEq, Sl.sh.injEq, Sl.ow.injEq, List.cons.injEq, exists_eq_left', exists_eq_left, true_implies, false_implies, and_true, true_and, forall_const, Option.isSome_some, TN.imp_ff, TN.imp_tf, TN.imp_tt, exists_eq_left, exists_eq_left', exists_eq])
    refine ⟨_, show oIx (.tuple (Rs.map tupL)) (.int 0) = some (tupL r0) by rw [e0]; exact ix0, _, .inr rfl, ?_⟩
    rw [← List.map_reverse]
    have rl := ro.len
    refine forD_go PyData.str (fun ls ρ => ∃ (done : List Str) (b2 b3 : Sl), r0 = ls.reverse ++ done ∧ ρ = [.sh (.tuple (Rs.map tupL)), .od (lenK (lensL Rs done)), b2, b3, .no]) ?_ ?_ r0.reverse _ ⟨[], .no, .no, by simp, rfl⟩
    · rintro x ls ρ E' ⟨done, b2, b3, er, rfl⟩ nx _ _ _
      rw [List.reverse_cons, List.append_assoc] at er
      have er : r0 = ls.reverse ++ (x :: done) := er
      (simp only [TN.iK, TN.iV, TN.iLT, TN.pNew, TN.dCallN, TN.dCompI2, TN.dLAddE, TN.oD, TN.sDNew, TN.sPutD, TN.fGetO, TN.fGetO2, TN.fInO, TN.fNinO, TN.dVarD, TN.dExtS, TN.mOwn, TN.dCallM, TN.mVar, TN.sRetV, TN.dAug, TN.dCallNT, TN.dCallNL, TN.fIxTs, TN.sForI, TN.dCompI, TN.dCompL, TN.dCompT, TN.dCompR, TN.iL, TN.iT, TN.iR1, TN.iR2, TN.iR3, TN.iS, TN.iE, TN.iRv, TN.iZ, TN.dKeepT, TN.dCallT, TN.pTup, TN.pCons, TN.pOwn, TN.sAsgT, TN.sRetT, TN.tpL, TN.fIxT, TN.fTp, TN.dAppendT, TN.dReverseT, TN.dClearT, TN.dVarT, TN.dReverse, TN.dClear, TN.dPop, Pt.d, Sl.tp.injEq, TN.startF, TN.dCallV, Sl.fn.injEq, TN.dCallF, TN.dLRev, TN.dLAdd, TN.dLSlP, TN.dLSlice, TN.dSliceE, TN.dNo, TN.dEnd, TN.fNo, TN.sSeq, TN.sNext, TN.sDrop, TN.sRet, TN.sRetL, TN.sRetN, TN.sIf, TN.sAsg, TN.sAsgL, TN.sStore, TN.sForL, TN.sForT, TN.sForR, TN.sForR2, TN.tgN, TN.tgTup, TN.tgCons, TN.tgNil, TN.dP, TN.dB, TN.dCall, TN.dCallL, TN.dCallB, TN.dCallBL, TN.dCons, TN.dNil, TN.dTup, TN.dLst, TN.dKeep, TN.dVar, TN.fVar, TN.fPeek, TN.fC, TN.f2, TN.d2, TN.d2V, TN.f1, TN.d1, TN.fCB, TN.dCB, TN.dCBL, TN.fNil, TN.fCons, TN.asBool, TN.dTest, TN.bAnd, TN.bOr, TN.bNot, TN.dAnd, TN.dOr, TN.dNot, TN.fAndV, TN.fOrV, TN.fNotV, TN.dAndV, TN.dOrV, TN.dNotV, TN.dIfE, TN.dIfL, TN.fIfE, TN.fChain, TN.fSlice, TN.dSlice, TN.fNo, TN.fEnd, TN.dAppend, TN.dInsert, TN.dPopAt, TN.ownL, TN.start0, TN.begB, TN.backD, TN.wipeD, TN.dYes, TN.sNever, List.getElem?_cons_zero, List.getElem?_cons_succ, List.set_cons_zero, List.set_cons_succ, List.map_cons, List.map_nil, List.length_cons, List.length_nil, List.cons_append, List.nil_append, List.replicate_succ, List.replicate_zero, Option.map_some, Option.map_none, Nat.add_one_sub_one, Nat.sub_zero, Nat.sub_self, Nat.zero_add, reduceCtorEq, Option.some.injEq, PyData.int.injEq, PyData.str.injEq, PyData.bool.injEq, PyData.list.injEq, PyData.tuple.injEq, Sl.sh.injEq, Sl.ow.injEq, List.cons.injEq, exists_eq_left', exists_eq_left, true_implies, false_implies, and_true, true_and, forall_const, Option.isSome_some, TN.imp_ff, TN.imp_tf, TN.imp_tt, exists_eq_left, exists_eq_left', exists_eq])
      unfold sLock dCompK
      (simp only [TN.iK, TN.iV, TN.iLT, TN.pNew, TN.dCallN, TN.dCompI2, TN.dLAddE, TN.oD, TN.sDNew, TN.sPutD, TN.fGetO, TN.fGetO2, TN.fInO, TN.fNinO, TN.dVarD, TN.dExtS, TN.mOwn, TN.dCallM, TN.mVar, TN.sRetV, TN.dAug, TN.dCallNT, TN.dCallNL, TN.fIxTs, TN.sForI, TN.dCompI, TN.dCompL, TN.dCompT, TN.dCompR, TN.iL, TN.iT, TN.iR1, TN.iR2, TN.iR3, TN.iS, TN.iE, TN.iRv, TN.iZ, TN.dKeepT, TN.dCallT, TN.pTup, TN.pCons, TN.pOwn, TN.sAsgT, TN.sRetT, TN.tpL, TN.fIxT, TN.fTp, TN.dAppendT, TN.dReverseT, TN.dClearT, TN.dVarT, TN.dReverse, TN.dClear, TN.dPop, Pt.d, Sl.tp.injEq, TN.startF, TN.dCallV, Sl.fn.injEq, TN.dCallF, TN.dLRev, TN.dLAdd, TN.dLSlP, TN.dLSlice, TN.dSliceE, TN.dNo, TN.dEnd, TN.fNo, TN.sSeq, TN.sNext, TN.sDrop, TN.sRet, TN.sRetL, TN.sRetN, TN.sIf, TN.sAsg, TN.sAsgL, TN.sStore, TN.sForL, TN.sForT, TN.sForR, TN.sForR2, TN.tgN, TN.tgTup, TN.tgCons, TN.tgNil, TN.dP, TN.dB, TN.dCall, TN.dCallL, TN.dCallB, TN.dCallBL, TN.dCons, TN.dNil, TN.dTup, TN.dLst, TN.dKeep, TN.dVar, TN.fVar, TN.fPeek, TN.fC, TN.f2, TN.d2, TN.d2V, TN.f1, TN.d1, TN.fCB, TN.dCB, TN.dCBL, TN.fNil, TN.fCons, TN.asBool, TN.dTest, TN.bAnd, TN.bOr, TN.bNot, TN.dAnd, TN.dOr, TN.dNot, TN.fAndV, TN.fOrV, TN.fNotV, TN.dAndV, TN.dOrV, TN.dNotV, TN.dIfE, TN.dIfL, TN.fIfE, TN.fChain, TN.fSlice, TN.dSlice, TN.fNo, TN.fEnd, TN.dAppend, TN.dInsert, TN.dPopAt, TN.ownL, TN.start0, TN.begB, TN.backD, TN.wipeD, TN.dYes, TN.sNever, List.getElem?_cons_zero, List.getElem?_cons_succ, List.set_cons_zero, List.set_cons_succ, List.map_cons, List.map_nil, List.length_cons, List.length_nil, List.cons_append, List.nil_append, List.replicate_succ, List.replicate_zero, Option.map_some, Option.map_none, Nat.add_one_sub_one, Nat.sub_zero, Nat.sub_self, Nat.zero_add, reduceCtorEq, Option.some.injEq, PyData.int.injEq, PyData.str.injEq, PyData.bool.injEq, PyData.list.injEq, PyData.tuple.injEq, Sl.sh.injEq, Sl.ow.injEq, List.cons.injEq, exists_eq_left', exists_eq_left, true_implies, false_implies, and_true, true_and, forall_const, Option.isSome_some, TN.imp_ff, TN.imp_tf, TN.imp_tt, exists_eq_left, exists_eq_left', exists_eq])
      intro a u ks
      refine ⟨a, u, ks, _, rfl, ?_⟩
      have nd := ro.nd
      rw [er] at nd
      have ndd : (x :: done).Nodup := (List.nodup_append.mp nd).2.1
      have fd := lensL_fst Rs done
      have ndk : ((lensL Rs done).map (·.1)).Nodup := by rw [fd]; exact (List.reverse_perm _).nodup_iff.mpr (List.nodup_cons.mp ndd).2
      have xk : x ∉ (lensL Rs done).map (·.1) := by rw [fd]; exact fun z => (List.nodup_cons.mp ndd).1 (List.mem_reverse.mp z)
      have pl : (lensL Rs done).length ≤ 16 := by
        have h1 := congrArg List.length fd
        have h2 := congrArg List.length er
        simp only [List.length_map, List.length_reverse, List.length_append, List.length_cons] at h1 h2
        omega
      have xm : x ∈ r0 := by rw [er]; simp
      have pm : ∀ p ∈ lensL Rs done, p.1 ∈ r0 := fun p hp => by
        have : p.1 ∈ done := List.mem_reverse.mp (by rw [← fd]; exact List.mem_map.mpr ⟨p, hp, rfl⟩)
        rw [er]; simp [this]
      have ek : keysK (lenK (lensL Rs done)) = (lensL Rs done).map fun p => PyData.str p.1 := by unfold keysK; rw [List.map_map]; rfl
      rw [ek]
      refine compK_fil (fun p : Str × Nat => PyData.str p.1) (fun p => PyData.int (p.2 : Nat)) (fun p => aheadR Rs x p.1) (fun p => p ∈ lensL Rs done) rfl rfl (fun _ => rfl) ?_ ?_ (lensL Rs done) [] (fun _ h => h) (by simp; omega) ?_
      · intro p R hp kk
        (simp only [TN.iK, TN.iV, TN.iLT, TN.pNew, TN.dCallN, TN.dCompI2, TN.dLAddE, TN.oD, TN.sDNew, TN.sPutD, TN.fGetO, TN.fGetO2, TN.fInO, TN.fNinO, TN.dVarD, TN.dExtS, TN.mOwn, TN.dCallM, TN.mVar, TN.sRetV, TN.dAug, TN.dCallNT, TN.dCallNL, TN.fIxTs, TN.sForI, TN.dCompI, TN.dCompL, TN.dCompT, TN.dCompR, TN.iL, TN.iT, TN.iR1, TN.iR2, TN.iR3, TN.iS, TN.iE, TN.iRv, TN.iZ, TN.dKeepT, TN.dCallT, TN.pTup, TN.pCons, TN.pOwn, TN.sAsgT, TN.sRetT, TN.tpL, TN.fIxT, TN.fTp, TN.dAppendT, TN.dReverseT, TN.dClearT, TN.dVarT, TN.dReverse, TN.dClear, TN.dPop, Pt.d, Sl.tp.injEq, TN.startF, TN.dCallV, Sl.fn.injEq, TN.dCallF, TN.dLRev, TN.dLAdd, TN.dLSlP, TN.dLSlice, TN.dSliceE, TN.dNo, TN.dEnd, TN.fNo, TN.sSeq, TN.sNext, TN.sDrop, TN.sRet, TN.sRetL, TN.sRetN, TN.sIf, TN.sAsg, TN.sAsgL, TN.sStore, TN.sForL, TN.sForT, TN.sForR, TN.sForR2, TN.tgN, TN.tgTup, TN.tgCons, TN.tgNil, TN.dP, TN.dB, TN.dCall, TN.dCallL, TN.dCallB, TN.dCallBL, TN.dCons, TN.dNil, TN.dTup, TN.dLst, TN.dKeep, TN.dVar, TN.fVar, TN.fPeek, TN.fC, TN.f2, TN.d2, TN.d2V, TN.f1, TN.d1, TN.fCB, TN.dCB, TN.dCBL, TN.fNil, TN.fCons, TN.asBool, TN.dTest, TN.bAnd, TN.bOr, TN.bNot, TN.dAnd, TN.dOr, TN.dNot, TN.fAndV, TN.fOrV, TN.fNotV, TN.dAndV, TN.dOrV, TN.dNotV, TN.dIfE, TN.dIfL, TN.fIfE, TN.fChain, TN.fSlice, TN.dSlice, TN.fNo, TN.fEnd, TN.dAppend, TN.dInsert, TN.dPopAt, TN.ownL, TN.start0, TN.begB, TN.backD, TN.wipeD, TN.dYes, TN.sNever, List.getElem?_cons_zero, List.getElem?_cons_succ, List.set_cons_zero, List.set_cons_succ, List.map_cons, List.map_nil, List.length_cons, List.length_nil, List.cons_append, List.nil_append, List.replicate_succ, List.replicate_zero, Option.map_some, Option.map_none, Nat.add_one_sub_one, Nat.sub_zero, Nat.sub_self, Nat.zero_add, reduceCtorEq, Option.some.injEq, PyData.int.injEq, PyData.str.injEq, PyData.bool.injEq, PyData.list.injEq, PyData.tuple.injEq, Sl.sh.injEq, Sl.ow.injEq, List.cons.injEq, exists_eq_left', exists_eq_left, true_implies, false_implies, and_true, true_and, forall_const, Option.isSome_some, TN.imp_ff, TN.imp_tf, TN.imp_tt, exists_eq_left, exists_eq_left', exists_eq])
        exact ⟨Rs, r0, x, p.1, .inl rfl, ro, xm, pm p hp, _, rfl, _, rfl, kk⟩
      · intro p R hp kk
        (simp only [TN.iK, TN.iV, TN.iLT, TN.pNew, TN.dCallN, TN.dCompI2, TN.dLAddE, TN.oD, TN.sDNew, TN.sPutD, TN.fGetO, TN.fGetO2, TN.fInO, TN.fNinO, TN.dVarD, TN.dExtS, TN.mOwn, TN.dCallM, TN.mVar, TN.sRetV, TN.dAug, TN.dCallNT, TN.dCallNL, TN.fIxTs, TN.sForI, TN.dCompI, TN.dCompL, TN.dCompT, TN.dCompR, TN.iL, TN.iT, TN.iR1, TN.iR2, TN.iR3, TN.iS, TN.iE, TN.iRv, TN.iZ, TN.dKeepT, TN.dCallT, TN.pTup, TN.pCons, TN.pOwn, TN.sAsgT, TN.sRetT, TN.tpL, TN.fIxT, TN.fTp, TN.dAppendT, TN.dReverseT, TN.dClearT, TN.dVarT, TN.dReverse, TN.dClear, TN.dPop, Pt.d, Sl.tp.injEq, TN.startF, TN.dCallV, Sl.fn.injEq, TN.dCallF, TN.dLRev, TN.dLAdd, TN.dLSlP, TN.dLSlice, TN.dSliceE, TN.dNo, TN.dEnd, TN.fNo, TN.sSeq, TN.sNext, TN.sDrop, TN.sRet, TN.sRetL, TN.sRetN, TN.sIf, TN.sAsg, TN.sAsgL, TN.sStore, TN.sForL, TN.sForT, TN.sForR, TN.sForR2, TN.tgN, TN.tgTup, TN.tgCons, TN.tgNil, TN.dP, TN.dB, TN.dCall, TN.dCallL, TN.dCallB, TN.dCallBL, TN.dCons, TN.dNil, TN.dTup, TN.dLst, TN.dKeep, TN.dVar, TN.fVar, TN.fPeek, TN.fC, TN.f2, TN.d2, TN.d2V, TN.f1, TN.d1, TN.fCB, TN.dCB, TN.dCBL, TN.fNil, TN.fCons, TN.asBool, TN.dTest, TN.bAnd, TN.bOr, TN.bNot, TN.dAnd, TN.dOr, TN.dNot, TN.fAndV, TN.fOrV, TN.fNotV, TN.dAndV, TN.dOrV, TN.dNotV, TN.dIfE, TN.dIfL, TN.fIfE, TN.fChain, TN.fSlice, TN.dSlice, TN.fNo, TN.fEnd, TN.dAppend, TN.dInsert, TN.dPopAt, TN.ownL, TN.start0, TN.begB, TN.backD, TN.wipeD, TN.dYes, TN.sNever, List.getElem?_cons_zero, List.getElem?_cons_succ, List.set_cons_zero, List.set_cons_succ, List.map_cons, List.map_nil, List.length_cons, List.length_nil, List.cons_append, List.nil_append, List.replicate_succ, List.replicate_zero, Option.map_some, Option.map_none, Nat.add_one_sub_one, Nat.sub_zero, Nat.sub_self, Nat.zero_add, reduceCtorEq, Option.some.injEq, PyData.int.injEq, PyData.str.injEq, PyData.bool.injEq, PyData.list.injEq, PyData.tuple.injEq, Sl.sh.injEq, Sl.ow.injEq, List.cons.injEq, exists_eq_left', exists_eq_left, true_implies, false_implies, and_true, true_and, forall_const, Option.isSome_some, TN.imp_ff, TN.imp_tf, TN.imp_tt, exists_eq_left, exists_eq_left', exists_eq])
        refine ⟨_, show fGetK 1 (fVar 4) _ = some _ from len_val ndk hp, kk⟩
      rw [List.nil_append]
      (simp only [TN.iK, TN.iV, TN.iLT, TN.pNew, TN.dCallN, TN.dCompI2, TN.dLAddE, TN.oD, TN.sDNew, TN.sPutD, TN.fGetO, TN.fGetO2, TN.fInO, TN.fNinO, TN.dVarD, TN.dExtS, TN.mOwn, TN.dCallM, TN.mVar, TN.sRetV, TN.dAug, TN.dCallNT, TN.dCallNL, TN.fIxTs, TN.sForI, TN.dCompI, TN.dCompL, TN.dCompT, TN.dCompR, TN.iL, TN.iT, TN.iR1, TN.iR2, TN.iR3, TN.iS, TN.iE, TN.iRv, TN.iZ, TN.dKeepT, TN.dCallT, TN.pTup, TN.pCons, TN.pOwn, TN.sAsgT, TN.sRetT, TN.tpL, TN.fIxT, TN.fTp, TN.dAppendT, TN.dReverseT, TN.dClearT, TN.dVarT, TN.dReverse, TN.dClear, TN.dPop, Pt.d, Sl.tp.injEq, TN.startF, TN.dCallV, Sl.fn.injEq, TN.dCallF, TN.dLRev, TN.dLAdd, TN.dLSlP, TN.dLSlice, TN.dSliceE, TN.dNo, TN.dEnd, TN.fNo, TN.sSeq, TN.sNext, TN.sDrop, TN.sRet, TN.sRetL, TN.sRetN, TN.sIf, TN.sAsg, TN.sAsgL, TN.sStore, TN.sForL, TN.sForT, TN.sForR, TN.sForR2, TN.tgN, TN.tgTup, TN.tgCons, TN.tgNil, TN.dP, TN.dB, TN.dCall, TN.dCallL, TN.dCallB, TN.dCallBL, TN.dCons, TN.dNil, TN.dTup, TN.dLst, TN.dKeep, TN.dVar, TN.fVar, TN.fPeek, TN.fC, TN.f2, TN.d2, TN.d2V, TN.f1, TN.d1, TN.fCB, TN.dCB, TN.dCBL, TN.fNil, TN.fCons, TN.asBool, TN.dTest, TN.bAnd, TN.bOr, TN.bNot, TN.dAnd, TN.dOr, TN.dNot, TN.fAndV, TN.fOrV, TN.fNotV, TN.dAndV, TN.dOrV, TN.dNotV, TN.dIfE, TN.dIfL, TN.fIfE, TN.fChain, TN.fSlice, TN.dSlice, TN.fNo, TN.fEnd, TN.dAppend, TN.dInsert, TN.dPopAt, TN.ownL, TN.start0, TN.begB, TN.backD, TN.wipeD, TN.dYes, TN.sNever, List.getElem?_cons_zero, List.getElem?_cons_succ, List.set_cons_zero, List.set_cons_succ, List.map_cons, List.map_nil, List.length_cons, List.length_nil, List.cons_append, List.nil_append, List.replicate_succ, List.replicate_zero, Option.map_some, Option.map_none, Nat.add_one_sub_one, Nat.sub_zero, Nat.sub_self, Nat.zero_add, reduceCtorEq, Option.some.injEq, PyData.int.injEq, PyData.str.injEq, PyData.bool.injEq, PyData.list.injEq, PyData.tuple.injEq, Sl.sh.injEq, Sl.ow.injEq, List.cons.injEq, exists_eq_left', exists_eq_left, true_implies, false_implies, and_true, true_and, forall_const, Option.isSome_some, TN.imp_ff, TN.imp_tf, TN.imp_tt, exists_eq_left, exists_eq_left', exists_eq])
      have em : ((lensL Rs done).filter fun p => aheadR Rs x p.1).map (fun p => PyData.int (p.2 : Nat)) = (((lensL Rs done).filter fun p => aheadR Rs x p.1).map (·.2)).map fun (n : Nat) => PyData.int n := by rw [List.map_map]; rfl
      rw [em]
      simp only [oMax_nat, oAdd_int]
      have e9 : putD (lenK (lensL Rs done)) (.inr x) (.int (1 + ((maxN (((lensL Rs done).filter fun p => aheadR Rs x p.1).map (·.2)) : Nat) : Int))) = lenK (lensL Rs (x :: done)) := by
        rw [show (1 + ((maxN (((lensL Rs done).filter fun p => aheadR Rs x p.1).map (·.2)) : Nat) : Int)) = ((1 + maxN (((lensL Rs done).filter fun p => aheadR Rs x p.1).map (·.2)) : Nat) : Int) by omega, len_put xk]
        rfl
      refine ⟨_, rfl, _, _, rfl, rfl, by rw [List.length_map]; omega, ?_⟩
      rw [e9]
      exact nx _ ⟨x :: done, _, _, er, rfl⟩
    · rintro ρ ⟨done, b2, b3, er, rfl⟩
      have er : r0 = done := er
      subst er
      (simp only [TN.iK, TN.iV, TN.iLT, TN.pNew, TN.dCallN, TN.dCompI2, TN.dLAddE, TN.oD, TN.sDNew, TN.sPutD, TN.fGetO, TN.fGetO2, TN.fInO, TN.fNinO, TN.dVarD, TN.dExtS, TN.mOwn, TN.dCallM, TN.mVar, TN.sRetV, TN.dAug, TN.dCallNT, TN.dCallNL, TN.fIxTs, TN.sForI, TN.dCompI, TN.dCompL, TN.dCompT, TN.dCompR, TN.iL, TN.iT, TN.iR1, TN.iR2, TN.iR3, TN.iS, TN.iE, TN.iRv, TN.iZ, TN.dKeepT, TN.dCallT, TN.pTup, TN.pCons, TN.pOwn, TN.sAsgT, TN.sRetT, TN.tpL, TN.fIxT, TN.fTp, TN.dAppendT, TN.dReverseT, TN.dClearT, TN.dVarT, TN.dReverse, TN.dClear, TN.dPop, Pt.d, Sl.tp.injEq, TN.startF, TN.dCallV, Sl.fn.injEq, TN.dCallF, TN.dLRev, TN.dLAdd, TN.dLSlP, TN.dLSlice, TN.dSliceE, TN.dNo, TN.dEnd, TN.fNo, TN.sSeq, TN.sNext, TN.sDrop, TN.sRet, TN.sRetL, TN.sRetN, TN.sIf, TN.sAsg, TN.sAsgL, TN.sStore, TN.sForL, TN.sForT, TN.sForR, TN.sForR2, TN.tgN, TN.tgTup, TN.tgCons, TN.tgNil, TN.dP, TN.dB, TN.dCall, TN.dCallL, TN.dCallB, TN.dCallBL, TN.dCons, TN.dNil, TN.dTup, TN.dLst, TN.dKeep, TN.dVar, TN.fVar, TN.fPeek, TN.fC, TN.f2, TN.d2, TN.d2V, TN.f1, TN.d1, TN.fCB, TN.dCB, TN.dCBL, TN.fNil, TN.fCons, TN.asBool, TN.dTest, TN.bAnd, TN.bOr, TN.bNot, TN.dAnd, TN.dOr, TN.dNot, TN.fAndV, TN.fOrV, TN.fNotV, TN.dAndV, TN.dOrV, TN.dNotV, TN.dIfE, TN.dIfL, TN.fIfE, TN.fChain, TN.fSlice, TN.dSlice, TN.fNo, TN.fEnd, TN.dAppend, TN.dInsert, TN.dPopAt, TN.ownL, TN.start0, TN.begB, TN.backD, TN.wipeD, TN.dYes, TN.sNever, List.getElem?_cons_zero, List.getElem?_cons_succ, List.set_cons_zero, List.set_cons_succ, List.map_cons, List.map_nil, List.length_cons, List.length_nil, List.cons_append, List.nil_append, List.replicate_succ, List.replicate_zero, Option.map_some, Option.map_none, Nat.add_one_sub_one, Nat.sub_zero, Nat.sub_self, Nat.zero_add, reduceCtorEq, Option.some.injEq, PyData.int.injEq, PyData.str.injEq, PyData.bool.injEq, PyData.list.injEq, PyData.tuple.injEq, Sl.sh.injEq, Sl.ow.injEq, List.cons.injEq, exists_eq_left', exists_eq_left, true_implies, false_implies, and_true, true_and, forall_const, Option.isSome_some, TN.imp_ff, TN.imp_tf, TN.imp_tt, exists_eq_left, exists_eq_left', exists_eq])
      exact q
  · (simp only [TN.iK, TN.iV, TN.iLT, TN.pNew, TN.dCallN, TN.dCompI2, TN.dLAddE, TN.oD, TN.sDNew, TN.sPutD, TN.fGetO, TN.fGetO2, TN.fInO, TN.fNinO, TN.dVarD, TN.dExtS, TN.mOwn, TN.dCallM, TN.mVar, TN.sRetV, TN.dAug, TN.dCallNT, TN.dCallNL, TN.fIxTs, TN.sForI, TN.dCompI, TN.dCompL, TN.dCompT, TN.dCompR, TN.iL, TN.iT, TN.iR1, TN.iR2, TN.iR3, TN.iS, TN.iE, TN.iRv, TN.iZ, TN.dKeepT, TN.dCallT, TN.pTup, TN.pCons, TN.pOwn, TN.sAsgT, TN.sRetT, TN.tpL, TN.fIxT, TN.fTp, TN.dAppendT, TN.dReverseT, TN.dClearT, TN.dVarT, TN.dReverse, TN.dClear, TN.dPop, Pt.d, Sl.tp.injEq, TN.startF, TN.dCallV, Sl.fn.injEq, TN.dCallF, TN.dLRev, TN.dLAdd, TN.dLSlP, TN.dLSlice, TN.dSliceE, TN.dNo, TN.dEnd, TN.fNo, TN.sSeq, TN.sNext, TN.sDrop, TN.sRet, TN.sRetL, TN.sRetN, TN.sIf, TN.sAsg, TN.sAsgL, TN.sStore, TN.sForL, TN.sForT, TN.sForR, TN.sForR2, TN.tgN, TN.tgTup, TN.tgCons, TN.tgNil, TN.dP, TN.dB, TN.dCall, TN.dCallL, TN.dCallB, TN.dCallBL, TN.dCons, TN.dNil, TN.dTup, TN.dLst, TN.dKeep, TN.dVar, TN.fVar, TN.fPeek, TN.fC, TN.f2, TN.d2, TN.d2V, TN.f1, TN.d1, TN.fCB, TN.dCB, TN.dCBL, TN.fNil, TN.fCons, TN.asBool, TN.dTest, TN.bAnd, TN.bOr, TN.bNot, TN.dAnd, TN.dOr, TN.dNot, TN.fAndV, TN.fOrV, TN.fNotV, TN.dAndV, TN.dOrV, TN.dNotV, TN.dIfE, TN.dIfL, TN.fIfE, TN.fChain, TN.fSlice, TN.dSlice, TN.fNo, TN.fEnd, TN.dAppend, TN.dInsert, TN.dPopAt, TN.ownL, TN.start0, TN.begB, TN.backD, TN.wipeD, TN.dYes, TN.sNever, List.getElem?_cons_zero, List.getElem?_cons_succ, List.set_cons_zero, List.set_cons_succ, List.map_cons, List.map_nil, List.length_cons, List.length_nil, List.cons_append, List.nil_append, List.replicate_succ, List.replicate_zero, Option.map_some, Option.map_none, Nat.add_one_sub_one, Nat.sub_zero, Nat.sub_self, Nat.zero_add, reduceCtorEq, Option.some.injEq, PyData.int.injEq, PyData.str.injEq, PyData.bool.injEq, PyData.list.injEq, PyData.tuple.injEq, Sl.sh.injEq, Sl.ow.injEq, List.cons.injEq, exists_eq_left', exists_eq_left, true_implies, false_implies, and_true, true_and, forall_const, Option.isSome_some, TN.imp_ff, TN.imp_tf, TN.imp_tt, exists_eq_left, exists_eq_left', exists_eq])
    refine ⟨_, show oIx (.list (Rs.map tupL)) (.int 0) = some (tupL r0) by rw [e0]; exact ixl0, _, .inr rfl, ?_⟩
    rw [← List.map_reverse]
    have rl := ro.len
    refine forD_go PyData.str (fun ls ρ => ∃ (done : List Str) (b2 b3 : Sl), r0 = ls.reverse ++ done ∧ ρ = [.sh (.list (Rs.map tupL)), .od (lenK (lensL Rs done)), b2, b3, .no]) ?_ ?_ r0.reverse _ ⟨[], .no, .no, by simp, rfl⟩
    · rintro x ls ρ E' ⟨done, b2, b3, er, rfl⟩ nx _ _ _
      rw [List.reverse_cons, List.append_assoc] at er
      have er : r0 = ls.reverse ++ (x :: done) := er
      (simp only [TN.iK, TN.iV, TN.iLT, TN.pNew, TN.dCallN, TN.dCompI2, TN.dLAddE, TN.oD, TN.sDNew, TN.sPutD, TN.fGetO, TN.fGetO2, TN.fInO, TN.fNinO, TN.dVarD, TN.dExtS, TN.mOwn, TN.dCallM, TN.mVar, TN.sRetV, TN.dAug, TN.dCallNT, TN.dCallNL, TN.fIxTs, TN.sForI, TN.dCompI, TN.dCompL, TN.dCompT, TN.dCompR, TN.iL, TN.iT, TN.iR1, TN.iR2, TN.iR3, TN.iS, TN.iE, TN.iRv, TN.iZ, TN.dKeepT, TN.dCallT, TN.pTup, TN.pCons, TN.pOwn, TN.sAsgT, TN.sRetT, TN.tpL, TN.fIxT, TN.fTp, TN.dAppendT, TN.dReverseT, TN.dClearT, TN.dVarT, TN.dReverse, TN.dClear, TN.dPop, Pt.d, Sl.tp.injEq, TN.startF, TN.dCallV, Sl.fn.injEq, TN.dCallF, TN.dLRev, TN.dLAdd, TN.dLSlP, TN.dLSlice, TN.dSliceE, TN.dNo, TN.dEnd, TN.fNo, TN.sSeq, TN.sNext, TN.sDrop, TN.sRet, TN.sRetL, TN.sRetN, TN.sIf, TN.sAsg, TN.sAsgL, TN.sStore, TN.sForL, TN.sForT, TN.sForR, TN.sForR2, TN.tgN, TN.tgTup, TN.tgCons, TN.tgNil, TN.dP, TN.dB, TN.dCall, TN.dCallL, TN.dCallB, TN.dCallBL, TN.dCons, TN.dNil, TN.dTup, TN.dLst, TN.dKeep, TN.dVar, TN.fVar, TN.fPeek, TN.fC, TN.f2, TN.d2, TN.d2V, TN.f1, TN.d1, TN.fCB, TN.dCB, TN.dCBL, TN.fNil, TN.fCons, TN.asBool, TN.dTest, TN.bAnd, TN.bOr, TN.bNot, TN.dAnd, TN.dOr, TN.dNot, TN.fAndV, TN.fOrV, TN.fNotV, TN.dAndV, TN.dOrV, TN.dNotV, TN.dIfE, TN.dIfL, TN.fIfE, TN.fChain, TN.fSlice, TN.dSlice, TN.fNo, TN.fEnd, TN.dAppend, TN.dInsert, TN.dPopAt, TN.ownL, TN.start0, TN.begB, TN.backD, TN.wipeD, TN.dYes, TN.sNever, List.getElem?_cons_zero, List.getElem?_cons_succ, List.set_cons_zero, List.set_cons_succ, List.map_cons, List.map_nil, List.length_cons, List.length_nil, List.cons_append, List.nil_append, List.replicate_succ, List.replicate_zero, Option.map_some, Option.map_none, Nat.add_one_sub_one, Nat.sub_zero, Nat.sub_self, Nat.zero_add, reduceCtorEq, Option.some.injEq, PyData.int.injEq, PyData.str.injEq, PyData.bool.injEq, PyData.list.injEq, PyData.tuple.injEq, Sl.sh.injEq, Sl.ow.injEq, List.cons.injEq, exists_eq_left', exists_eq_left, true_implies, false_implies, and_true, true_and, forall_const, Option.isSome_some, TN.imp_ff, TN.imp_tf, TN.imp_tt, exists_eq_left, exists_eq_left', exists_eq])
      unfold sLock dCompK
      (simp only [TN.iK, TN.iV, TN.iLT, TN.pNew, TN.dCallN, TN.dCompI2, TN.dLAddE, TN.oD, TN.sDNew, TN.sPutD, TN.fGetO, TN.fGetO2, TN.fInO, TN.fNinO, TN.dVarD, TN.dExtS, TN.mOwn, TN.dCallM, TN.mVar, TN.sRetV, TN.dAug, TN.dCallNT, TN.dCallNL, TN.fIxTs, TN.sForI, TN.dCompI, TN.dCompL, TN.dCompT, TN.dCompR, TN.iL, TN.iT, TN.iR1, TN.iR2, TN.iR3, TN.iS, TN.iE, TN.iRv, TN.iZ, TN.dKeepT, TN.dCallT, TN.pTup, TN.pCons, TN.pOwn, TN.sAsgT, TN.sRetT, TN.tpL, TN.fIxT, TN.fTp, TN.dAppendT, TN.dReverseT, TN.dClearT, TN.dVarT, TN.dReverse, TN.dClear, TN.dPop, Pt.d, Sl.tp.injEq, TN.startF, TN.dCallV, Sl.fn.injEq, TN.dCallF, TN.dLRev, TN.dLAdd, TN.dLSlP, TN.dLSlice, TN.dSliceE, TN.dNo, TN.dEnd, TN.fNo, TN.sSeq, TN.sNext, TN.sDrop, TN.sRet, TN.sRetL, TN.sRetN, TN.sIf, TN.sAsg, TN.sAsgL, TN.sStore, TN.sForL, TN.sForT, TN.sForR, TN.sForR2, TN.tgN, TN.tgTup, TN.tgCons, TN.tgNil, TN.dP, TN.dB, TN.dCall, TN.dCallL, TN.dCallB, TN.dCallBL, TN.dCons, TN.dNil, TN.dTup, TN.dLst, TN.dKeep, TN.dVar, TN.fVar, TN.fPeek, TN.fC, TN.f2, TN.d2, TN.d2V, TN.f1, TN.d1, TN.fCB, TN.dCB, TN.dCBL, TN.fNil, TN.fCons, TN.asBool, TN.dTest, TN.bAnd, TN.bOr, TN.bNot, TN.dAnd, TN.dOr, TN.dNot, TN.fAndV, TN.fOrV, TN.fNotV, TN.dAndV, TN.dOrV, TN.dNotV, TN.dIfE, TN.dIfL, TN.fIfE, TN.fChain, TN.fSlice, TN.dSlice, TN.fNo, TN.fEnd, TN.dAppend, TN.dInsert, TN.dPopAt, TN.ownL, TN.start0, TN.begB, TN.backD, TN.wipeD, TN.dYes, TN.sNever, List.getElem?_cons_zero, List.getElem?_cons_succ, List.set_cons_zero, List.set_cons_succ, List.map_cons, List.map_nil, List.length_cons, List.length_nil, List.cons_append, List.nil_append, List.replicate_succ, List.replicate_zero, Option.map_some, Option.map_none, Nat.add_one_sub_one, Nat.sub_zero, Nat.sub_self, Nat.zero_add, reduceCtorEq, Option.some.injEq, PyData.int.injEq, PyData.str.injEq, PyData.bool.injEq, PyData.list.injEq, PyData.tuple.injEq, Sl.sh.injEq, Sl.ow.injEq, List.cons.injEq, exists_eq_left', exists_eq_left, true_implies, false_implies, and_true, true_and, forall_const, Option.isSome_some, TN.imp_ff, TN.imp_tf, TN.imp_tt, exists_eq_left, exists_eq_left', exists_eq])
      intro a u ks
      refine ⟨a, u, ks, _, rfl, ?_⟩
      have nd := ro.nd
      rw [er] at nd
      have ndd : (x :: done).Nodup := (List.nodup_append.mp nd).2.1
      have fd := lensL_fst Rs done
      have ndk : ((lensL Rs done).map (·.1)).Nodup := by rw [fd]; exact (List.reverse_perm _).nodup_iff.mpr (List.nodup_cons.mp ndd).2
      have xk : x ∉ (lensL Rs done).map (·.1) := by rw [fd]; exact fun z => (List.nodup_cons.mp ndd).1 (List.mem_reverse.mp z)
      have pl : (lensL Rs done).length ≤ 16 := by
        have h1 := congrArg List.length fd
        have h2 := congrArg List.length er
        simp only [List.length_map, List.length_reverse, List.length_append, List.length_cons] at h1 h2
        omega
      have xm : x ∈ r0 := by rw [er]; simp
      have pm : ∀ p ∈ lensL Rs done, p.1 ∈ r0 := fun p hp => by
        have : p.1 ∈ done := List.mem_reverse.mp (by rw [← fd]; exact List.mem_map.mpr ⟨p, hp, rfl⟩)
        rw [er]; simp [this]
      have ek : keysK (lenK (lensL Rs done)) = (lensL Rs done).map fun p => PyData.str p.1 := by unfold keysK; rw [List.map_map]; rfl
      rw [ek]
      refine compK_fil (fun p : Str × Nat => PyData.str p.1) (fun p => PyData.int (p.2 : Nat)) (fun p => aheadR Rs x p.1) (fun p => p ∈ lensL Rs done) rfl rfl (fun _ => rfl) ?_ ?_ (lensL Rs done) [] (fun _ h => h) (by simp; omega) ?_
      · intro p R hp kk
        (simp only [TN.iK, TN.iV, TN.iLT, TN.pNew, TN.dCallN, TN.dCompI2, TN.dLAddE, TN.oD, TN.sDNew, TN.sPutD, TN.fGetO, TN.fGetO2, TN.fInO, TN.fNinO, TN.dVarD, TN.dExtS, TN.mOwn, TN.dCallM, TN.mVar, TN.sRetV, TN.dAug, TN.dCallNT, TN.dCallNL, TN.fIxTs, TN.sForI, TN.dCompI, TN.dCompL, TN.dCompT, TN.dCompR, TN.iL, TN.iT, TN.iR1, TN.iR2, TN.iR3, TN.iS, TN.iE, TN.iRv, TN.iZ, TN.dKeepT, TN.dCallT, TN.pTup, TN.pCons, TN.pOwn, TN.sAsgT, TN.sRetT, TN.tpL, TN.fIxT, TN.fTp, TN.dAppendT, TN.dReverseT, TN.dClearT, TN.dVarT, TN.dReverse, TN.dClear, TN.dPop, Pt.d, Sl.tp.injEq, TN.startF, TN.dCallV, Sl.fn.injEq, TN.dCallF, TN.dLRev, TN.dLAdd, TN.dLSlP, TN.dLSlice, TN.dSliceE, TN.dNo, TN.dEnd, TN.fNo, TN.sSeq, TN.sNext, TN.sDrop, TN.sRet, TN.sRetL, TN.sRetN, TN.sIf, TN.sAsg, TN.sAsgL, TN.sStore, TN.sForL, TN.sForT, TN.sForR, TN.sForR2, TN.tgN, TN.tgTup, TN.tgCons, TN.tgNil, TN.dP, TN.dB, TN.dCall, TN.dCallL, TN.dCallB, TN.dCallBL, TN.dCons, TN.dNil, TN.dTup, TN.dLst, TN.dKeep, TN.dVar, TN.fVar, TN.fPeek, TN.fC, TN.f2, TN.d2, TN.d2V, TN.f1, TN.d1, TN.fCB, TN.dCB, TN.dCBL, TN.fNil, TN.fCons, TN.asBool, TN.dTest, TN.bAnd, TN.bOr, TN.bNot, TN.dAnd, TN.dOr, TN.dNot, TN.fAndV, TN.fOrV, TN.fNotV, TN.dAndV, TN.dOrV, TN.dNotV, TN.dIfE, TN.dIfL, TN.fIfE, TN.fChain, TN.fSlice, TN.dSlice, TN.fNo, TN.fEnd, TN.dAppend, TN.dInsert, TN.dPopAt, TN.ownL, TN.start0, TN.begB, TN.backD, TN.wipeD, TN.dYes, TN.sNever, List.getElem?_cons_zero, List.getElem?_cons_succ, List.set_cons_zero, List.set_cons_succ, List.map_cons, List.map_nil, List.length_cons, List.length_nil, List.cons_append, List.nil_append, List.replicate_succ, List.replicate_zero, Option.map_some, Option.map_none, Nat.add_one_sub_one, Nat.sub_zero, Nat.sub_self, Nat.zero_add, reduceCtorEq, Option.some.injEq, PyData.int.injEq, PyData.str.injEq, PyData.bool.injEq, PyData.list.injEq, PyData.tuple.injEq, Sl.sh.injEq, Sl.ow.injEq, List.cons.injEq, exists_eq_left', exists_eq_left, true_implies, false_implies, and_true, true_and, forall_const, Option.isSome_some, TN.imp_ff, TN.imp_tf, TN.imp_tt, exists_eq_left, exists_eq_left', exists_eq])
        exact ⟨Rs, r0, x, p.1, .inr rfl, ro, xm, pm p hp, _, rfl, _, rfl, kk⟩
      · intro p R hp kk
        (simp only [TN.iK, TN.iV, TN.iLT, TN.pNew, TN.dCallN, TN.dCompI2, TN.dLAddE, TN.oD, TN.sDNew, TN.sPutD, TN.fGetO, TN.fGetO2, TN.fInO, TN.fNinO, TN.dVarD, TN.dExtS, TN.mOwn, TN.dCallM, TN.mVar, TN.sRetV, TN.dAug, TN.dCallNT, TN.dCallNL, TN.fIxTs, TN.sForI, TN.dCompI, TN.dCompL, TN.dCompT, TN.dCompR, TN.iL, TN.iT, TN.iR1, TN.iR2, TN.iR3, TN.iS, TN.iE, TN.iRv, TN.iZ, TN.dKeepT, TN.dCallT, TN.pTup, TN.pCons, TN.pOwn, TN.sAsgT, TN.sRetT, TN.tpL, TN.fIxT, TN.fTp, TN.dAppendT, TN.dReverseT, TN.dClearT, TN.dVarT, TN.dReverse, TN.dClear, TN.dPop, Pt.d, Sl.tp.injEq, TN.startF, TN.dCallV, Sl.fn.injEq, TN.dCallF, TN.dLRev, TN.dLAdd, TN.dLSlP, TN.dLSlice, TN.dSliceE, TN.dNo, TN.dEnd, TN.fNo, TN.sSeq, TN.sNext, TN.sDrop, TN.sRet, TN.sRetL, TN.sRetN, TN.sIf, TN.sAsg, TN.sAsgL, TN.sStore, TN.sForL, TN.sForT, TN.sForR, TN.sForR2, TN.tgN, TN.tgTup, TN.tgCons, TN.tgNil, TN.dP, TN.dB, TN.dCall, TN.dCallL, TN.dCallB, TN.dCallBL, TN.dCons, TN.dNil, TN.dTup, TN.dLst, TN.dKeep, TN.dVar, TN.fVar, TN.fPeek, TN.fC, TN.f2, TN.d2, TN.d2V, TN.f1, TN.d1, TN.fCB, TN.dCB, TN.dCBL, TN.fNil, TN.fCons, TN.asBool, TN.dTest, TN.bAnd, TN.bOr, TN.bNot, TN.dAnd, TN.dOr, TN.dNot, TN.fAndV, TN.fOrV, TN.fNotV, TN.dAndV, TN.dOrV, TN.dNotV, TN.dIfE, TN.dIfL, TN.fIfE, TN.fChain, TN.fSlice, TN.dSlice, TN.fNo, TN.fEnd, TN.dAppend, TN.dInsert, TN.dPopAt, TN.ownL, TN.start0, TN.begB, TN.backD, TN.wipeD, TN.dYes, TN.sNever, List.getElem?_cons_zero, List.getElem?_cons_succ, List.set_cons_zero, List.set_cons_succ, List.map_cons, List.map_nil, List.length_cons, List.length_nil, List.cons_append, List.nil_append, List.replicate_succ, List.replicate_zero, Option.map_some, Option.map_none, Nat.add_one_sub_one, Nat.sub_zero, Nat.sub_self, Nat.zero_add, reduceCtorEq, Option.some.injEq, PyData.int.injEq, PyData.str.injEq, PyData.bool.injEq, PyData.list.injEq, PyData.tuple.injEq, Sl.sh.injEq, Sl.ow.injEq, List.cons.injEq, exists_eq_left', exists_eq_left, true_implies, false_implies, and_true, true_and, forall_const, Option.isSome_some, TN.imp_ff, TN.imp_tf, TN.imp_tt, exists_eq_left, exists_eq_left', exists_eq])
        refine ⟨_, show fGetK 1 (fVar 4) _ = some _ from len_val ndk hp, kk⟩
      rw [List.nil_append]
      (simp only [TN.iK, TN.iV, TN.iLT, TN.pNew, TN.dCallN, TN.dCompI2, TN.dLAddE, TN.oD, TN.sDNew, TN.sPutD, TN.fGetO, TN.fGetO2, TN.fInO, TN.fNinO, TN.dVarD, TN.dExtS, TN.mOwn, TN.dCallM, TN.mVar, TN.sRetV, TN.dAug, TN.dCallNT, TN.dCallNL, TN.fIxTs, TN.sForI, TN.dCompI, TN.dCompL, TN.dCompT, TN.dCompR, TN.iL, TN.iT, TN.iR1, TN.iR2, TN.iR3, TN.iS, TN.iE, TN.iRv, TN.iZ, TN.dKeepT, TN.dCallT, TN.pTup, TN.pCons, TN.pOwn, TN.sAsgT, TN.sRetT, TN.tpL, TN.fIxT, TN.fTp, TN.dAppendT, TN.dReverseT, TN.dClearT, TN.dVarT, TN.dReverse, TN.dClear, TN.dPop, Pt.d, Sl.tp.injEq, TN.startF, TN.dCallV, Sl.fn.injEq, TN.dCallF, TN.dLRev, TN.dLAdd, TN.dLSlP, TN.dLSlice, TN.dSliceE, TN.dNo, TN.dEnd, TN.fNo, TN.sSeq, TN.sNext, TN.sDrop, TN.sRet, TN.sRetL, TN.sRetN, TN.sIf, TN.sAsg, TN.sAsgL, TN.sStore, TN.sForL, TN.sForT, TN.sForR, TN.sForR2, TN.tgN, TN.tgTup, TN.tgCons, TN.tgNil, TN.dP, TN.dB, TN.dCall, TN.dCallL, TN.dCallB, TN.dCallBL, TN.dCons, TN.dNil, TN.dTup, TN.dLst, TN.dKeep, TN.dVar, TN.fVar, TN.fPeek, TN.fC, TN.f2, TN.d2, TN.d2V, TN.f1, TN.d1, TN.fCB, TN.dCB, TN.dCBL, TN.fNil, TN.fCons, TN.asBool, TN.dTest, TN.bAnd, TN.bOr, TN.bNot, TN.dAnd, TN.dOr, TN.dNot, TN.fAndV, TN.fOrV, TN.fNotV, TN.dAndV, TN.dOrV, TN.dNotV, TN.dIfE, TN.dIfL, TN.fIfE, TN.fChain, TN.fSlice, TN.dSlice, TN.fNo, TN.fEnd, TN.dAppend, TN.dInsert, TN.dPopAt, TN.ownL, TN.start0, TN.begB, TN.backD, TN.wipeD, TN.dYes, TN.sNever, List.getElem?_cons_zero, List.getElem?_cons_succ, List.set_cons_zero, List.set_cons_succ, List.map_cons, List.map_nil, List.length_cons, List.length_nil, List.cons_append, List.nil_append, List.replicate_succ, List.replicate_zero, Option.map_some, Option.map_none, Nat.add_one_sub_one, Nat.sub_zero, Nat.sub_self, Nat.zero_add, reduceCtorEq, Option.some.injEq, PyData.int.injEq, PyData.str.injEq, PyData.bool.injEq, PyData.list.injEq, PyData.tuple.injEq, Sl.sh.injEq, Sl.ow.injEq, List.cons.injEq, exists_eq_left', exists_eq_left, true_implies, false_implies, and_true, true_and, forall_const, Option.isSome_some, TN.imp_ff, TN.imp_tf, TN.imp_tt, exists_eq_left, exists_eq_left', exists_eq])
      have em : ((lensL Rs done).filter fun p => aheadR Rs x p.1).map (fun p => PyData.int (p.2 : Nat)) = (((lensL Rs done).filter fun p => aheadR Rs x p.1).map (·.2)).map fun (n : Nat) => PyData.int n := by rw [List.map_map]; rfl
      rw [em]
      simp only [oMax_nat, oAdd_int]
      have e9 : putD (lenK (lensL Rs done)) (.inr x) (.int (1 + ((maxN (((lensL Rs done).filter fun p => aheadR Rs x p.1).map (·.2)) : Nat) : Int))) = lenK (lensL Rs (x :: done)) := by
        rw [show (1 + ((maxN (((lensL Rs done).filter fun p => aheadR Rs x p.1).map (·.2)) : Nat) : Int)) = ((1 + maxN (((lensL Rs done).filter fun p => aheadR Rs x p.1).map (·.2)) : Nat) : Int) by omega, len_put xk]
        rfl
      refine ⟨_, rfl, _, _, rfl, rfl, by rw [List.length_map]; omega, ?_⟩
      rw [e9]
      exact nx _ ⟨x :: done, _, _, er, rfl⟩
    · rintro ρ ⟨done, b2, b3, er, rfl⟩
      have er : r0 = done := er
      subst er
      (simp only [TN.iK, TN.iV, TN.iLT, TN.pNew, TN.dCallN, TN.dCompI2, TN.dLAddE, TN.oD, TN.sDNew, TN.sPutD, TN.fGetO, TN.fGetO2, TN.fInO, TN.fNinO, TN.dVarD, TN.dExtS, TN.mOwn, TN.dCallM, TN.mVar, TN.sRetV, TN.dAug, TN.dCallNT, TN.dCallNL, TN.fIxTs, TN.sForI, TN.dCompI, TN.dCompL, TN.dCompT, TN.dCompR, TN.iL, TN.iT, TN.iR1, TN.iR2, TN.iR3, TN.iS, TN.iE, TN.iRv, TN.iZ, TN.dKeepT, TN.dCallT, TN.pTup, TN.pCons, TN.pOwn, TN.sAsgT, TN.sRetT, TN.tpL, TN.fIxT, TN.fTp, TN.dAppendT, TN.dReverseT, TN.dClearT, TN.dVarT, TN.dReverse, TN.dClear, TN.dPop, Pt.d, Sl.tp.injEq, TN.startF, TN.dCallV, Sl.fn.injEq, TN.dCallF, TN.dLRev, TN.dLAdd, TN.dLSlP, TN.dLSlice, TN.dSliceE, TN.dNo, TN.dEnd, TN.fNo, TN.sSeq, TN.sNext, TN.sDrop, TN.sRet, TN.sRetL, TN.sRetN, TN.sIf, TN.sAsg, TN.sAsgL, TN.sStore, TN.sForL, TN.sForT, TN.sForR, TN.sForR2, TN.tgN, TN.tgTup, TN.tgCons, TN.tgNil, TN.dP, TN.dB, TN.dCall, TN.dCallL, TN.dCallB, TN.dCallBL, TN.dCons, TN.dNil, TN.dTup, TN.dLst, TN.dKeep, TN.dVar, TN.fVar, TN.fPeek, TN.fC, TN.f2, TN.d2, TN.d2V, TN.f1, TN.d1, TN.fCB, TN.dCB, TN.dCBL, TN.fNil, TN.fCons, TN.asBool, TN.dTest, TN.bAnd, TN.bOr, TN.bNot, TN.dAnd, TN.dOr, TN.dNot, TN.fAndV, TN.fOrV, TN.fNotV, TN.dAndV, TN.dOrV, TN.dNotV, TN.dIfE, TN.dIfL, TN.fIfE, TN.fChain, TN.fSlice, TN.dSlice, TN.fNo, TN.fEnd, TN.dAppend, TN.dInsert, TN.dPopAt, TN.ownL, TN.start0, TN.begB, TN.backD, TN.wipeD, TN.dYes, TN.sNever, List.getElem?_cons_zero, List.getElem?_cons_succ, List.set_cons_zero, List.set_cons_succ, List.map_cons, List.map_nil, List.length_cons, List.length_nil, List.cons_append, List.nil_append, List.replicate_succ, List.replicate_zero, Option.map_some, Option.map_none, Nat.add_one_sub_one, Nat.sub_zero, Nat.sub_self, Nat.zero_add, reduceCtorEq, Option.some.injEq, PyData.int.injEq, PyData.str.injEq, PyData.bool.injEq, PyData.list.injEq, PyData.tuple.injEq, Sl.sh.injEq, Sl.ow.injEq, List.cons.injEq, exists_eq_left', exists_eq_left, true_implies, false_implies, and_true, true_and, forall_const, Option.isSome_some, TN.imp_ff, TN.imp_tf, TN.imp_tt, exists_eq_left, exists_eq_left', exists_eq])
      exact q

abbrev s_least_longest : Stmt := topS 14
theorem sc_least_longest : FnScope ["rows", "lengths", "length", "kept", "further", "letter"] ["rows", "lengths"] (defScope s_least_longest) := ⟨rfl, rfl, rfl, by decide +kernel, rfl, by decide +kernel, by decide +kernel⟩
theorem ok_least_longest (b : Blt mg) (h_letters_of_length : Has P w K mg base "letters_of_length" 1 ["lengths", "length"] (sp0 K semOfLen)) (h_is_ahead : Has P w K mg base "is_ahead" 1 ["rows", "letter", "other"] (sp0 K semAhead)) {f : Addr} {fd : FuncData} (F : Fun K "least_longest" "least_longest" s_least_longest f fd) : FnG P w K mg base CX0 2 f fd ["rows", "lengths"] (sp0 K semLeast) := by
  refine fn0 (k := 1) F sc_least_longest (fun ds Q h => by obtain ⟨Rs, r0, rfl | rfl, _⟩ := h <;> rfl) (fun cdv A outer s H E hg hr =>
    have nd := sc_least_longest.nd
    have hu := hr.units
    have hu1 := hu_of hr
    (pss_cons (ps_set (i := 2) nd rfl (by first | exact Or.inl rfl | exact Or.inr rfl) (pe_maxVals rfl (by rfl) b.max (pv 1)))
 (pss_cons (ps_set (i := 3) nd rfl (by first | exact Or.inl rfl | exact Or.inr rfl) (pe_lst (pa_cons (pe_callB (cr_minS rfl) (by rfl) b.min (by decide +kernel) (pa_cons (pe_has (h_letters_of_length.up (by decide)) hg hr (by rfl) (pa_cons (pv 1) (pa_cons (pv 2) pa_nil))) pa_nil)) pa_nil)))
 (pss_cons (ps_while PassesOwn.never (pt_cmpR op_ltU (pe_callB call_len (by rfl) b.len (by decide +kernel) (pa_cons (pv 3) pa_nil)) (pv 2) (nomark _)) (pss_cons (ps_set (i := 4) nd rfl (by first | exact Or.inl rfl | exact Or.inr rfl) (pe_has (h_letters_of_length.up (by decide)) hg hr (by rfl) (pa_cons (pv 1) (pa_cons (pe_op op_sub (pv 2) (pe_callB call_len (by rfl) b.len (by decide +kernel) (pa_cons (pv 3) pa_nil))) pa_nil))))
 (pss_one (ps_expr (by exact (pe_bm PySem.F.plainAttrs_list PySem.F.slot_list_append PySem.F.type_list_append mt_append (pv 3) (pa_cons (pe_callB (cr_minS rfl) (by rfl) b.min (by decide +kernel) (pa_cons (pe_lc (own := [("letter", 5)]) (g := gName 5) rfl nd (pi_list (pv 4)) (blkOk_by (own := [("letter", 5)]) (N := ["rows", "lengths", "length", "kept", "further", "letter"]) (sc := defScope s_least_longest) (by decide +kernel)) (fun _ _ _ _ _ => pg_name (i := 5) nd rfl (by first | exact Or.inl rfl | exact Or.inr rfl)) (fun _ _ _ _ _ => by exact (pts_one (pt_val (pe_has (h_is_ahead.up (by decide)) hg hr (by rfl) (pa_cons (pv 0) (pa_cons (pe_ix ix_seq (pv 3) (pe_un un_neg pe_int) (fun _ _ => rfl)) (pa_cons (pv 5) pa_nil))))))) (fun _ _ _ _ _ => by exact (pv 5))) pa_nil)) pa_nil)))))))
 (pss_one (ps_ret (pe_callTy call_tupleX (by rfl) b.tuple (by decide +kernel) (pa_cons (pv 3) pa_nil))))))))
    (ls_seq (ls_asg (le_maxV (LP.e (lp_var (i := 1)))) (lg_name (i := 2) (by decide)))
 (ls_seq (ls_asgL (i := 3) (by decide) (ll_lst (les_cons (le_cb (les_cons (le_call (les_cons (LP.e (lp_var (i := 1))) (les_cons (LP.e (lp_var (i := 2))) les_nil))) les_nil) rc_minS) les_nil)))
 (ls_seq (ls_while (LB.g (lb_test (LP.m (lp_op (LP.m (lp_cb (lms_cons (lm_peek (i := 3)) lms_nil) rc_len)) (LP.m (lp_var (i := 2))) rb_U)))) (ls_seq (ls_asg (le_call (les_cons (LP.e (lp_var (i := 1))) (les_cons (LP.e (lp_op (LP.m (lp_var (i := 2))) (LP.m (lp_cb (lms_cons (lm_peek (i := 3)) lms_nil) rc_len)) rb_sub)) les_nil))) (lg_name (i := 4) (by decide)))
 (ls_drop (le_append (j := 3) (le_cb (les_cons (LL.e (ll_compL (j := 5) (vs := [5]) (by decide) (by decide) (LP.e (lp_var (i := 4))) (lt_B (le_call (les_cons (LP.e (lp_var (i := 0))) (les_cons (LP.e (lp_op (lm_peek (i := 3)) (LP.m (lp_un (LP.m lp_int) ru_neg)) rb_ix)) (les_cons (LP.e (lp_var (i := 5))) les_nil))))) (LP.e (lp_var (i := 5))))) les_nil) rc_minS)))))
 (ls_ret (LP.e (lp_cb (lms_cons (lm_peek (i := 3)) lms_nil) rc_tuple)))))) ?_
  rintro ds Q ⟨Rs, r0, ed, ro, ne, q⟩
  rcases ed with rfl | rfl
  · have gf := lens_sub (Rs := Rs) (r := r0)
    have nd := lens_nd (Rs := Rs) ro.nd
    have ll := lens_len Rs r0
    have rl := ro.len
    have tp := top_pos (Rs := Rs) ne
    have tl := top_le Rs r0
    have pn : lensL Rs r0 ≠ [] := fun z => by rw [z] at ll; exact ne (List.length_eq_zero_iff.mp ll.symm)
    (simp only [TN.iK, TN.iV, TN.iLT, TN.pNew, TN.dCallN, TN.dCompI2, TN.dLAddE, TN.oD, TN.sDNew, TN.sPutD, TN.fGetO, TN.fGetO2, TN.fInO, TN.fNinO, TN.dVarD, TN.dExtS, TN.mOwn, TN.dCallM, TN.mVar, TN.sRetV, TN.dAug, TN.dCallNT, TN.dCallNL, TN.fIxTs, TN.sForI, TN.dCompI, TN.dCompL, TN.dCompT, TN.dCompR, TN.iL, TN.iT, TN.iR1, TN.iR2, TN.iR3, TN.iS, TN.iE, TN.iRv, TN.iZ, TN.dKeepT, TN.dCallT, TN.pTup, TN.pCons, TN.pOwn, TN.sAsgT, TN.sRetT, TN.tpL, TN.fIxT, TN.fTp, TN.dAppendT, TN.dReverseT, TN.dClearT, TN.dVarT, TN.dReverse, TN.dClear, TN.dPop, Pt.d, Sl.tp.injEq, TN.startF, TN.dCallV, Sl.fn.injEq, TN.dCallF, TN.dLRev, TN.dLAdd, TN.dLSlP, TN.dLSlice, TN.dSliceE, TN.dNo, TN.dEnd, TN.fNo, TN.sSeq, TN.sNext, TN.sDrop, TN.sRet, TN.sRetL, TN.sRetN, TN.sIf, TN.sAsg, TN.sAsgL, TN.sStore, TN.sForL, TN.sForT, TN.sForR, TN.sForR2, TN.tgN, TN.tgTup, TN.tgCons, TN.tgNil, TN.dP, TN.dB, TN.dCall, TN.dCallL, TN.dCallB, TN.dCallBL, TN.dCons, TN.dNil, TN.dTup, TN.dLst, TN.dKeep, TN.dVar, TN.fVar, TN.fPeek, TN.fC, TN.f2, TN.d2, TN.d2V, TN.f1, TN.d1, TN.fCB, TN.dCB, TN.dCBL, TN.fNil, TN.fCons, TN.asBool, TN.dTest, TN.bAnd, TN.bOr, TN.bNot, TN.dAnd, TN.dOr, TN.dNot, TN.fAndV, TN.fOrV, TN.fNotV, TN.dAndV, TN.dOrV, TN.dNotV, TN.dIfE, TN.dIfL, TN.fIfE, TN.fChain, TN.fSlice, TN.dSlice, TN.fNo, TN.fEnd, TN.dAppend, TN.dInsert, TN.dPopAt, TN.ownL, TN.start0, TN.begB, TN.backD, TN.wipeD, TN.dYes, TN.sNever, List.getElem?_cons_zero, List.getElem?_cons_succ, List.set_cons_zero, List.set_cons_succ, List.map_cons, List.map_nil, List.length_cons, List.length_nil, List.cons_append, List.nil_append, List.replicate_succ, List.replicate_zero, Option.map_some, Option.map_none, Nat.add_one_sub_one, Nat.sub_zero, Nat.sub_self, Nat.zero_add, reduceCtorEq, Option.some.injEq, PyData.int.injEq, PyData.str.injEq, PyData.bool.injEq, PyData.list.injEq, PyData.tuple.injEq, Sl.sh.injEq, Sl.ow.injEq, List.cons.injEq, exists_eq_left', exists_eq_left, true_implies, false_implies, and_true, true_and, forall_const, Option.isSome_some, TN.imp_ff, TN.imp_tf, TN.imp_tt, exists_eq_left, exists_eq_left', exists_eq])
    unfold dMaxV
    (simp only [TN.iK, TN.iV, TN.iLT, TN.pNew, TN.dCallN, TN.dCompI2, TN.dLAddE, TN.oD, TN.sDNew, TN.sPutD, TN.fGetO, TN.fGetO2, TN.fInO, TN.fNinO, TN.dVarD, TN.dExtS, TN.mOwn, TN.dCallM, TN.mVar, TN.sRetV, TN.dAug, TN.dCallNT, TN.dCallNL, TN.fIxTs, TN.sForI, TN.dCompI, TN.dCompL, TN.dCompT, TN.dCompR, TN.iL, TN.iT, TN.iR1, TN.iR2, TN.iR3, TN.iS, TN.iE, TN.iRv, TN.iZ, TN.dKeepT, TN.dCallT, TN.pTup, TN.pCons, TN.pOwn, TN.sAsgT, TN.sRetT, TN.tpL, TN.fIxT, TN.fTp, TN.dAppendT, TN.dReverseT, TN.dClearT, TN.dVarT, TN.dReverse, TN.dClear, TN.dPop, Pt.d, Sl.tp.injEq, TN.startF, TN.dCallV, Sl.fn.injEq, TN.dCallF, TN.dLRev, TN.dLAdd, TN.dLSlP, TN.dLSlice, TN.dSliceE, TN.dNo, TN.dEnd, TN.fNo, TN.sSeq, TN.sNext, TN.sDrop, TN.sRet, TN.sRetL, TN.sRetN, TN.sIf, TN.sAsg, TN.sAsgL, TN.sStore, TN.sForL, TN.sForT, TN.sForR, TN.sForR2, TN.tgN, TN.tgTup, TN.tgCons, TN.tgNil, TN.dP, TN.dB, TN.dCall, TN.dCallL, TN.dCallB, TN.dCallBL, TN.dCons, TN.dNil, TN.dTup, TN.dLst, TN.dKeep, TN.dVar, TN.fVar, TN.fPeek, TN.fC, TN.f2, TN.d2, TN.d2V, TN.f1, TN.d1, TN.fCB, TN.dCB, TN.dCBL, TN.fNil, TN.fCons, TN.asBool, TN.dTest, TN.bAnd, TN.bOr, TN.bNot, TN.dAnd, TN.dOr, TN.dNot, TN.fAndV, TN.fOrV, TN.fNotV, TN.dAndV, TN.dOrV, TN.dNotV, TN.dIfE, TN.dIfL, TN.fIfE, TN.fChain, TN.fSlice, TN.dSlice, TN.fNo, TN.fEnd, TN.dAppend, TN.dInsert, TN.dPopAt, TN.ownL, TN.start0, TN.begB, TN.backD, TN.wipeD, TN.dYes, TN.sNever, List.getElem?_cons_zero, List.getElem?_cons_succ, List.set_cons_zero, List.set_cons_succ, List.map_cons, List.map_nil, List.length_cons, List.length_nil, List.cons_append, List.nil_append, List.replicate_succ, List.replicate_zero, Option.map_some, Option.map_none, Nat.add_one_sub_one, Nat.sub_zero, Nat.sub_self, Nat.zero_add, reduceCtorEq, Option.some.injEq, PyData.int.injEq, PyData.str.injEq, PyData.bool.injEq, PyData.list.injEq, PyData.tuple.injEq, Sl.sh.injEq, Sl.ow.injEq, List.cons.injEq, exists_eq_left', exists_eq_left, true_implies, false_implies, and_true, true_and, forall_const, Option.isSome_some, TN.imp_ff, TN.imp_tf, TN.imp_tt, exists_eq_left, exists_eq_left', exists_eq])
    refine ⟨_, _, rfl, len_vals _, by simpa using pn, ?_⟩
    have lm : maxL ((lensL Rs r0).map fun p => (p.2 : Int)) = (topN Rs r0 : Nat) := len_max pn
    rw [lm]
    obtain ⟨p, hp, ep⟩ := lens_all (Rs := Rs) (r := r0) 0 (topN Rs r0) tp (by omega)
    have on : ofLen (lensL Rs r0) (topN Rs r0) ≠ [] := fun z => by
      have : p.1 ∈ ofLen (lensL Rs r0) (topN Rs r0) := ofLen_mem.mpr (by rw [← ep]; exact hp)
      rw [z] at this; cases this
    obtain ⟨x, ex, hx⟩ := min_some on
    refine ⟨lensL Rs r0, topN Rs r0, rfl, nd, by omega, _, rfl, _, oMinS_lst ex, by omega, topN Rs r0 - 1 + 1, ?_⟩
    have hx := ofLen_mem.mp hx
    refine keep_turns (Rs := Rs) (rowsD := .tuple (Rs.map tupL)) (.inl rfl) ro nd (by omega) gf (lens_step Rs r0) (by omega) (topN Rs r0 - 1) [] x .no (by simp; omega) (by rw [show topN Rs r0 - 1 + 1 = topN Rs r0 by omega]; exact hx) fun b4 => ?_
    (simp only [TN.iK, TN.iV, TN.iLT, TN.pNew, TN.dCallN, TN.dCompI2, TN.dLAddE, TN.oD, TN.sDNew, TN.sPutD, TN.fGetO, TN.fGetO2, TN.fInO, TN.fNinO, TN.dVarD, TN.dExtS, TN.mOwn, TN.dCallM, TN.mVar, TN.sRetV, TN.dAug, TN.dCallNT, TN.dCallNL, TN.fIxTs, TN.sForI, TN.dCompI, TN.dCompL, TN.dCompT, TN.dCompR, TN.iL, TN.iT, TN.iR1, TN.iR2, TN.iR3, TN.iS, TN.iE, TN.iRv, TN.iZ, TN.dKeepT, TN.dCallT, TN.pTup, TN.pCons, TN.pOwn, TN.sAsgT, TN.sRetT, TN.tpL, TN.fIxT, TN.fTp, TN.dAppendT, TN.dReverseT, TN.dClearT, TN.dVarT, TN.dReverse, TN.dClear, TN.dPop, Pt.d, Sl.tp.injEq, TN.startF, TN.dCallV, Sl.fn.injEq, TN.dCallF, TN.dLRev, TN.dLAdd, TN.dLSlP, TN.dLSlice, TN.dSliceE, TN.dNo, TN.dEnd, TN.fNo, TN.sSeq, TN.sNext, TN.sDrop, TN.sRet, TN.sRetL, TN.sRetN, TN.sIf, TN.sAsg, TN.sAsgL, TN.sStore, TN.sForL, TN.sForT, TN.sForR, TN.sForR2, TN.tgN, TN.tgTup, TN.tgCons, TN.tgNil, TN.dP, TN.dB, TN.dCall, TN.dCallL, TN.dCallB, TN.dCallBL, TN.dCons, TN.dNil, TN.dTup, TN.dLst, TN.dKeep, TN.dVar, TN.fVar, TN.fPeek, TN.fC, TN.f2, TN.d2, TN.d2V, TN.f1, TN.d1, TN.fCB, TN.dCB, TN.dCBL, TN.fNil, TN.fCons, TN.asBool, TN.dTest, TN.bAnd, TN.bOr, TN.bNot, TN.dAnd, TN.dOr, TN.dNot, TN.fAndV, TN.fOrV, TN.fNotV, TN.dAndV, TN.dOrV, TN.dNotV, TN.dIfE, TN.dIfL, TN.fIfE, TN.fChain, TN.fSlice, TN.dSlice, TN.fNo, TN.fEnd, TN.dAppend, TN.dInsert, TN.dPopAt, TN.ownL, TN.start0, TN.begB, TN.backD, TN.wipeD, TN.dYes, TN.sNever, List.getElem?_cons_zero, List.getElem?_cons_succ, List.set_cons_zero, List.set_cons_succ, List.map_cons, List.map_nil, List.length_cons, List.length_nil, List.cons_append, List.nil_append, List.replicate_succ, List.replicate_zero, Option.map_some, Option.map_none, Nat.add_one_sub_one, Nat.sub_zero, Nat.sub_self, Nat.zero_add, reduceCtorEq, Option.some.injEq, PyData.int.injEq, PyData.str.injEq, PyData.bool.injEq, PyData.list.injEq, PyData.tuple.injEq, Sl.sh.injEq, Sl.ow.injEq, List.cons.injEq, exists_eq_left', exists_eq_left, true_implies, false_implies, and_true, true_and, forall_const, Option.isSome_some, TN.imp_ff, TN.imp_tf, TN.imp_tt, exists_eq_left, exists_eq_left', exists_eq])
    have ek : [] ++ x :: keepL Rs (lensL Rs r0) (topN Rs r0 - 1) x = keptL Rs (lensL Rs r0) := by
      show _ = (minS (ofLen (lensL Rs r0) (topN Rs r0))).getD "" :: keepL Rs (lensL Rs r0) (topN Rs r0 - 1) ((minS (ofLen (lensL Rs r0) (topN Rs r0))).getD "")
      rw [ex]; rfl
    rw [← ek] at q
    exact ⟨_, rfl, q⟩
  · have gf := lens_sub (Rs := Rs) (r := r0)
    have nd := lens_nd (Rs := Rs) ro.nd
    have ll := lens_len Rs r0
    have rl := ro.len
    have tp := top_pos (Rs := Rs) ne
    have tl := top_le Rs r0
    have pn : lensL Rs r0 ≠ [] := fun z => by rw [z] at ll; exact ne (List.length_eq_zero_iff.mp ll.symm)
    (simp only [TN.iK, TN.iV, TN.iLT, TN.pNew, TN.dCallN, TN.dCompI2, TN.dLAddE, TN.oD, TN.sDNew, TN.sPutD, TN.fGetO, TN.fGetO2, TN.fInO, TN.fNinO, TN.dVarD, TN.dExtS, TN.mOwn, TN.dCallM, TN.mVar, TN.sRetV, TN.dAug, TN.dCallNT, TN.dCallNL, TN.fIxTs, TN.sForI, TN.dCompI, TN.dCompL, TN.dCompT, TN.dCompR, TN.iL, TN.iT, TN.iR1, TN.iR2, TN.iR3, TN.iS, TN.iE, TN.iRv, TN.iZ, TN.dKeepT, TN.dCallT, TN.pTup, TN.pCons, TN.pOwn, TN.sAsgT, TN.sRetT, TN.tpL, TN.fIxT, TN.fTp, TN.dAppendT, TN.dReverseT, TN.dClearT, TN.dVarT, TN.dReverse, TN.dClear, TN.dPop, Pt.d, Sl.tp.injEq, TN.startF, TN.dCallV, Sl.fn.injEq, TN.dCallF, TN.dLRev, TN.dLAdd, TN.dLSlP, TN.dLSlice, TN.dSliceE, TN.dNo, TN.dEnd, TN.fNo, TN.sSeq, TN.sNext, TN.sDrop, TN.sRet, TN.sRetL, TN.sRetN, TN.sIf, TN.sAsg, TN.sAsgL, TN.sStore, TN.sForL, TN.sForT, TN.sForR, TN.sForR2, TN.tgN, TN.tgTup, TN.tgCons, TN.tgNil, TN.dP, TN.dB, TN.dCall, TN.dCallL, TN.dCallB, TN.dCallBL, TN.dCons, TN.dNil, TN.dTup, TN.dLst, TN.dKeep, TN.dVar, TN.fVar, TN.fPeek, TN.fC, TN.f2, TN.d2, TN.d2V, TN.f1, TN.d1, TN.fCB, TN.dCB, TN.dCBL, TN.fNil, TN.fCons, TN.asBool, TN.dTest, TN.bAnd, TN.bOr, TN.bNot, TN.dAnd, TN.dOr, TN.dNot, TN.fAndV, TN.fOrV, TN.fNotV, TN.dAndV, TN.dOrV, TN.dNotV, TN.dIfE, TN.dIfL, TN.fIfE, TN.fChain, TN.fSlice, TN.dSlice, TN.fNo, TN.fEnd, TN.dAppend, TN.dInsert, TN.dPopAt, TN.ownL, TN.start0, TN.begB, TN.backD, TN.wipeD, TN.dYes, TN.sNever, List.getElem?_cons_zero, List.getElem?_cons_succ, List.set_cons_zero, List.set_cons_succ, List.map_cons, List.map_nil, List.length_cons, List.length_nil, List.cons_append, List.nil_append, List.replicate_succ, List.replicate_zero, Option.map_some, Option.map_none, Nat.add_one_sub_one, Nat.sub_zero, Nat.sub_self, Nat.zero_add, reduceCtorEq, Option.some.injEq, PyData.int.injEq, PyData.str.injEq, PyData.bool.injEq, PyData.list.injEq, PyData.tuple.injEq, Sl.sh.injEq, Sl.ow.injEq, List.cons.injEq, exists_eq_left', exists_eq_left, true_implies, false_implies, and_true, true_and, forall_const, Option.isSome_some, TN.imp_ff, TN.imp_tf, TN.imp_tt, exists_eq_left, exists_eq_left', exists_eq])
    unfold dMaxV
    (simp only [TN.iK, TN.iV, TN.iLT, TN.pNew, TN.dCallN, TN.dCompI2, TN.dLAddE, TN.oD, TN.sDNew, TN.sPutD, TN.fGetO, TN.fGetO2, TN.fInO, TN.fNinO, TN.dVarD, TN.dExtS, TN.mOwn, TN.dCallM, TN.mVar, TN.sRetV, TN.dAug, TN.dCallNT, TN.dCallNL, TN.fIxTs, TN.sForI, TN.dCompI, TN.dCompL, TN.dCompT, TN.dCompR, TN.iL, TN.iT, TN.iR1, TN.iR2, TN.iR3, TN.iS, TN.iE, TN.iRv, TN.iZ, TN.dKeepT, TN.dCallT, TN.pTup, TN.pCons, TN.pOwn, TN.sAsgT, TN.sRetT, TN.tpL, TN.fIxT, TN.fTp, TN.dAppendT, TN.dReverseT, TN.dClearT, TN.dVarT, TN.dReverse, TN.dClear, TN.dPop, Pt.d, Sl.tp.injEq, TN.startF, TN.dCallV, Sl.fn.injEq, TN.dCallF, TN.dLRev, TN.dLAdd, TN.dLSlP, TN.dLSlice, TN.dSliceE, TN.dNo, TN.dEnd, TN.fNo, TN.sSeq, TN.sNext, TN.sDrop, TN.sRet, TN.sRetL, TN.sRetN, TN.sIf, TN.sAsg, TN.sAsgL, TN.sStore, TN.sForL, TN.sForT, TN.sForR, TN.sForR2, TN.tgN, TN.tgTup, TN.tgCons, TN.tgNil, TN.dP, TN.dB, TN.dCall, TN.dCallL, TN.dCallB, TN.dCallBL, TN.dCons, TN.dNil, TN.dTup, TN.dLst, TN.dKeep, TN.dVar, TN.fVar, TN.fPeek, TN.fC, TN.f2, TN.d2, TN.d2V, TN.f1, TN.d1, TN.fCB, TN.dCB, TN.dCBL, TN.fNil, TN.fCons, TN.asBool, TN.dTest, TN.bAnd, TN.bOr, TN.bNot, TN.dAnd, TN.dOr, TN.dNot, TN.fAndV, TN.fOrV, TN.fNotV, TN.dAndV, TN.dOrV, TN.dNotV, TN.dIfE, TN.dIfL, TN.fIfE, TN.fChain, TN.fSlice, TN.dSlice, TN.fNo, TN.fEnd, TN.dAppend, TN.dInsert, TN.dPopAt, TN.ownL, TN.start0, TN.begB, TN.backD, TN.wipeD, TN.dYes, TN.sNever, List.getElem?_cons_zero, List.getElem?_cons_succ, List.set_cons_zero, List.set_cons_succ, List.map_cons, List.map_nil, List.length_cons, List.length_nil, List.cons_append, List.nil_append, List.replicate_succ, List.replicate_zero, Option.map_some, Option.map_none, Nat.add_one_sub_one, Nat.sub_zero, Nat.sub_self, Nat.zero_add, reduceCtorEq, Option.some.injEq, PyData.int.injEq, PyData.str.injEq, PyData.bool.injEq, PyData.list.injEq, PyData.tuple.injEq, Sl.sh.injEq, Sl.ow.injEq, List.cons.injEq, exists_eq_left', exists_eq_left, true_implies, false_implies, and_true, true_and, forall_const, Option.isSome_some, TN.imp_ff, TN.imp_tf, TN.imp_tt, exists_eq_left, exists_eq_left', exists_eq])
    refine ⟨_, _, rfl, len_vals _, by simpa using pn, ?_⟩
    have lm : maxL ((lensL Rs r0).map fun p => (p.2 : Int)) = (topN Rs r0 : Nat) := len_max pn
    rw [lm]
    obtain ⟨p, hp, ep⟩ := lens_all (Rs := Rs) (r := r0) 0 (topN Rs r0) tp (by omega)
    have on : ofLen (lensL Rs r0) (topN Rs r0) ≠ [] := fun z => by
      have : p.1 ∈ ofLen (lensL Rs r0) (topN Rs r0) := ofLen_mem.mpr (by rw [← ep]; exact hp)
      rw [z] at this; cases this
    obtain ⟨x, ex, hx⟩ := min_some on
    refine ⟨lensL Rs r0, topN Rs r0, rfl, nd, by omega, _, rfl, _, oMinS_lst ex, by omega, topN Rs r0 - 1 + 1, ?_⟩
    have hx := ofLen_mem.mp hx
    refine keep_turns (Rs := Rs) (rowsD := .list (Rs.map tupL)) (.inr rfl) ro nd (by omega) gf (lens_step Rs r0) (by omega) (topN Rs r0 - 1) [] x .no (by simp; omega) (by rw [show topN Rs r0 - 1 + 1 = topN Rs r0 by omega]; exact hx) fun b4 => ?_
    (simp only [TN.iK, TN.iV, TN.iLT, TN.pNew, TN.dCallN, TN.dCompI2, TN.dLAddE, TN.oD, TN.sDNew, TN.sPutD, TN.fGetO, TN.fGetO2, TN.fInO, TN.fNinO, TN.dVarD, TN.dExtS, TN.mOwn, TN.dCallM, TN.mVar, TN.sRetV, TN.dAug, TN.dCallNT, TN.dCallNL, TN.fIxTs, TN.sForI, TN.dCompI, TN.dCompL, TN.dCompT, TN.dCompR, TN.iL, TN.iT, TN.iR1, TN.iR2, TN.iR3, TN.iS, TN.iE, TN.iRv, TN.iZ, TN.dKeepT, TN.dCallT, TN.pTup, TN.pCons, TN.pOwn, TN.sAsgT, TN.sRetT, TN.tpL, TN.fIxT, TN.fTp, TN.dAppendT, TN.dReverseT, TN.dClearT, TN.dVarT, TN.dReverse, TN.dClear, TN.dPop, Pt.d, Sl.tp.injEq, TN.startF, TN.dCallV, Sl.fn.injEq, TN.dCallF, TN.dLRev, TN.dLAdd, TN.dLSlP, TN.dLSlice, TN.dSliceE, TN.dNo, TN.dEnd, TN.fNo, TN.sSeq, TN.sNext, TN.sDrop, TN.sRet, TN.sRetL, TN.sRetN, TN.sIf, TN.sAsg, TN.sAsgL, TN.sStore, TN.sForL, TN.sForT, TN.sForR, TN.sForR2, TN.tgN, TN.tgTup, TN.tgCons, TN.tgNil, TN.dP, TN.dB, TN.dCall, TN.dCallL, TN.dCallB, TN.dCallBL, TN.dCons, TN.dNil, TN.dTup, TN.dLst, TN.dKeep, TN.dVar, TN.fVar, TN.fPeek, TN.fC, TN.f2, TN.d2, TN.d2V, TN.f1, TN.d1, TN.fCB, TN.dCB, TN.dCBL, TN.fNil, TN.fCons, TN.asBool, TN.dTest, TN.bAnd, TN.bOr, TN.bNot, TN.dAnd, TN.dOr, TN.dNot, TN.fAndV, TN.fOrV, TN.fNotV, TN.dAndV, TN.dOrV, TN.dNotV, TN.dIfE, TN.dIfL, TN.fIfE, TN.fChain, TN.fSlice, TN.dSlice, TN.fNo, TN.fEnd, TN.dAppend, TN.dInsert, TN.dPopAt, TN.ownL, TN.start0, TN.begB, TN.backD, TN.wipeD, TN.dYes, TN.sNever, List.getElem?_cons_zero, List.getElem?_cons_succ, List.set_cons_zero, List.set_cons_succ, List.map_cons, List.map_nil, List.length_cons, List.length_nil, List.cons_append, List.nil_append, List.replicate_succ, List.replicate_zero, Option.map_some, Option.map_none, Nat.add_one_sub_one, Nat.sub_zero, Nat.sub_self, Nat.zero_add, reduceCtorEq, Option.some.injEq, PyData.int.injEq, PyData.str.injEq, PyData.bool.injEq, PyData.list.injEq, PyData.tuple.injEq, Sl.sh.injEq, Sl.ow.injEq, List.cons.injEq, exists_eq_left', exists_eq_left, true_implies, false_implies, and_true, true_and, forall_const, Option.isSome_some, TN.imp_ff, TN.imp_tf, TN.imp_tt, exists_eq_left, exists_eq_left', exists_eq])
    have ek : [] ++ x :: keepL Rs (lensL Rs r0) (topN Rs r0 - 1) x = keptL Rs (lensL Rs r0) := by
      show _ = (minS (ofLen (lensL Rs r0) (topN Rs r0))).getD "" :: keepL Rs (lensL Rs r0) (topN Rs r0 - 1) ((minS (ofLen (lensL Rs r0) (topN Rs r0))).getD "")
      rw [ex]; rfl
    rw [← ek] at q
    exact ⟨_, rfl, q⟩

abbrev s_letters_of_length : Stmt := topS 15
theorem sc_letters_of_length : FnScope ["lengths", "length", "letter"] ["lengths", "length"] (defScope s_letters_of_length) := ⟨rfl, rfl, rfl, by decide +kernel, rfl, by decide +kernel, by decide +kernel⟩
theorem ok_letters_of_length (b : Blt mg) {f : Addr} {fd : FuncData} (F : Fun K "letters_of_length" "letters_of_length" s_letters_of_length f fd) : FnG P w K mg base CX0 1 f fd ["lengths", "length"] (sp0 K semOfLen) := by
  refine fn0 (k := 0) F sc_letters_of_length (fun ds Q h => by obtain ⟨P, n, rfl, _⟩ := h; rfl) (fun cdv A outer s H E hg hr =>
    have nd := sc_letters_of_length.nd
    have hu := hr.units
    have hu1 := hu_of hr
    (pss_one (ps_ret (pe_lc (own := [("letter", 2)]) (g := (gName 2)) rfl nd (pi_keys (pv 0)) (blkOk_by (own := [("letter", 2)]) (N := ["lengths", "length", "letter"]) (sc := defScope s_letters_of_length) (by decide +kernel)) (fun _ _ _ _ _ => (pg_name (i := 2) nd rfl (by first | exact Or.inl rfl | exact Or.inr rfl))) (fun _ _ _ _ _ => by exact (pts_one (pt_cmpR (op_eqD hu) (pe_dget hu1 (pv 0) (pv 2) (fun _ _ => rfl)) (pv 1) (nomark _)))) (fun _ _ _ _ _ => by exact (pv 2))))))
    (ls_ret (LL.e (ll_compI (vs := [2]) (li_keys (LP.e (lp_var (i := 0)))) (lgc_name (by decide) (by decide)) (by decide) (LB.g (lb_test (LP.m (lp_op (LP.m (lp_dget (LP.m (lp_var (i := 0))) (LP.m (lp_var (i := 2))))) (LP.m (lp_var (i := 1))) rb_eq)))) (LP.e (lp_var (i := 2)))))) ?_
  rintro ds Q ⟨P, n, rfl, nd, few, q⟩
  (simp only [TN.iK, TN.iV, TN.iLT, TN.pNew, TN.dCallN, TN.dCompI2, TN.dLAddE, TN.oD, TN.sDNew, TN.sPutD, TN.fGetO, TN.fGetO2, TN.fInO, TN.fNinO, TN.dVarD, TN.dExtS, TN.mOwn, TN.dCallM, TN.mVar, TN.sRetV, TN.dAug, TN.dCallNT, TN.dCallNL, TN.fIxTs, TN.sForI, TN.dCompI, TN.dCompL, TN.dCompT, TN.dCompR, TN.iL, TN.iT, TN.iR1, TN.iR2, TN.iR3, TN.iS, TN.iE, TN.iRv, TN.iZ, TN.dKeepT, TN.dCallT, TN.pTup, TN.pCons, TN.pOwn, TN.sAsgT, TN.sRetT, TN.tpL, TN.fIxT, TN.fTp, TN.dAppendT, TN.dReverseT, TN.dClearT, TN.dVarT, TN.dReverse, TN.dClear, TN.dPop, Pt.d, Sl.tp.injEq, TN.startF, TN.dCallV, Sl.fn.injEq, TN.dCallF, TN.dLRev, TN.dLAdd, TN.dLSlP, TN.dLSlice, TN.dSliceE, TN.dNo, TN.dEnd, TN.fNo, TN.sSeq, TN.sNext, TN.sDrop, TN.sRet, TN.sRetL, TN.sRetN, TN.sIf, TN.sAsg, TN.sAsgL, TN.sStore, TN.sForL, TN.sForT, TN.sForR, TN.sForR2, TN.tgN, TN.tgTup, TN.tgCons, TN.tgNil, TN.dP, TN.dB, TN.dCall, TN.dCallL, TN.dCallB, TN.dCallBL, TN.dCons, TN.dNil, TN.dTup, TN.dLst, TN.dKeep, TN.dVar, TN.fVar, TN.fPeek, TN.fC, TN.f2, TN.d2, TN.d2V, TN.f1, TN.d1, TN.fCB, TN.dCB, TN.dCBL, TN.fNil, TN.fCons, TN.asBool, TN.dTest, TN.bAnd, TN.bOr, TN.bNot, TN.dAnd, TN.dOr, TN.dNot, TN.fAndV, TN.fOrV, TN.fNotV, TN.dAndV, TN.dOrV, TN.dNotV, TN.dIfE, TN.dIfL, TN.fIfE, TN.fChain, TN.fSlice, TN.dSlice, TN.fNo, TN.fEnd, TN.dAppend, TN.dInsert, TN.dPopAt, TN.ownL, TN.start0, TN.begB, TN.backD, TN.wipeD, TN.dYes, TN.sNever, List.getElem?_cons_zero, List.getElem?_cons_succ, List.set_cons_zero, List.set_cons_succ, List.map_cons, List.map_nil, List.length_cons, List.length_nil, List.cons_append, List.nil_append, List.replicate_succ, List.replicate_zero, Option.map_some, Option.map_none, Nat.add_one_sub_one, Nat.sub_zero, Nat.sub_self, Nat.zero_add, reduceCtorEq, Option.some.injEq, PyData.int.injEq, PyData.str.injEq, PyData.bool.injEq, PyData.list.injEq, PyData.tuple.injEq, Sl.sh.injEq, Sl.ow.injEq, List.cons.injEq, exists_eq_left', exists_eq_left, true_implies, false_implies, and_true, true_and, forall_const, Option.isSome_some, TN.imp_ff, TN.imp_tf, TN.imp_tt, exists_eq_left, exists_eq_left', exists_eq])
  refine ⟨_, rfl, ?_⟩
  have e : (dctD (lenK P)).map (·.1) = P.map fun p => PyData.str p.1 := by
    unfold dctD
    rw [List.map_map, List.map_map]
    rfl
  rw [e]
  refine compT_fil (fun p : Str × Nat => PyData.str p.1) (fun p => PyData.str p.1) (fun p => decide (p.2 = n)) (fun p => p ∈ P) (fun p => [.sh (lenD P), .sh (.int n), .sh (.str p.1)]) rfl (fun r K k => k) (fun r => rfl) (fun r R hr k => ?_) (fun r R hr _ k => ?_) P [] (fun _ h => h) (by simp; omega) ?_
  · (simp only [TN.iK, TN.iV, TN.iLT, TN.pNew, TN.dCallN, TN.dCompI2, TN.dLAddE, TN.oD, TN.sDNew, TN.sPutD, TN.fGetO, TN.fGetO2, TN.fInO, TN.fNinO, TN.dVarD, TN.dExtS, TN.mOwn, TN.dCallM, TN.mVar, TN.sRetV, TN.dAug, TN.dCallNT, TN.dCallNL, TN.fIxTs, TN.sForI, TN.dCompI, TN.dCompL, TN.dCompT, TN.dCompR, TN.iL, TN.iT, TN.iR1, TN.iR2, TN.iR3, TN.iS, TN.iE, TN.iRv, TN.iZ, TN.dKeepT, TN.dCallT, TN.pTup, TN.pCons, TN.pOwn, TN.sAsgT, TN.sRetT, TN.tpL, TN.fIxT, TN.fTp, TN.dAppendT, TN.dReverseT, TN.dClearT, TN.dVarT, TN.dReverse, TN.dClear, TN.dPop, Pt.d, Sl.tp.injEq, TN.startF, TN.dCallV, Sl.fn.injEq, TN.dCallF, TN.dLRev, TN.dLAdd, TN.dLSlP, TN.dLSlice, TN.dSliceE, TN.dNo, TN.dEnd, TN.fNo, TN.sSeq, TN.sNext, TN.sDrop, TN.sRet, TN.sRetL, TN.sRetN, TN.sIf, TN.sAsg, TN.sAsgL, TN.sStore, TN.sForL, TN.sForT, TN.sForR, TN.sForR2, TN.tgN, TN.tgTup, TN.tgCons, TN.tgNil, TN.dP, TN.dB, TN.dCall, TN.dCallL, TN.dCallB, TN.dCallBL, TN.dCons, TN.dNil, TN.dTup, TN.dLst, TN.dKeep, TN.dVar, TN.fVar, TN.fPeek, TN.fC, TN.f2, TN.d2, TN.d2V, TN.f1, TN.d1, TN.fCB, TN.dCB, TN.dCBL, TN.fNil, TN.fCons, TN.asBool, TN.dTest, TN.bAnd, TN.bOr, TN.bNot, TN.dAnd, TN.dOr, TN.dNot, TN.fAndV, TN.fOrV, TN.fNotV, TN.dAndV, TN.dOrV, TN.dNotV, TN.dIfE, TN.dIfL, TN.fIfE, TN.fChain, TN.fSlice, TN.dSlice, TN.fNo, TN.fEnd, TN.dAppend, TN.dInsert, TN.dPopAt, TN.ownL, TN.start0, TN.begB, TN.backD, TN.wipeD, TN.dYes, TN.sNever, List.getElem?_cons_zero, List.getElem?_cons_succ, List.set_cons_zero, List.set_cons_succ, List.map_cons, List.map_nil, List.length_cons, List.length_nil, List.cons_append, List.nil_append, List.replicate_succ, List.replicate_zero, Option.map_some, Option.map_none, Nat.add_one_sub_one, Nat.sub_zero, Nat.sub_self, Nat.zero_add, reduceCtorEq, Option.some.injEq, PyData.int.injEq, PyData.str.injEq, PyData.bool.injEq, PyData.list.injEq, PyData.tuple.injEq, Sl.sh.injEq, Sl.ow.injEq, List.cons.injEq, exists_eq_left', exists_eq_left, true_implies, false_implies, and_true, true_and, forall_const, Option.isSome_some, TN.imp_ff, TN.imp_tf, TN.imp_tt, exists_eq_left, exists_eq_left', exists_eq])
    have eg := len_get nd hr
    simp only [eg, oEq_int]
    have e : decide ((r.2 : Int) = (n : Int)) = decide (r.2 = n) := decide_eq_decide.mpr (by omega)
    rw [e]
    exact ⟨_, rfl, k⟩
  · (simp only [TN.iK, TN.iV, TN.iLT, TN.pNew, TN.dCallN, TN.dCompI2, TN.dLAddE, TN.oD, TN.sDNew, TN.sPutD, TN.fGetO, TN.fGetO2, TN.fInO, TN.fNinO, TN.dVarD, TN.dExtS, TN.mOwn, TN.dCallM, TN.mVar, TN.sRetV, TN.dAug, TN.dCallNT, TN.dCallNL, TN.fIxTs, TN.sForI, TN.dCompI, TN.dCompL, TN.dCompT, TN.dCompR, TN.iL, TN.iT, TN.iR1, TN.iR2, TN.iR3, TN.iS, TN.iE, TN.iRv, TN.iZ, TN.dKeepT, TN.dCallT, TN.pTup, TN.pCons, TN.pOwn, TN.sAsgT, TN.sRetT, TN.tpL, TN.fIxT, TN.fTp, TN.dAppendT, TN.dReverseT, TN.dClearT, TN.dVarT, TN.dReverse, TN.dClear, TN.dPop, Pt.d, Sl.tp.injEq, TN.startF, TN.dCallV, Sl.fn.injEq, TN.dCallF, TN.dLRev, TN.dLAdd, TN.dLSlP, TN.dLSlice, TN.dSliceE, TN.dNo, TN.dEnd, TN.fNo, TN.sSeq, TN.sNext, TN.sDrop, TN.sRet, TN.sRetL, TN.sRetN, TN.sIf, TN.sAsg, TN.sAsgL, TN.sStore, TN.sForL, TN.sForT, TN.sForR, TN.sForR2, TN.tgN, TN.tgTup, TN.tgCons, TN.tgNil, TN.dP, TN.dB, TN.dCall, TN.dCallL, TN.dCallB, TN.dCallBL, TN.dCons, TN.dNil, TN.dTup, TN.dLst, TN.dKeep, TN.dVar, TN.fVar, TN.fPeek, TN.fC, TN.f2, TN.d2, TN.d2V, TN.f1, TN.d1, TN.fCB, TN.dCB, TN.dCBL, TN.fNil, TN.fCons, TN.asBool, TN.dTest, TN.bAnd, TN.bOr, TN.bNot, TN.dAnd, TN.dOr, TN.dNot, TN.fAndV, TN.fOrV, TN.fNotV, TN.dAndV, TN.dOrV, TN.dNotV, TN.dIfE, TN.dIfL, TN.fIfE, TN.fChain, TN.fSlice, TN.dSlice, TN.fNo, TN.fEnd, TN.dAppend, TN.dInsert, TN.dPopAt, TN.ownL, TN.start0, TN.begB, TN.backD, TN.wipeD, TN.dYes, TN.sNever, List.getElem?_cons_zero, List.getElem?_cons_succ, List.set_cons_zero, List.set_cons_succ, List.map_cons, List.map_nil, List.length_cons, List.length_nil, List.cons_append, List.nil_append, List.replicate_succ, List.replicate_zero, Option.map_some, Option.map_none, Nat.add_one_sub_one, Nat.sub_zero, Nat.sub_self, Nat.zero_add, reduceCtorEq, Option.some.injEq, PyData.int.injEq, PyData.str.injEq, PyData.bool.injEq, PyData.list.injEq, PyData.tuple.injEq, Sl.sh.injEq, Sl.ow.injEq, List.cons.injEq, exists_eq_left', exists_eq_left, true_implies, false_implies, and_true, true_and, forall_const, Option.isSome_some, TN.imp_ff, TN.imp_tf, TN.imp_tt, exists_eq_left, exists_eq_left', exists_eq])
    exact k
  rw [List.nil_append]
  have e2 : ((P.filter fun p => decide (p.2 = n)).map fun p => PyData.str p.1) = (ofLen P n).map PyData.str := by unfold ofLen; rw [List.map_map]; rfl
  rw [e2]
  exact q

abbrev s_need_hearers : Stmt := topS 18
theorem sc_need_hearers : FnScope ["row", "hearers", "heard"] ["row", "hearers"] (defScope s_need_hearers) := ⟨rfl, rfl, rfl, by decide +kernel, rfl, by decide +kernel, by decide +kernel⟩
theorem ok_need_hearers (b : Blt mg) (h_need_row : Has P w K mg base "need_row" 4 ["row"] (sp0 K semNeedRow)) (h_is_pair : Has P w K mg base "is_pair" 4 ["thing"] (sp0 K semPair)) {tk_MOST_HEARERS : Tok} (c_MOST_HEARERS : mg "MOST_HEARERS" = some (.int 4 tk_MOST_HEARERS)) {f : Addr} {fd : FuncData} (F : Fun K "need_hearers" "need_hearers" s_need_hearers f fd) : FnG P w K mg base CX0 5 f fd ["row", "hearers"] (sp0 K semNeedHearers) := by
  refine fn0 (k := 4) F sc_need_hearers (fun ds Q h => by obtain ⟨t, x, rfl, _⟩ := h; rfl) (fun cdv A outer s H E hg hr =>
    have nd := sc_need_hearers.nd
    have hu := hr.units
    have hu1 := hu_of hr
    (pss_cons (ps_expr (by exact (pe_has (h_need_row.up (by decide)) hg hr (by rfl) (pa_cons (pv 0) pa_nil))))
 (pss_cons (ps_if (PW.pt (pw_or (pt_cmpR op_notTyB (pe_callTy call_typeF (by rfl) b.type (by decide +kernel) (pa_cons (pv 1) pa_nil)) (pe_bltn (v := .ty "list") (by rfl) b.list (by decide +kernel) rfl) (nomark _)) (pw_or1 (pt_not (pt_chain op_leU op_leU pe_int (pe_callB call_len (by rfl) b.len (by decide +kernel) (pa_cons (pv 1) pa_nil)) (pe_glob (v := .int 4) (by rfl) c_MOST_HEARERS ⟨_, rfl⟩)))))) (pss_one ps_never) pss_nil)
 (pss_one (ps_if (pt_not (pt_val (pe_callB (cr_all rfl) (by rfl) b.all (by decide +kernel) (pa_cons (pe_lc (own := [("heard", 2)]) (g := gName 2) (tt := tYes) rfl nd (pi_list (pv 1)) (blkOk_by (own := [("heard", 2)]) (N := ["row", "hearers", "heard"]) (sc := defScope s_need_hearers) (by decide +kernel)) (fun _ _ _ _ _ => pg_name (i := 2) nd rfl (by first | exact Or.inl rfl | exact Or.inr rfl)) (fun _ _ _ _ _ => by exact pts_nil) (fun _ _ _ _ _ => by exact (pe_has (h_is_pair.up (by decide)) hg hr (by rfl) (pa_cons (pe_tupX (pa_cons (pv 0) (pa_cons (pv 2) pa_nil))) pa_nil)))) pa_nil)))) (pss_one ps_never) pss_nil)))))
    (ls_seq (ls_drop (le_call (les_cons (LP.e (lp_var (i := 0))) les_nil)))
 (ls_seq (ls_if (LB.g (lb_or (lb_test (LP.m (lp_typeNot (LP.m (lp_var (i := 1)))))) (lb_not (lb_test (LP.m (lp_chain (LP.m lp_int) (LP.m (lp_cb (lms_cons (LP.m (lp_var (i := 1))) lms_nil) rc_len)) (LP.m lp_int) rb_U rb_U)))))) ls_never ls_next)
 (ls_if (lt_not (lt_B (le_cb (les_cons (LL.e (ll_compL (j := 2) (vs := [2]) (by decide) (by decide) (LP.e (lp_var (i := 1))) lt_yes (le_call (les_cons (le_tup (les_cons (LP.e (lp_var (i := 0))) (les_cons (LP.e (lp_var (i := 2))) les_nil))) les_nil)))) les_nil) rc_all))) ls_never ls_next))) ?_
  rintro ds Q ⟨t, hs, rfl, fk, q⟩
  (simp only [TN.dCallO, TN.dCallOI, TN.dCallNO, TN.oVar, TN.sCut, TN.tgLst, TN.iK, TN.iV, TN.iLT, TN.pNew, TN.dCallN, TN.dCompI2, TN.dLAddE, TN.oD, TN.sDNew, TN.sPutD, TN.fGetO, TN.fGetO2, TN.fInO, TN.fNinO, TN.dVarD, TN.dExtS, TN.mOwn, TN.dCallM, TN.mVar, TN.sRetV, TN.dAug, TN.dCallNT, TN.dCallNL, TN.fIxTs, TN.sForI, TN.dCompI, TN.dCompL, TN.dCompT, TN.dCompR, TN.iL, TN.iT, TN.iR1, TN.iR2, TN.iR3, TN.iS, TN.iE, TN.iRv, TN.iZ, TN.dKeepT, TN.dCallT, TN.pTup, TN.pCons, TN.pOwn, TN.sAsgT, TN.sRetT, TN.tpL, TN.fIxT, TN.fTp, TN.dAppendT, TN.dReverseT, TN.dClearT, TN.dVarT, TN.dReverse, TN.dClear, TN.dPop, Pt.d, Sl.tp.injEq, TN.startF, TN.dCallV, Sl.fn.injEq, TN.dCallF, TN.dLRev, TN.dLAdd, TN.dLSlP, TN.dLSlice, TN.dSliceE, TN.dNo, TN.dEnd, TN.fNo, TN.sSeq, TN.sNext, TN.sDrop, TN.sRet, TN.sRetL, TN.sRetN, TN.sIf, TN.sAsg, TN.sAsgL, TN.sStore, TN.sForL, TN.sForT, TN.sForR, TN.sForR2, TN.tgN, TN.tgTup, TN.tgCons, TN.tgNil, TN.dP, TN.dB, TN.dCall, TN.dCallL, TN.dCallB, TN.dCallBL, TN.dCons, TN.dNil, TN.dTup, TN.dLst, TN.dKeep, TN.dVar, TN.fVar, TN.fPeek, TN.fC, TN.f2, TN.d2, TN.d2V, TN.f1, TN.d1, TN.fCB, TN.dCB, TN.dCBL, TN.fNil, TN.fCons, TN.asBool, TN.dTest, TN.bAnd, TN.bOr, TN.bNot, TN.dAnd, TN.dOr, TN.dNot, TN.fAndV, TN.fOrV, TN.fNotV, TN.dAndV, TN.dOrV, TN.dNotV, TN.dIfE, TN.dIfL, TN.fIfE, TN.fChain, TN.fSlice, TN.dSlice, TN.fNo, TN.fEnd, TN.dAppend, TN.dInsert, TN.dPopAt, TN.ownL, TN.start0, TN.begB, TN.backD, TN.wipeD, TN.dYes, TN.sNever, List.getElem?_cons_zero, List.getElem?_cons_succ, List.set_cons_zero, List.set_cons_succ, List.map_cons, List.map_nil, List.length_cons, List.length_nil, List.cons_append, List.nil_append, List.replicate_succ, List.replicate_zero, Option.map_some, Option.map_none, Nat.add_one_sub_one, Nat.sub_zero, Nat.sub_self, Nat.zero_add, reduceCtorEq, Option.some.injEq, PyData.int.injEq, PyData.str.injEq, PyData.bool.injEq, PyData.list.injEq, PyData.tuple.injEq, Sl.sh.injEq, Sl.ow.injEq, List.cons.injEq, exists_eq_left', exists_eq_left, true_implies, false_implies, and_true, true_and, forall_const, Option.isSome_some, TN.imp_ff, TN.imp_tf, TN.imp_tt, exists_eq_left, exists_eq_left', exists_eq])
  have hf := fk.few
  have h1 : 1 ≤ hs.length := List.length_pos_iff.mpr fk.ne
  have ol : oLen [folkD hs] = some (.int hs.length) := by show some (PyData.int (hs.map tupL).length) = _; rw [List.length_map]
  have ty : tyD (folkD hs) = "list" := rfl
  refine ⟨t, rfl, fk.gt, _, rfl, false, ?_, (fun z => by cases z), fun _ => ?_⟩
  · rw [ol, ty]
    simp only [oU_int, decide_true, Bool.not_true]
    rw [decide_eq_true (show (1 : Int) ≤ hs.length by omega)]
    simp only [oU_int]
    rw [decide_eq_true (show (hs.length : Int) ≤ 4 by omega)]
    rfl
  refine comp_map tupL (fun _ => .bool true) (fun h => h ∈ hs) rfl (fun _ => rfl) (fun h R hh kk => ?_) hs [] (fun _ h => h) (by simp; omega) ?_
  · (simp only [TN.dCallO, TN.dCallOI, TN.dCallNO, TN.oVar, TN.sCut, TN.tgLst, TN.iK, TN.iV, TN.iLT, TN.pNew, TN.dCallN, TN.dCompI2, TN.dLAddE, TN.oD, TN.sDNew, TN.sPutD, TN.fGetO, TN.fGetO2, TN.fInO, TN.fNinO, TN.dVarD, TN.dExtS, TN.mOwn, TN.dCallM, TN.mVar, TN.sRetV, TN.dAug, TN.dCallNT, TN.dCallNL, TN.fIxTs, TN.sForI, TN.dCompI, TN.dCompL, TN.dCompT, TN.dCompR, TN.iL, TN.iT, TN.iR1, TN.iR2, TN.iR3, TN.iS, TN.iE, TN.iRv, TN.iZ, TN.dKeepT, TN.dCallT, TN.pTup, TN.pCons, TN.pOwn, TN.sAsgT, TN.sRetT, TN.tpL, TN.fIxT, TN.fTp, TN.dAppendT, TN.dReverseT, TN.dClearT, TN.dVarT, TN.dReverse, TN.dClear, TN.dPop, Pt.d, Sl.tp.injEq, TN.startF, TN.dCallV, Sl.fn.injEq, TN.dCallF, TN.dLRev, TN.dLAdd, TN.dLSlP, TN.dLSlice, TN.dSliceE, TN.dNo, TN.dEnd, TN.fNo, TN.sSeq, TN.sNext, TN.sDrop, TN.sRet, TN.sRetL, TN.sRetN, TN.sIf, TN.sAsg, TN.sAsgL, TN.sStore, TN.sForL, TN.sForT, TN.sForR, TN.sForR2, TN.tgN, TN.tgTup, TN.tgCons, TN.tgNil, TN.dP, TN.dB, TN.dCall, TN.dCallL, TN.dCallB, TN.dCallBL, TN.dCons, TN.dNil, TN.dTup, TN.dLst, TN.dKeep, TN.dVar, TN.fVar, TN.fPeek, TN.fC, TN.f2, TN.d2, TN.d2V, TN.f1, TN.d1, TN.fCB, TN.dCB, TN.dCBL, TN.fNil, TN.fCons, TN.asBool, TN.dTest, TN.bAnd, TN.bOr, TN.bNot, TN.dAnd, TN.dOr, TN.dNot, TN.fAndV, TN.fOrV, TN.fNotV, TN.dAndV, TN.dOrV, TN.dNotV, TN.dIfE, TN.dIfL, TN.fIfE, TN.fChain, TN.fSlice, TN.dSlice, TN.fNo, TN.fEnd, TN.dAppend, TN.dInsert, TN.dPopAt, TN.ownL, TN.start0, TN.begB, TN.backD, TN.wipeD, TN.dYes, TN.sNever, List.getElem?_cons_zero, List.getElem?_cons_succ, List.set_cons_zero, List.set_cons_succ, List.map_cons, List.map_nil, List.length_cons, List.length_nil, List.cons_append, List.nil_append, List.replicate_succ, List.replicate_zero, Option.map_some, Option.map_none, Nat.add_one_sub_one, Nat.sub_zero, Nat.sub_self, Nat.zero_add, reduceCtorEq, Option.some.injEq, PyData.int.injEq, PyData.str.injEq, PyData.bool.injEq, PyData.list.injEq, PyData.tuple.injEq, Sl.sh.injEq, Sl.ow.injEq, List.cons.injEq, exists_eq_left', exists_eq_left, true_implies, false_implies, and_true, true_and, forall_const, Option.isSome_some, TN.imp_ff, TN.imp_tf, TN.imp_tt, exists_eq_left, exists_eq_left', exists_eq])
    exact ⟨by omega, t, h, rfl, fk.all h hh, _, rfl, kk⟩
  rw [List.nil_append]
  exact ⟨_, oAll_map _ _, true, by simp, (fun z => by cases z), fun _ => q⟩

abbrev s_all_alone : Stmt := topS 19
theorem sc_all_alone : FnScope ["row", "hearers", "rows", "kept", "letter"] ["row", "hearers"] (defScope s_all_alone) := ⟨rfl, rfl, rfl, by decide +kernel, rfl, by decide +kernel, by decide +kernel⟩
theorem ok_all_alone (b : Blt mg) (h_need_hearers : Has P w K mg base "need_hearers" 5 ["row", "hearers"] (sp0 K semNeedHearers)) (h_least_longest : Has P w K mg base "least_longest" 2 ["rows", "lengths"] (sp0 K semLeast)) (h_lengths_from : Has P w K mg base "lengths_from" 2 ["rows"] (sp0 K semLengths)) {f : Addr} {fd : FuncData} (F : Fun K "all_alone" "all_alone" s_all_alone f fd) : FnG P w K mg base CX0 6 f fd ["row", "hearers"] (sp0 K semAllAlone) := by
  refine fn0 (k := 5) F sc_all_alone (fun ds Q h => by obtain ⟨t, x, rfl, _⟩ := h; rfl) (fun cdv A outer s H E hg hr =>
    have nd := sc_all_alone.nd
    have hu := hr.units
    have hu1 := hu_of hr
    (pss_cons (ps_expr (by exact (pe_has (h_need_hearers.up (by decide)) hg hr (by rfl) (pa_cons (pv 0) (pa_cons (pv 1) pa_nil)))))
 (pss_cons (ps_set (i := 2) nd rfl (by first | exact Or.inl rfl | exact Or.inr rfl) (pe_op op_addU (pe_lst (pa_cons (pv 0) pa_nil)) (pv 1)))
 (pss_cons (ps_set (i := 3) nd rfl (by first | exact Or.inl rfl | exact Or.inr rfl) (pe_has (h_least_longest.up (by decide)) hg hr (by rfl) (pa_cons (pv 2) (pa_cons (pe_has (h_lengths_from.up (by decide)) hg hr (by rfl) (pa_cons (pv 2) pa_nil)) pa_nil))))
 (pss_one (ps_ret (pe_callB call_sortedA (by rfl) b.sorted (by decide +kernel) (pa_cons (pe_lc (own := [("letter", 4)]) (g := gName 4) rfl nd (pi_tup (pv 0)) (blkOk_by (own := [("letter", 4)]) (N := ["row", "hearers", "rows", "kept", "letter"]) (sc := defScope s_all_alone) (by decide +kernel)) (fun _ _ _ _ _ => pg_name (i := 4) nd rfl (by first | exact Or.inl rfl | exact Or.inr rfl)) (fun _ _ _ _ _ => by exact (pts_one (pt_cmpR op_notIn_seq (pv 4) (pv 3) rfl))) (fun _ _ _ _ _ => by exact (pv 4))) pa_nil))))))))
    (ls_seq (ls_drop (le_call (les_cons (LP.e (lp_var (i := 0))) (les_cons (LP.e (lp_var (i := 1))) les_nil))))
 (ls_seq (ls_asg (le_op (LL.e (ll_lst (les_cons (LP.e (lp_var (i := 0))) les_nil))) (LP.e (lp_var (i := 1))) rb_add) (lg_name (i := 2) (by decide)))
 (ls_seq (ls_asg (le_call (les_cons (LP.e (lp_var (i := 2))) (les_cons (le_call (les_cons (LP.e (lp_var (i := 2))) les_nil)) les_nil))) (lg_name (i := 3) (by decide)))
 (ls_retL (ll_cb (les_cons (LL.e (ll_compT (j := 4) (vs := [4]) (by decide) (by decide) (LP.e (lp_var (i := 0))) (LB.g (lb_test (LP.m (lp_op (LP.m (lp_var (i := 4))) (LP.m (lp_var (i := 3))) rb_in)))) (LP.e (lp_var (i := 4))))) les_nil) rc_sorted))))) ?_
  rintro ds Q ⟨t, hs, rfl, fk, q⟩
  have tf := fk.gt.few
  have hf := fk.few
  have ro := fk.rows
  (simp only [TN.dCallO, TN.dCallOI, TN.dCallNO, TN.oVar, TN.sCut, TN.tgLst, TN.iK, TN.iV, TN.iLT, TN.pNew, TN.dCallN, TN.dCompI2, TN.dLAddE, TN.oD, TN.sDNew, TN.sPutD, TN.fGetO, TN.fGetO2, TN.fInO, TN.fNinO, TN.dVarD, TN.dExtS, TN.mOwn, TN.dCallM, TN.mVar, TN.sRetV, TN.dAug, TN.dCallNT, TN.dCallNL, TN.fIxTs, TN.sForI, TN.dCompI, TN.dCompL, TN.dCompT, TN.dCompR, TN.iL, TN.iT, TN.iR1, TN.iR2, TN.iR3, TN.iS, TN.iE, TN.iRv, TN.iZ, TN.dKeepT, TN.dCallT, TN.pTup, TN.pCons, TN.pOwn, TN.sAsgT, TN.sRetT, TN.tpL, TN.fIxT, TN.fTp, TN.dAppendT, TN.dReverseT, TN.dClearT, TN.dVarT, TN.dReverse, TN.dClear, TN.dPop, Pt.d, Sl.tp.injEq, TN.startF, TN.dCallV, Sl.fn.injEq, TN.dCallF, TN.dLRev, TN.dLAdd, TN.dLSlP, TN.dLSlice, TN.dSliceE, TN.dNo, TN.dEnd, TN.fNo, TN.sSeq, TN.sNext, TN.sDrop, TN.sRet, TN.sRetL, TN.sRetN, TN.sIf, TN.sAsg, TN.sAsgL, TN.sStore, TN.sForL, TN.sForT, TN.sForR, TN.sForR2, TN.tgN, TN.tgTup, TN.tgCons, TN.tgNil, TN.dP, TN.dB, TN.dCall, TN.dCallL, TN.dCallB, TN.dCallBL, TN.dCons, TN.dNil, TN.dTup, TN.dLst, TN.dKeep, TN.dVar, TN.fVar, TN.fPeek, TN.fC, TN.f2, TN.d2, TN.d2V, TN.f1, TN.d1, TN.fCB, TN.dCB, TN.dCBL, TN.fNil, TN.fCons, TN.asBool, TN.dTest, TN.bAnd, TN.bOr, TN.bNot, TN.dAnd, TN.dOr, TN.dNot, TN.fAndV, TN.fOrV, TN.fNotV, TN.dAndV, TN.dOrV, TN.dNotV, TN.dIfE, TN.dIfL, TN.fIfE, TN.fChain, TN.fSlice, TN.dSlice, TN.fNo, TN.fEnd, TN.dAppend, TN.dInsert, TN.dPopAt, TN.ownL, TN.start0, TN.begB, TN.backD, TN.wipeD, TN.dYes, TN.sNever, List.getElem?_cons_zero, List.getElem?_cons_succ, List.set_cons_zero, List.set_cons_succ, List.map_cons, List.map_nil, List.length_cons, List.length_nil, List.cons_append, List.nil_append, List.replicate_succ, List.replicate_zero, Option.map_some, Option.map_none, Nat.add_one_sub_one, Nat.sub_zero, Nat.sub_self, Nat.zero_add, reduceCtorEq, Option.some.injEq, PyData.int.injEq, PyData.str.injEq, PyData.bool.injEq, PyData.list.injEq, PyData.tuple.injEq, Sl.sh.injEq, Sl.ow.injEq, List.cons.injEq, exists_eq_left', exists_eq_left, true_implies, false_implies, and_true, true_and, forall_const, Option.isSome_some, TN.imp_ff, TN.imp_tf, TN.imp_tt, exists_eq_left, exists_eq_left', exists_eq])
  refine ⟨t, hs, rfl, fk, _, rfl, by omega, _, oAdd_lst (by simp; omega), t :: hs, t, .inr rfl, ro, _, rfl, t :: hs, t, .inr rfl, ro, fk.gt.ne, _, rfl, ?_⟩
  refine comp_fil PyData.str PyData.str (fun x => decide (x ∉ kF t hs)) (fun _ => True) rfl (fun _ => rfl) ?_ ?_ t [] (fun _ _ => trivial) (by simp; omega) ?_
  · intro x R _ kk
    (simp only [TN.dCallO, TN.dCallOI, TN.dCallNO, TN.oVar, TN.sCut, TN.tgLst, TN.iK, TN.iV, TN.iLT, TN.pNew, TN.dCallN, TN.dCompI2, TN.dLAddE, TN.oD, TN.sDNew, TN.sPutD, TN.fGetO, TN.fGetO2, TN.fInO, TN.fNinO, TN.dVarD, TN.dExtS, TN.mOwn, TN.dCallM, TN.mVar, TN.sRetV, TN.dAug, TN.dCallNT, TN.dCallNL, TN.fIxTs, TN.sForI, TN.dCompI, TN.dCompL, TN.dCompT, TN.dCompR, TN.iL, TN.iT, TN.iR1, TN.iR2, TN.iR3, TN.iS, TN.iE, TN.iRv, TN.iZ, TN.dKeepT, TN.dCallT, TN.pTup, TN.pCons, TN.pOwn, TN.sAsgT, TN.sRetT, TN.tpL, TN.fIxT, TN.fTp, TN.dAppendT, TN.dReverseT, TN.dClearT, TN.dVarT, TN.dReverse, TN.dClear, TN.dPop, Pt.d, Sl.tp.injEq, TN.startF, TN.dCallV, Sl.fn.injEq, TN.dCallF, TN.dLRev, TN.dLAdd, TN.dLSlP, TN.dLSlice, TN.dSliceE, TN.dNo, TN.dEnd, TN.fNo, TN.sSeq, TN.sNext, TN.sDrop, TN.sRet, TN.sRetL, TN.sRetN, TN.sIf, TN.sAsg, TN.sAsgL, TN.sStore, TN.sForL, TN.sForT, TN.sForR, TN.sForR2, TN.tgN, TN.tgTup, TN.tgCons, TN.tgNil, TN.dP, TN.dB, TN.dCall, TN.dCallL, TN.dCallB, TN.dCallBL, TN.dCons, TN.dNil, TN.dTup, TN.dLst, TN.dKeep, TN.dVar, TN.fVar, TN.fPeek, TN.fC, TN.f2, TN.d2, TN.d2V, TN.f1, TN.d1, TN.fCB, TN.dCB, TN.dCBL, TN.fNil, TN.fCons, TN.asBool, TN.dTest, TN.bAnd, TN.bOr, TN.bNot, TN.dAnd, TN.dOr, TN.dNot, TN.fAndV, TN.fOrV, TN.fNotV, TN.dAndV, TN.dOrV, TN.dNotV, TN.dIfE, TN.dIfL, TN.fIfE, TN.fChain, TN.fSlice, TN.dSlice, TN.fNo, TN.fEnd, TN.dAppend, TN.dInsert, TN.dPopAt, TN.ownL, TN.start0, TN.begB, TN.backD, TN.wipeD, TN.dYes, TN.sNever, List.getElem?_cons_zero, List.getElem?_cons_succ, List.set_cons_zero, List.set_cons_succ, List.map_cons, List.map_nil, List.length_cons, List.length_nil, List.cons_append, List.nil_append, List.replicate_succ, List.replicate_zero, Option.map_some, Option.map_none, Nat.add_one_sub_one, Nat.sub_zero, Nat.sub_self, Nat.zero_add, reduceCtorEq, Option.some.injEq, PyData.int.injEq, PyData.str.injEq, PyData.bool.injEq, PyData.list.injEq, PyData.tuple.injEq, Sl.sh.injEq, Sl.ow.injEq, List.cons.injEq, exists_eq_left', exists_eq_left, true_implies, false_implies, and_true, true_and, forall_const, Option.isSome_some, TN.imp_ff, TN.imp_tf, TN.imp_tt, exists_eq_left, exists_eq_left', exists_eq])
    rw [oNin_tup]
    exact ⟨_, rfl, kk⟩
  · intro x R _ kk
    (simp only [TN.dCallO, TN.dCallOI, TN.dCallNO, TN.oVar, TN.sCut, TN.tgLst, TN.iK, TN.iV, TN.iLT, TN.pNew, TN.dCallN, TN.dCompI2, TN.dLAddE, TN.oD, TN.sDNew, TN.sPutD, TN.fGetO, TN.fGetO2, TN.fInO, TN.fNinO, TN.dVarD, TN.dExtS, TN.mOwn, TN.dCallM, TN.mVar, TN.sRetV, TN.dAug, TN.dCallNT, TN.dCallNL, TN.fIxTs, TN.sForI, TN.dCompI, TN.dCompL, TN.dCompT, TN.dCompR, TN.iL, TN.iT, TN.iR1, TN.iR2, TN.iR3, TN.iS, TN.iE, TN.iRv, TN.iZ, TN.dKeepT, TN.dCallT, TN.pTup, TN.pCons, TN.pOwn, TN.sAsgT, TN.sRetT, TN.tpL, TN.fIxT, TN.fTp, TN.dAppendT, TN.dReverseT, TN.dClearT, TN.dVarT, TN.dReverse, TN.dClear, TN.dPop, Pt.d, Sl.tp.injEq, TN.startF, TN.dCallV, Sl.fn.injEq, TN.dCallF, TN.dLRev, TN.dLAdd, TN.dLSlP, TN.dLSlice, TN.dSliceE, TN.dNo, TN.dEnd, TN.fNo, TN.sSeq, TN.sNext, TN.sDrop, TN.sRet, TN.sRetL, TN.sRetN, TN.sIf, TN.sAsg, TN.sAsgL, TN.sStore, TN.sForL, TN.sForT, TN.sForR, TN.sForR2, TN.tgN, TN.tgTup, TN.tgCons, TN.tgNil, TN.dP, TN.dB, TN.dCall, TN.dCallL, TN.dCallB, TN.dCallBL, TN.dCons, TN.dNil, TN.dTup, TN.dLst, TN.dKeep, TN.dVar, TN.fVar, TN.fPeek, TN.fC, TN.f2, TN.d2, TN.d2V, TN.f1, TN.d1, TN.fCB, TN.dCB, TN.dCBL, TN.fNil, TN.fCons, TN.asBool, TN.dTest, TN.bAnd, TN.bOr, TN.bNot, TN.dAnd, TN.dOr, TN.dNot, TN.fAndV, TN.fOrV, TN.fNotV, TN.dAndV, TN.dOrV, TN.dNotV, TN.dIfE, TN.dIfL, TN.fIfE, TN.fChain, TN.fSlice, TN.dSlice, TN.fNo, TN.fEnd, TN.dAppend, TN.dInsert, TN.dPopAt, TN.ownL, TN.start0, TN.begB, TN.backD, TN.wipeD, TN.dYes, TN.sNever, List.getElem?_cons_zero, List.getElem?_cons_succ, List.set_cons_zero, List.set_cons_succ, List.map_cons, List.map_nil, List.length_cons, List.length_nil, List.cons_append, List.nil_append, List.replicate_succ, List.replicate_zero, Option.map_some, Option.map_none, Nat.add_one_sub_one, Nat.sub_zero, Nat.sub_self, Nat.zero_add, reduceCtorEq, Option.some.injEq, PyData.int.injEq, PyData.str.injEq, PyData.bool.injEq, PyData.list.injEq, PyData.tuple.injEq, Sl.sh.injEq, Sl.ow.injEq, List.cons.injEq, exists_eq_left', exists_eq_left, true_implies, false_implies, and_true, true_and, forall_const, Option.isSome_some, TN.imp_ff, TN.imp_tf, TN.imp_tt, exists_eq_left, exists_eq_left', exists_eq])
    exact kk
  rw [List.nil_append]
  have fl : (t.filter fun x => decide (x ∉ kF t hs)).length ≤ t.length := List.length_filter_le _ _
  exact ⟨_, oSorted_lstL (by omega), q⟩

abbrev s__law_cell_at : Stmt := topS 21
theorem sc__law_cell_at : FnScope ["script", "k"] ["script", "k"] (defScope s__law_cell_at) := ⟨rfl, rfl, rfl, by decide +kernel, rfl, by decide +kernel, by decide +kernel⟩
theorem ok__law_cell_at (b : Blt mg) {f : Addr} {fd : FuncData} (F : Fun K "_law_cell_at" "_law_cell_at" s__law_cell_at f fd) : FnG P w K mg base CX0 1 f fd ["script", "k"] (sp0 K semCell) := by
  refine fn0 (k := 0) F sc__law_cell_at (fun ds Q h => by obtain ⟨ns, k, rfl, _⟩ := h; rfl) (fun cdv A outer s H E hg hr =>
    have nd := sc__law_cell_at.nd
    have hu := hr.units
    have hu1 := hu_of hr
    (pss_cons (ps_if (pt_cmpR op_ltU (pv 1) (pe_callB call_len (by rfl) b.len (by decide +kernel) (pa_cons (pv 0) pa_nil)) (nomark _)) (pss_one (ps_ret (pe_ix ix_seq (pv 0) (pv 1) (fun _ _ => rfl)))) pss_nil)
 (pss_one (ps_ret pe_int))))
    (ls_seq (ls_if (LB.g (lb_test (LP.m (lp_op (LP.m (lp_var (i := 1))) (LP.m (lp_cb (lms_cons (LP.m (lp_var (i := 0))) lms_nil) rc_len)) rb_U)))) (ls_ret (LP.e (lp_op (LP.m (lp_var (i := 0))) (LP.m (lp_var (i := 1))) rb_ix))) ls_next)
 (ls_ret (LP.e lp_int))) ?_
  rintro ds Q ⟨ns, k, rfl, q⟩
  (simp only [TN.sSeq, TN.sNext, TN.sDrop, TN.sRet, TN.sRetL, TN.sRetN, TN.sIf, TN.sAsg, TN.sAsgL, TN.sStore, TN.sForL, TN.sForT, TN.sForR, TN.sForR2, TN.tgN, TN.tgTup, TN.tgCons, TN.tgNil, TN.dP, TN.dB, TN.dCall, TN.dCallL, TN.dCallB, TN.dCallBL, TN.dCons, TN.dNil, TN.dTup, TN.dLst, TN.dKeep, TN.dVar, TN.fVar, TN.fPeek, TN.fC, TN.f2, TN.d2, TN.d2V, TN.f1, TN.d1, TN.fCB, TN.dCB, TN.dCBL, TN.fNil, TN.fCons, TN.asBool, TN.dTest, TN.bAnd, TN.bOr, TN.bNot, TN.dAnd, TN.dOr, TN.dNot, TN.fAndV, TN.fOrV, TN.fNotV, TN.dAndV, TN.dOrV, TN.dNotV, TN.dIfE, TN.dIfL, TN.fIfE, TN.fChain, TN.fSlice, TN.dSlice, TN.fNo, TN.fEnd, TN.dAppend, TN.dInsert, TN.dPopAt, TN.ownL, TN.start0, TN.begB, TN.backD, TN.wipeD, TN.dYes, TN.sNever, List.getElem?_cons_zero, List.getElem?_cons_succ, List.set_cons_zero, List.set_cons_succ, List.map_cons, List.map_nil, List.length_cons, List.length_nil, List.cons_append, List.nil_append, List.replicate_succ, List.replicate_zero, Option.map_some, Option.map_none, Nat.add_one_sub_one, Nat.sub_zero, Nat.sub_self, Nat.zero_add, reduceCtorEq, Option.some.injEq, PyData.int.injEq, PyData.str.injEq, PyData.bool.injEq, PyData.list.injEq, PyData.tuple.injEq, Sl.sh.injEq, Sl.ow.injEq, List.cons.injEq, exists_eq_left', exists_eq_left, true_implies, false_implies, and_true, true_and, forall_const, Option.isSome_some, TN.imp_ff, TN.imp_tf, TN.imp_tt, exists_eq_left, exists_eq_left', exists_eq])
  rw [oLen_ns]
  refine ⟨_, rfl, fun h => ?_, fun _ => q 0⟩
  have hk : k < ns.length := by have := of_decide_eq_true h; omega
  refine ⟨.int ns[k], by show atI _ _ = _; rw [atI_nat (by rw [List.length_map]; exact hk), List.getElem_map], q _⟩

abbrev s__law_bag : Stmt := topS 22
theorem sc__law_bag : FnScope ["cell", "k"] ["cell", "k"] (defScope s__law_bag) := ⟨rfl, rfl, rfl, by decide +kernel, rfl, by decide +kernel, by decide +kernel⟩
theorem ok__law_bag (b : Blt mg) {f : Addr} {fd : FuncData} (F : Fun K "_law_bag" "_law_bag" s__law_bag f fd) : FnG P w K mg base CX0 1 f fd ["cell", "k"] (sp0 K semBag) := by
  refine fn0 (k := 0) F sc__law_bag (fun ds Q h => by obtain ⟨c, k, rfl, _⟩ := h; rfl) (fun cdv A outer s H E hg hr =>
    have nd := sc__law_bag.nd
    have hu := hr.units
    have hu1 := hu_of hr
    (pss_one (ps_ret (pe_lst (pa_cons (pe_callB (call_max2 rfl) (by rfl) b.max (by decide +kernel) (pa_cons pe_int (pa_cons (pe_op op_sub (pv 0) (pe_op op_powB pe_int pe_int)) pa_nil))) (pa_cons (pe_op op_addU (pe_op op_mod (pv 0) pe_int) (pe_op op_mul pe_int (pe_op op_addU (pv 1) pe_int))) (pa_cons pe_int pa_nil)))))))
    (ls_retL (ll_lst (les_cons (LP.e (lp_cb (lms_cons (LP.m lp_int) (lms_cons (LP.m (lp_op (LP.m (lp_var (i := 0))) (LP.m (lp_op (LP.m lp_int) (LP.m lp_int) rb_pow)) rb_sub)) lms_nil)) rc_max)) (les_cons (LP.e (lp_op (LP.m (lp_op (LP.m (lp_var (i := 0))) (LP.m lp_int) rb_mod)) (LP.m (lp_op (LP.m lp_int) (LP.m (lp_op (LP.m (lp_var (i := 1))) (LP.m lp_int) rb_add)) rb_mul)) rb_add)) (les_cons (LP.e lp_int) les_nil))))) ?_
  rintro ds Q ⟨c, k, rfl, hk, q⟩
  (simp only [TN.sSeq, TN.sNext, TN.sDrop, TN.sRet, TN.sRetL, TN.sRetN, TN.sIf, TN.sAsg, TN.sAsgL, TN.sStore, TN.sForL, TN.sForT, TN.sForR, TN.sForR2, TN.tgN, TN.tgTup, TN.tgCons, TN.tgNil, TN.dP, TN.dB, TN.dCall, TN.dCallL, TN.dCallB, TN.dCallBL, TN.dCons, TN.dNil, TN.dTup, TN.dLst, TN.dKeep, TN.dVar, TN.fVar, TN.fPeek, TN.fC, TN.f2, TN.d2, TN.d2V, TN.f1, TN.d1, TN.fCB, TN.dCB, TN.dCBL, TN.fNil, TN.fCons, TN.asBool, TN.dTest, TN.bAnd, TN.bOr, TN.bNot, TN.dAnd, TN.dOr, TN.dNot, TN.fAndV, TN.fOrV, TN.fNotV, TN.dAndV, TN.dOrV, TN.dNotV, TN.dIfE, TN.dIfL, TN.fIfE, TN.fChain, TN.fSlice, TN.dSlice, TN.fNo, TN.fEnd, TN.dAppend, TN.dInsert, TN.dPopAt, TN.ownL, TN.start0, TN.begB, TN.backD, TN.wipeD, TN.dYes, TN.sNever, List.getElem?_cons_zero, List.getElem?_cons_succ, List.set_cons_zero, List.set_cons_succ, List.map_cons, List.map_nil, List.length_cons, List.length_nil, List.cons_append, List.nil_append, List.replicate_succ, List.replicate_zero, Option.map_some, Option.map_none, Nat.add_one_sub_one, Nat.sub_zero, Nat.sub_self, Nat.zero_add, reduceCtorEq, Option.some.injEq, PyData.int.injEq, PyData.str.injEq, PyData.bool.injEq, PyData.list.injEq, PyData.tuple.injEq, Sl.sh.injEq, Sl.ow.injEq, List.cons.injEq, exists_eq_left', exists_eq_left, true_implies, false_implies, and_true, true_and, forall_const, Option.isSome_some, TN.imp_ff, TN.imp_tf, TN.imp_tt, exists_eq_left, exists_eq_left', exists_eq])
  have m0 := Int.emod_nonneg c (b := 162259276829213363391578010288127) (by decide)
  have m1 := Int.emod_lt_of_pos c (b := 162259276829213363391578010288127) (by decide)
  have md : oMod (.int c) (.int 162259276829213363391578010288127) = some (.int (c % 162259276829213363391578010288127)) := oMod_p (by decide)
  have ml : oMul (.int 5639) (.int ((k : Int) + 1)) = some (.int (5639 * ((k : Int) + 1))) := oMul_l (by decide)
  refine ⟨.int (if c - 1000000000000000000 > 0 then c - 1000000000000000000 else 0), by rw [pw18]; rfl, .int (c % 162259276829213363391578010288127 + 5639 * ((k : Int) + 1)), by rw [md]; simp only [oAdd_int, ml], by omega, q _ ⟨_, _, 0, rfl, ?_, by omega, by omega, by omega, by omega⟩⟩
  split <;> omega

abbrev s__law_take : Stmt := topS 23
theorem sc__law_take : FnScope ["bag", "size", "mixed", "found"] ["bag", "size"] (defScope s__law_take) := ⟨rfl, rfl, rfl, by decide +kernel, rfl, by decide +kernel, by decide +kernel⟩
theorem ok__law_take (b : Blt mg) {f : Addr} {fd : FuncData} (F : Fun K "_law_take" "_law_take" s__law_take f fd) : FnG P w K mg base CX0 1 f fd ["bag", "size"] (spB K semWind) := by
  refine fnB (k := 0) F sc__law_take (fun xs ds Q h => by obtain ⟨n, w, _, _, rfl, _⟩ := h; rfl) (fun cdv A outer s H E hg hr =>
    have nd := sc__law_take.nd
    have hu := hr.units
    have hu1 := hu_of hr
    (pss_cons (ps_if (pt_cmpR op_gtU (pe_ix ix_seq (pv 0) pe_int (fun _ _ => rfl)) pe_int (nomark _)) (pss_cons (ps_set (i := 3) nd rfl (by first | exact Or.inl rfl | exact Or.inr rfl) (pe_op op_mod (pe_ix ix_seq (pv 0) pe_int (fun _ _ => rfl)) (pv 1)))
 (pss_cons (ps_asg (pe_op op_fdiv (pe_ix ix_seq (pv 0) pe_int (fun _ _ => rfl)) (pv 1)) (pg_sub (pv 0) pe_int set_list))
 (pss_one (ps_ret (pv 3))))) pss_nil)
 (pss_cons (ps_asg (pe_op op_addU (pe_ix ix_seq (pv 0) pe_int (fun _ _ => rfl)) pe_int) (pg_sub (pv 0) pe_int set_list))
 (pss_cons (ps_set (i := 2) nd rfl (by first | exact Or.inl rfl | exact Or.inr rfl) (pe_op op_mod (pe_op op_powB (pe_op op_addU (pe_ix ix_seq (pv 0) pe_int (fun _ _ => rfl)) (pe_op op_mul pe_int (pe_ix ix_seq (pv 0) pe_int (fun _ _ => rfl)))) pe_int) pe_int))
 (pss_cons (ps_set (i := 2) nd rfl (by first | exact Or.inl rfl | exact Or.inr rfl) (pe_op op_mod (pe_op op_powB (pe_op op_addU (pv 2) (pe_op op_mul pe_int (pe_ix ix_seq (pv 0) pe_int (fun _ _ => rfl)))) pe_int) pe_int))
 (pss_one (ps_ret (pe_op op_mod (pe_op op_fdiv (pv 2) pe_int) (pv 1)))))))))
    (ls_seq (ls_if (LB.g (lb_test (LP.m (lp_op (LP.m (lp_op (lm_peek (i := 0)) (LP.m lp_int) rb_ix)) (LP.m lp_int) rb_U)))) (ls_seq (ls_asg (LP.e (lp_op (LP.m (lp_op (lm_peek (i := 0)) (LP.m lp_int) rb_ix)) (LP.m (lp_var (i := 1))) rb_mod)) (lg_name (i := 3) (by decide)))
 (ls_seq (ls_store (j := 0) (LP.e (lp_op (LP.m (lp_op (lm_peek (i := 0)) (LP.m lp_int) rb_ix)) (LP.m (lp_var (i := 1))) rb_div)) (LP.e lp_int))
 (ls_ret (LP.e (lp_var (i := 3)))))) ls_next)
 (ls_seq (ls_store (j := 0) (LP.e (lp_op (LP.m (lp_op (lm_peek (i := 0)) (LP.m lp_int) rb_ix)) (LP.m lp_int) rb_add)) (LP.e lp_int))
 (ls_seq (ls_asg (LP.e (lp_op (LP.m (lp_op (LP.m (lp_op (LP.m (lp_op (lm_peek (i := 0)) (LP.m lp_int) rb_ix)) (LP.m (lp_op (LP.m lp_int) (LP.m (lp_op (lm_peek (i := 0)) (LP.m lp_int) rb_ix)) rb_mul)) rb_add)) (LP.m lp_int) rb_pow)) (LP.m lp_int) rb_mod)) (lg_name (i := 2) (by decide)))
 (ls_seq (ls_asg (LP.e (lp_op (LP.m (lp_op (LP.m (lp_op (LP.m (lp_var (i := 2))) (LP.m (lp_op (LP.m lp_int) (LP.m (lp_op (lm_peek (i := 0)) (LP.m lp_int) rb_ix)) rb_mul)) rb_add)) (LP.m lp_int) rb_pow)) (LP.m lp_int) rb_mod)) (lg_name (i := 2) (by decide)))
 (ls_ret (LP.e (lp_op (LP.m (lp_op (LP.m (lp_var (i := 2))) (LP.m lp_int) rb_div)) (LP.m (lp_var (i := 1))) rb_mod))))))) ?_
  rintro xs ds Q ⟨n, w, sp, hn, rfl, w0, w1, q⟩
  obtain ⟨a, b, c, rfl, a0, b0, b1, c0, c1⟩ := sp
  (simp only [TN.sSeq, TN.sNext, TN.sDrop, TN.sRet, TN.sRetL, TN.sRetN, TN.sIf, TN.sAsg, TN.sAsgL, TN.sStore, TN.sForL, TN.sForT, TN.sForR, TN.sForR2, TN.tgN, TN.tgTup, TN.tgCons, TN.tgNil, TN.dP, TN.dB, TN.dCall, TN.dCallL, TN.dCallB, TN.dCallBL, TN.dCons, TN.dNil, TN.dTup, TN.dLst, TN.dKeep, TN.dVar, TN.fVar, TN.fPeek, TN.fC, TN.f2, TN.d2, TN.d2V, TN.f1, TN.d1, TN.fCB, TN.dCB, TN.dCBL, TN.fNil, TN.fCons, TN.asBool, TN.dTest, TN.bAnd, TN.bOr, TN.bNot, TN.dAnd, TN.dOr, TN.dNot, TN.fAndV, TN.fOrV, TN.fNotV, TN.dAndV, TN.dOrV, TN.dNotV, TN.dIfE, TN.dIfL, TN.fIfE, TN.fChain, TN.fSlice, TN.dSlice, TN.fNo, TN.fEnd, TN.dAppend, TN.dInsert, TN.dPopAt, TN.ownL, TN.start0, TN.begB, TN.backD, TN.wipeD, TN.dYes, TN.sNever, List.getElem?_cons_zero, List.getElem?_cons_succ, List.set_cons_zero, List.set_cons_succ, List.map_cons, List.map_nil, List.length_cons, List.length_nil, List.cons_append, List.nil_append, List.replicate_succ, List.replicate_zero, Option.map_some, Option.map_none, Nat.add_one_sub_one, Nat.sub_zero, Nat.sub_self, Nat.zero_add, reduceCtorEq, Option.some.injEq, PyData.int.injEq, PyData.str.injEq, PyData.bool.injEq, PyData.list.injEq, PyData.tuple.injEq, Sl.sh.injEq, Sl.ow.injEq, List.cons.injEq, exists_eq_left', exists_eq_left, true_implies, false_implies, and_true, true_and, forall_const, Option.isSome_some, TN.imp_ff, TN.imp_tf, TN.imp_tt, exists_eq_left, exists_eq_left', exists_eq]); (simp only [Ev.d, TN.ix0, TN.ix1, TN.ix2, TN.ixl0, TN.ixl1, TN.ixl2, TN.ixm2, TN.ixm3, TN.len2, TN.len3, TN.neg1, TN.ty_tup, TN.ty_lst, TN.ty_str, TN.ty_int, TN.oLen_tupL, TN.oLen_lstL, TN.oU_int, TN.oEq_int, TN.oNe_int, decide_true, Bool.not_true, Bool.not_false, reduceCtorEq, Option.some.injEq, PyData.int.injEq, PyData.str.injEq, PyData.bool.injEq, PyData.list.injEq, PyData.tuple.injEq, exists_eq_left', TN.imp_ff, TN.imp_tf, TN.imp_tt, true_and, and_true, forall_const, true_implies, false_implies, TN.w_place_place, TN.n_place_place, TN.w_place_name, TN.n_place_name, TN.w_place_lost, TN.n_place_lost, TN.w_place_twice, TN.n_place_twice, TN.w_place_as, TN.n_place_as, TN.w_name_place, TN.n_name_place, TN.w_name_name, TN.n_name_name, TN.w_name_lost, TN.n_name_lost, TN.w_name_twice, TN.n_name_twice, TN.w_name_as, TN.n_name_as, TN.w_lost_place, TN.n_lost_place, TN.w_lost_name, TN.n_lost_name, TN.w_lost_lost, TN.n_lost_lost, TN.w_lost_twice, TN.n_lost_twice, TN.w_lost_as, TN.n_lost_as, TN.w_twice_place, TN.n_twice_place, TN.w_twice_name, TN.n_twice_name, TN.w_twice_lost, TN.n_twice_lost, TN.w_twice_twice, TN.n_twice_twice, TN.w_twice_as, TN.n_twice_as, TN.w_as_place, TN.n_as_place, TN.w_as_name, TN.n_as_name, TN.w_as_lost, TN.n_as_lost, TN.w_as_twice, TN.n_as_twice, TN.w_as_as, TN.n_as_as])
  refine ⟨fun h => ?_, fun h => ?_⟩
  · have h : 1 < a := of_decide_eq_true h
    exact ⟨.int (a % w), if_pos w0, .int (a / w), if_pos ⟨w0, w1⟩, _, _, 0, rfl, rfl, rfl, q _ _ (Int.emod_nonneg _ (by omega)) (Int.emod_lt_of_pos _ w0) ⟨a / w, b, c, rfl, Int.ediv_nonneg a0 (by omega), b0, b1, c0, by omega⟩⟩
  · have hb : n ≤ 1000000000000 := hn
    have p1 := oPow3 (x := b + 1299841 * (c + 1)) (by omega) (by omega)
    have m0 := Int.emod_nonneg ((b + 1299841 * (c + 1)) ^ 3) (b := 162259276829213363391578010288127) (by decide)
    have m1 := Int.emod_lt_of_pos ((b + 1299841 * (c + 1)) ^ 3) (b := 162259276829213363391578010288127) (by decide)
    have p2 := oPow5 (x := (b + 1299841 * (c + 1)) ^ 3 % 162259276829213363391578010288127 + 15485927 * (c + 1)) (by omega) (by omega)
    have hx : oMul (.int 1299841) (.int (c + 1)) = some (.int (1299841 * (c + 1))) := oMul_l (by decide)
    have hy : oMul (.int 15485927) (.int (c + 1)) = some (.int (15485927 * (c + 1))) := oMul_l (by decide)
    have q1 := oMod_p (i := (b + 1299841 * (c + 1)) ^ 3) (j := 162259276829213363391578010288127) (by decide)
    obtain ⟨m, em⟩ : ∃ m, (b + 1299841 * (c + 1)) ^ 3 % 162259276829213363391578010288127 = m := ⟨_, rfl⟩
    rw [em] at m0 m1 p2 q1
    refine ⟨.int (c + 1), rfl, _, _, 2, rfl, rfl, rfl, .int m, ?_, ?_⟩
    · simp only [List.set_cons_succ, List.set_cons_zero, ixl1, ixl2, hx, oAdd_int, p1, q1]
    refine ⟨.int ((m + 15485927 * (c + 1)) ^ 5 % 618970019642690137449562111), ?_, .int ((m + 15485927 * (c + 1)) ^ 5 % 618970019642690137449562111 / 1048576 % w), ?_, q _ _ (Int.emod_nonneg _ (by omega)) (Int.emod_lt_of_pos _ w0) ⟨a, b, c + 1, rfl, a0, b0, b1, by omega, by omega⟩⟩
    · simp only [List.set_cons_succ, List.set_cons_zero, ixl1, ixl2, hy, oAdd_int, p2]
      exact oMod_p (by decide)
    · rw [oDiv_p (by decide) (by decide)]
      exact oMod_p w0

abbrev s__law_alike : Stmt := topS 24
theorem sc__law_alike : FnScope ["found", "due", "k"] ["found", "due"] (defScope s__law_alike) := ⟨rfl, rfl, rfl, by decide +kernel, rfl, by decide +kernel, by decide +kernel⟩
theorem ok__law_alike (b : Blt mg) {n : Nat} (h__law_alike : Has P w K mg base "_law_alike" n ["found", "due"] (sp0 K (semAlike n))) {f : Addr} {fd : FuncData} (F : Fun K "_law_alike" "_law_alike" s__law_alike f fd) : FnG P w K mg base CX0 (n + 1) f fd ["found", "due"] (sp0 K (semAlike (n + 1))) := by
  refine fn0 (k := n) F sc__law_alike (fun ds Q h => by obtain ⟨d, rfl, _⟩ := h; rfl) (fun cdv A outer s H E hg hr =>
    have nd := sc__law_alike.nd
    have hu := hr.units
    have hu1 := hu_of hr
    (pss_cons (ps_if (pt_val (pe_callB call_isiT (by rfl) b.isinstance (by decide +kernel) (pa_cons (pv 1) (pa_cons (pe_tup (pa_cons (pe_bltn (v := .ty "list") (by rfl) b.list (by decide +kernel) rfl) (pa_cons (pe_bltn (v := .ty "tuple") (by rfl) b.tuple (by decide +kernel) rfl) pa_nil))) pa_nil)))) (pss_cons (ps_if (PW.pt (pw_or (pt_cmpR (op_neD hu) (pe_callB call_isi (by rfl) b.isinstance (by decide +kernel) (pa_cons (pv 0) (pa_cons (pe_bltn (v := .ty "list") (by rfl) b.list (by decide +kernel) rfl) pa_nil))) (pe_callB call_isi (by rfl) b.isinstance (by decide +kernel) (pa_cons (pv 1) (pa_cons (pe_bltn (v := .ty "list") (by rfl) b.list (by decide +kernel) rfl) pa_nil))) (nomark _)) (pw_or1 (pt_not (pt_val (pe_callB call_isiT (by rfl) b.isinstance (by decide +kernel) (pa_cons (pv 0) (pa_cons (pe_tup (pa_cons (pe_bltn (v := .ty "list") (by rfl) b.list (by decide +kernel) rfl) (pa_cons (pe_bltn (v := .ty "tuple") (by rfl) b.tuple (by decide +kernel) rfl) pa_nil))) pa_nil)))))))) (pss_one (ps_ret pe_bl)) pss_nil)
 (pss_cons (ps_if (pt_cmpR (op_neD hu) (pe_callB call_len (by rfl) b.len (by decide +kernel) (pa_cons (pv 0) pa_nil)) (pe_callB call_len (by rfl) b.len (by decide +kernel) (pa_cons (pv 1) pa_nil)) (nomark _)) (pss_one (ps_ret pe_bl)) pss_nil)
 (pss_one (ps_ret (pe_callB (cr_all rfl) (by rfl) b.all (by decide +kernel) (pa_cons (pe_lc (own := [("k", 2)]) (g := gName 2) (tt := tYes) rfl nd (pi_range1 (by rfl) b.range (pa_cons (pe_callB call_len (by rfl) b.len (by decide +kernel) (pa_cons (pv 1) pa_nil)) pa_nil)) (blkOk_by (own := [("k", 2)]) (N := ["found", "due", "k"]) (sc := defScope s__law_alike) (by decide +kernel)) (fun _ _ _ _ _ => pg_name (i := 2) nd rfl (by first | exact Or.inl rfl | exact Or.inr rfl)) (fun _ _ _ _ _ => by exact pts_nil) (fun _ _ _ _ _ => by exact (pe_has (h__law_alike.up (by omega)) hg hr (by rfl) (pa_cons (pe_ix ix_seq (pv 0) (pv 2) (fun _ _ => rfl)) (pa_cons (pe_ix ix_seq (pv 1) (pv 2) (fun _ _ => rfl)) pa_nil))))) pa_nil)))))) pss_nil)
 (pss_cons (ps_if (PW.pt (pw_or (pt_cmpR op_isN1 (pv 1) pe_non (nomark _)) (pw_or1 (pt_cmpR op_isN1 (pv 0) pe_non (nomark _))))) (pss_one (ps_ret (pe_and (pe_cmpR op_isN1 (pv 1) pe_non (nomark _)) (pe_one (pe_cmpR op_isN1 (pv 0) pe_non (nomark _)))))) pss_nil)
 (pss_cons (ps_if (PW.pt (pw_or (pt_val (pe_callB call_isi (by rfl) b.isinstance (by decide +kernel) (pa_cons (pv 1) (pa_cons (pe_bltn (v := .ty "bool") (by rfl) b.bool (by decide +kernel) rfl) pa_nil)))) (pw_or1 (pt_val (pe_callB call_isi (by rfl) b.isinstance (by decide +kernel) (pa_cons (pv 0) (pa_cons (pe_bltn (v := .ty "bool") (by rfl) b.bool (by decide +kernel) rfl) pa_nil))))))) (pss_one (ps_ret (pe_and (pe_callB call_isi (by rfl) b.isinstance (by decide +kernel) (pa_cons (pv 1) (pa_cons (pe_bltn (v := .ty "bool") (by rfl) b.bool (by decide +kernel) rfl) pa_nil))) (pe_and (pe_callB call_isi (by rfl) b.isinstance (by decide +kernel) (pa_cons (pv 0) (pa_cons (pe_bltn (v := .ty "bool") (by rfl) b.bool (by decide +kernel) rfl) pa_nil))) (pe_one (pe_cmpR (op_eqD hu) (pv 0) (pv 1) (nomark _))))))) pss_nil)
 (pss_one (ps_ret (pe_cmpR (op_eqD hu) (pv 0) (pv 1) (nomark _))))))))
    (ls_seq (ls_if (LB.g (lb_B (LP.m (lp_isi2 isi_list isi_tuple (LP.m (lp_var (i := 1))))))) (ls_seq (ls_if (LB.g (lb_or (lb_test (LP.m (lp_op (LP.m (lp_isi isi_list (LP.m (lp_var (i := 0))))) (LP.m (lp_isi isi_list (LP.m (lp_var (i := 1))))) rb_ne))) (lb_not (lb_B (LP.m (lp_isi2 isi_list isi_tuple (LP.m (lp_var (i := 0))))))))) (ls_ret (LP.e lp_bl)) ls_next)
 (ls_seq (ls_if (LB.g (lb_test (LP.m (lp_op (LP.m (lp_cb (lms_cons (LP.m (lp_var (i := 0))) lms_nil) rc_len)) (LP.m (lp_cb (lms_cons (LP.m (lp_var (i := 1))) lms_nil) rc_len)) rb_ne)))) (ls_ret (LP.e lp_bl)) ls_next)
 (ls_ret (le_cb (les_cons (LL.e (ll_compR (j := 2) (vs := [2]) (by decide) (by decide) (les_cons (LP.e (lp_cb (lms_cons (LP.m (lp_var (i := 1))) lms_nil) rc_len)) les_nil) lt_yes (le_call (les_cons (LP.e (lp_op (LP.m (lp_var (i := 0))) (LP.m (lp_var (i := 2))) rb_ix)) (les_cons (LP.e (lp_op (LP.m (lp_var (i := 1))) (LP.m (lp_var (i := 2))) rb_ix)) les_nil))))) les_nil) rc_all)))) ls_next)
 (ls_seq (ls_if (LB.g (lb_or (lb_test (LP.m (lp_op (LP.m (lp_var (i := 1))) (LP.m lp_non) rb_isN))) (lb_test (LP.m (lp_op (LP.m (lp_var (i := 0))) (LP.m lp_non) rb_isN))))) (ls_ret (LP.e (lp_andV (LP.m (lp_op (LP.m (lp_var (i := 1))) (LP.m lp_non) rb_isN)) (lp_op (LP.m (lp_var (i := 0))) (LP.m lp_non) rb_isN)))) ls_next)
 (ls_seq (ls_if (LB.g (lb_or (lb_B (LP.m (lp_isi isi_bool (LP.m (lp_var (i := 1)))))) (lb_B (LP.m (lp_isi isi_bool (LP.m (lp_var (i := 0)))))))) (ls_ret (LP.e (lp_andV (LP.m (lp_isi isi_bool (LP.m (lp_var (i := 1))))) (lp_andV (LP.m (lp_isi isi_bool (LP.m (lp_var (i := 0))))) (lp_op (LP.m (lp_var (i := 0))) (LP.m (lp_var (i := 1))) rb_eq))))) ls_next)
 (ls_ret (LP.e (lp_op (LP.m (lp_var (i := 0))) (LP.m (lp_var (i := 1))) rb_eq)))))) ?_
  rintro ds Q ⟨d, rfl, hd, q⟩
  (simp only [TN.sSeq, TN.sNext, TN.sDrop, TN.sRet, TN.sRetL, TN.sRetN, TN.sIf, TN.sAsg, TN.sAsgL, TN.sStore, TN.sForL, TN.sForT, TN.sForR, TN.sForR2, TN.tgN, TN.tgTup, TN.tgCons, TN.tgNil, TN.dP, TN.dB, TN.dCall, TN.dCallL, TN.dCallB, TN.dCallBL, TN.dCons, TN.dNil, TN.dTup, TN.dLst, TN.dKeep, TN.dVar, TN.fVar, TN.fPeek, TN.fC, TN.f2, TN.d2, TN.d2V, TN.f1, TN.d1, TN.fCB, TN.dCB, TN.dCBL, TN.fNil, TN.fCons, TN.asBool, TN.dTest, TN.bAnd, TN.bOr, TN.bNot, TN.dAnd, TN.dOr, TN.dNot, TN.fAndV, TN.fOrV, TN.fNotV, TN.dAndV, TN.dOrV, TN.dNotV, TN.dIfE, TN.dIfL, TN.fIfE, TN.fChain, TN.fSlice, TN.dSlice, TN.fNo, TN.fEnd, TN.dAppend, TN.dInsert, TN.dPopAt, TN.ownL, TN.start0, TN.begB, TN.backD, TN.wipeD, TN.dYes, TN.sNever, List.getElem?_cons_zero, List.getElem?_cons_succ, List.set_cons_zero, List.set_cons_succ, List.map_cons, List.map_nil, List.length_cons, List.length_nil, List.cons_append, List.nil_append, List.replicate_succ, List.replicate_zero, Option.map_some, Option.map_none, Nat.add_one_sub_one, Nat.sub_zero, Nat.sub_self, Nat.zero_add, reduceCtorEq, Option.some.injEq, PyData.int.injEq, PyData.str.injEq, PyData.bool.injEq, PyData.list.injEq, PyData.tuple.injEq, Sl.sh.injEq, Sl.ow.injEq, List.cons.injEq, exists_eq_left', exists_eq_left, true_implies, false_implies, and_true, true_and, forall_const, Option.isSome_some, TN.imp_ff, TN.imp_tf, TN.imp_tt, exists_eq_left, exists_eq_left', exists_eq])
  cases hd with
  | @list k xs h few =>
    simp only [isD_ll, isD_tl, oNe_bl]
    unfold dCompR
    (simp only [TN.sSeq, TN.sNext, TN.sDrop, TN.sRet, TN.sRetL, TN.sRetN, TN.sIf, TN.sAsg, TN.sAsgL, TN.sStore, TN.sForL, TN.sForT, TN.sForR, TN.sForR2, TN.tgN, TN.tgTup, TN.tgCons, TN.tgNil, TN.dP, TN.dB, TN.dCall, TN.dCallL, TN.dCallB, TN.dCallBL, TN.dCons, TN.dNil, TN.dTup, TN.dLst, TN.dKeep, TN.dVar, TN.fVar, TN.fPeek, TN.fC, TN.f2, TN.d2, TN.d2V, TN.f1, TN.d1, TN.fCB, TN.dCB, TN.dCBL, TN.fNil, TN.fCons, TN.asBool, TN.dTest, TN.bAnd, TN.bOr, TN.bNot, TN.dAnd, TN.dOr, TN.dNot, TN.fAndV, TN.fOrV, TN.fNotV, TN.dAndV, TN.dOrV, TN.dNotV, TN.dIfE, TN.dIfL, TN.fIfE, TN.fChain, TN.fSlice, TN.dSlice, TN.fNo, TN.fEnd, TN.dAppend, TN.dInsert, TN.dPopAt, TN.ownL, TN.start0, TN.begB, TN.backD, TN.wipeD, TN.dYes, TN.sNever, List.getElem?_cons_zero, List.getElem?_cons_succ, List.set_cons_zero, List.set_cons_succ, List.map_cons, List.map_nil, List.length_cons, List.length_nil, List.cons_append, List.nil_append, List.replicate_succ, List.replicate_zero, Option.map_some, Option.map_none, Nat.add_one_sub_one, Nat.sub_zero, Nat.sub_self, Nat.zero_add, reduceCtorEq, Option.some.injEq, PyData.int.injEq, PyData.str.injEq, PyData.bool.injEq, PyData.list.injEq, PyData.tuple.injEq, Sl.sh.injEq, Sl.ow.injEq, List.cons.injEq, exists_eq_left', exists_eq_left, true_implies, false_implies, and_true, true_and, forall_const, Option.isSome_some, TN.imp_ff, TN.imp_tf, TN.imp_tt, exists_eq_left, exists_eq_left', exists_eq])
    refine ⟨fun _ => ⟨false, rfl, (fun z => by cases z), fun _ => ⟨false, by simp only [oLen_lst, oNe_int]; simp, (fun z => by cases z), fun _ => ⟨_, oLen_lst, _, rfl, by omega, by omega, ?_⟩⟩⟩, (fun z => by cases z)⟩
    refine comp_all (fun d => ∃ p : Nat, p < xs.length ∧ d = .int p) (fun _ => .bool true) rfl (fun _ => rfl) ?_ _ _ rangeI (by rw [rangeD_len]; simp; omega) ?_
    · rintro d R ⟨p, hp, rfl⟩ kk
      (simp only [TN.sSeq, TN.sNext, TN.sDrop, TN.sRet, TN.sRetL, TN.sRetN, TN.sIf, TN.sAsg, TN.sAsgL, TN.sStore, TN.sForL, TN.sForT, TN.sForR, TN.sForR2, TN.tgN, TN.tgTup, TN.tgCons, TN.tgNil, TN.dP, TN.dB, TN.dCall, TN.dCallL, TN.dCallB, TN.dCallBL, TN.dCons, TN.dNil, TN.dTup, TN.dLst, TN.dKeep, TN.dVar, TN.fVar, TN.fPeek, TN.fC, TN.f2, TN.d2, TN.d2V, TN.f1, TN.d1, TN.fCB, TN.dCB, TN.dCBL, TN.fNil, TN.fCons, TN.asBool, TN.dTest, TN.bAnd, TN.bOr, TN.bNot, TN.dAnd, TN.dOr, TN.dNot, TN.fAndV, TN.fOrV, TN.fNotV, TN.dAndV, TN.dOrV, TN.dNotV, TN.dIfE, TN.dIfL, TN.fIfE, TN.fChain, TN.fSlice, TN.dSlice, TN.fNo, TN.fEnd, TN.dAppend, TN.dInsert, TN.dPopAt, TN.ownL, TN.start0, TN.begB, TN.backD, TN.wipeD, TN.dYes, TN.sNever, List.getElem?_cons_zero, List.getElem?_cons_succ, List.set_cons_zero, List.set_cons_succ, List.map_cons, List.map_nil, List.length_cons, List.length_nil, List.cons_append, List.nil_append, List.replicate_succ, List.replicate_zero, Option.map_some, Option.map_none, Nat.add_one_sub_one, Nat.sub_zero, Nat.sub_self, Nat.zero_add, reduceCtorEq, Option.some.injEq, PyData.int.injEq, PyData.str.injEq, PyData.bool.injEq, PyData.list.injEq, PyData.tuple.injEq, Sl.sh.injEq, Sl.ow.injEq, List.cons.injEq, exists_eq_left', exists_eq_left, true_implies, false_implies, and_true, true_and, forall_const, Option.isSome_some, TN.imp_ff, TN.imp_tf, TN.imp_tt, exists_eq_left, exists_eq_left', exists_eq])
      exact ⟨_, oIx_lst hp, _, oIx_lst hp, _, rfl, h _ (List.getElem_mem _), _, rfl, kk⟩
    · rw [List.nil_append, Int.toNat_natCast]
      exact ⟨_, oAll_true, q⟩
  | @tuple k xs h few =>
    simp only [isD_lt, isD_tt, oNe_bl]
    unfold dCompR
    (simp only [TN.sSeq, TN.sNext, TN.sDrop, TN.sRet, TN.sRetL, TN.sRetN, TN.sIf, TN.sAsg, TN.sAsgL, TN.sStore, TN.sForL, TN.sForT, TN.sForR, TN.sForR2, TN.tgN, TN.tgTup, TN.tgCons, TN.tgNil, TN.dP, TN.dB, TN.dCall, TN.dCallL, TN.dCallB, TN.dCallBL, TN.dCons, TN.dNil, TN.dTup, TN.dLst, TN.dKeep, TN.dVar, TN.fVar, TN.fPeek, TN.fC, TN.f2, TN.d2, TN.d2V, TN.f1, TN.d1, TN.fCB, TN.dCB, TN.dCBL, TN.fNil, TN.fCons, TN.asBool, TN.dTest, TN.bAnd, TN.bOr, TN.bNot, TN.dAnd, TN.dOr, TN.dNot, TN.fAndV, TN.fOrV, TN.fNotV, TN.dAndV, TN.dOrV, TN.dNotV, TN.dIfE, TN.dIfL, TN.fIfE, TN.fChain, TN.fSlice, TN.dSlice, TN.fNo, TN.fEnd, TN.dAppend, TN.dInsert, TN.dPopAt, TN.ownL, TN.start0, TN.begB, TN.backD, TN.wipeD, TN.dYes, TN.sNever, List.getElem?_cons_zero, List.getElem?_cons_succ, List.set_cons_zero, List.set_cons_succ, List.map_cons, List.map_nil, List.length_cons, List.length_nil, List.cons_append, List.nil_append, List.replicate_succ, List.replicate_zero, Option.map_some, Option.map_none, Nat.add_one_sub_one, Nat.sub_zero, Nat.sub_self, Nat.zero_add, reduceCtorEq, Option.some.injEq, PyData.int.injEq, PyData.str.injEq, PyData.bool.injEq, PyData.list.injEq, PyData.tuple.injEq, Sl.sh.injEq, Sl.ow.injEq, List.cons.injEq, exists_eq_left', exists_eq_left, true_implies, false_implies, and_true, true_and, forall_const, Option.isSome_some, TN.imp_ff, TN.imp_tf, TN.imp_tt, exists_eq_left, exists_eq_left', exists_eq])
    refine ⟨fun _ => ⟨false, rfl, (fun z => by cases z), fun _ => ⟨false, by simp only [oLen_tpl, oNe_int]; simp, (fun z => by cases z), fun _ => ⟨_, oLen_tpl, _, rfl, by omega, by omega, ?_⟩⟩⟩, (fun z => by cases z)⟩
    refine comp_all (fun d => ∃ p : Nat, p < xs.length ∧ d = .int p) (fun _ => .bool true) rfl (fun _ => rfl) ?_ _ _ rangeI (by rw [rangeD_len]; simp; omega) ?_
    · rintro d R ⟨p, hp, rfl⟩ kk
      (simp only [TN.sSeq, TN.sNext, TN.sDrop, TN.sRet, TN.sRetL, TN.sRetN, TN.sIf, TN.sAsg, TN.sAsgL, TN.sStore, TN.sForL, TN.sForT, TN.sForR, TN.sForR2, TN.tgN, TN.tgTup, TN.tgCons, TN.tgNil, TN.dP, TN.dB, TN.dCall, TN.dCallL, TN.dCallB, TN.dCallBL, TN.dCons, TN.dNil, TN.dTup, TN.dLst, TN.dKeep, TN.dVar, TN.fVar, TN.fPeek, TN.fC, TN.f2, TN.d2, TN.d2V, TN.f1, TN.d1, TN.fCB, TN.dCB, TN.dCBL, TN.fNil, TN.fCons, TN.asBool, TN.dTest, TN.bAnd, TN.bOr, TN.bNot, TN.dAnd, TN.dOr, TN.dNot, TN.fAndV, TN.fOrV, TN.fNotV, TN.dAndV, TN.dOrV, TN.dNotV, TN.dIfE, TN.dIfL, TN.fIfE, TN.fChain, TN.fSlice, TN.dSlice, TN.fNo, TN.fEnd, TN.dAppend, TN.dInsert, TN.dPopAt, TN.ownL, TN.start0, TN.begB, TN.backD, TN.wipeD, TN.dYes, TN.sNever, List.getElem?_cons_zero, List.getElem?_cons_succ, List.set_cons_zero, List.set_cons_succ, List.map_cons, List.map_nil, List.length_cons, List.length_nil, List.cons_append, List.nil_append, List.replicate_succ, List.replicate_zero, Option.map_some, Option.map_none, Nat.add_one_sub_one, Nat.sub_zero, Nat.sub_self, Nat.zero_add, reduceCtorEq, Option.some.injEq, PyData.int.injEq, PyData.str.injEq, PyData.bool.injEq, PyData.list.injEq, PyData.tuple.injEq, Sl.sh.injEq, Sl.ow.injEq, List.cons.injEq, exists_eq_left', exists_eq_left, true_implies, false_implies, and_true, true_and, forall_const, Option.isSome_some, TN.imp_ff, TN.imp_tf, TN.imp_tt, exists_eq_left, exists_eq_left', exists_eq])
      exact ⟨_, oIx_tpl hp, _, oIx_tpl hp, _, rfl, h _ (List.getElem_mem _), _, rfl, kk⟩
    · rw [List.nil_append, Int.toNat_natCast]
      exact ⟨_, oAll_true, q⟩
  | none =>
    simp only [isD_ln, isD_tn, isN_n]
    exact ⟨(fun z => by cases z), fun _ => ⟨true, rfl, fun _ => ⟨_, rfl, q⟩, (fun z => by cases z)⟩⟩
  | int i =>
    simp only [isD_li, isD_ti, isD_bi, isN_i, oEq_int]
    exact ⟨(fun z => by cases z), fun _ => ⟨false, rfl, (fun z => by cases z), fun _ => ⟨false, rfl, (fun z => by cases z), fun _ => ⟨_, rfl, by simpa using q⟩⟩⟩⟩
  | bl i =>
    simp only [isD_lb, isD_tb, isD_bb, isN_b, oEq_bl]
    exact ⟨(fun z => by cases z), fun _ => ⟨false, rfl, (fun z => by cases z), fun _ => ⟨true, rfl, fun _ => ⟨_, rfl, by simpa using q⟩, (fun z => by cases z)⟩⟩⟩
  | str h =>
    simp only [isD_ls, isD_ts, isD_bs, isN_s, oEq_str h h]
    exact ⟨(fun z => by cases z), fun _ => ⟨false, rfl, (fun z => by cases z), fun _ => ⟨false, rfl, (fun z => by cases z), fun _ => ⟨_, rfl, by simpa using q⟩⟩⟩⟩

abbrev s__law_mixed : Stmt := topS 25
theorem sc__law_mixed : FnScope ["bag", "things", "rest", "k"] ["bag", "things"] (defScope s__law_mixed) := ⟨rfl, rfl, rfl, by decide +kernel, rfl, by decide +kernel, by decide +kernel⟩
theorem ok__law_mixed (b : Blt mg) (h__law_take : Has P w K mg base "_law_take" 1 ["bag", "size"] (spB K semWind)) {f : Addr} {fd : FuncData} (F : Fun K "_law_mixed" "_law_mixed" s__law_mixed f fd) : FnG P w K mg base CX0 2 f fd ["bag", "things"] (spB K semMixedL) := by
  refine fnB (k := 1) F sc__law_mixed (fun xs ds Q h => by obtain ⟨n, d, L, _, _, rfl, _⟩ := h; rfl) (fun cdv A outer s H E hg hr =>
    have nd := sc__law_mixed.nd
    have hu := hr.units
    have hu1 := hu_of hr
    (pss_cons (ps_set (i := 2) nd rfl (by first | exact Or.inl rfl | exact Or.inr rfl) (pe_callTy (call_listU rfl) (by rfl) b.list (by decide +kernel) (pa_cons (pv 1) pa_nil)))
 (pss_one (ps_ret (pe_lc (own := [("k", 3)]) (g := gName 3) (tt := tYes) rfl nd (pi_range1 (by rfl) b.range (pa_cons (pe_callB call_len (by rfl) b.len (by decide +kernel) (pa_cons (pv 2) pa_nil)) pa_nil)) (blkOk_by (own := [("k", 3)]) (N := ["bag", "things", "rest", "k"]) (sc := defScope s__law_mixed) (by decide +kernel)) (fun _ _ _ _ _ => pg_name (i := 3) nd rfl (by first | exact Or.inl rfl | exact Or.inr rfl)) (fun _ _ _ _ _ => by exact pts_nil) (fun _ _ _ _ _ => by exact (pe_bm PySem.F.plainAttrs_list PySem.F.slot_list_pop PySem.F.type_list_pop mt_popAt (pv 2) (pa_cons (pe_has (h__law_take.up (by decide)) hg hr (by rfl) (pa_cons (pv 0) (pa_cons (pe_callB call_len (by rfl) b.len (by decide +kernel) (pa_cons (pv 2) pa_nil)) pa_nil))) pa_nil))))))))
    (ls_seq (ls_asgL (i := 2) (by decide) (ll_cb (les_cons (LP.e (lp_var (i := 1))) les_nil) rc_list))
 (ls_retL (ll_compR (j := 3) (vs := [3]) (by decide) (by decide) (les_cons (LP.e (lp_cb (lms_cons (lm_peek (i := 2)) lms_nil) rc_len)) les_nil) lt_yes (le_popAt (j := 2) (le_callB (j := 0) (les_cons (LP.e (lp_cb (lms_cons (lm_peek (i := 2)) lms_nil) rc_len)) les_nil)))))) ?_
  rintro xs ds Q ⟨n, d, L, sp, hn, rfl, l1, few, q⟩
  (simp only [TN.sSeq, TN.sNext, TN.sDrop, TN.sRet, TN.sRetL, TN.sRetN, TN.sIf, TN.sAsg, TN.sAsgL, TN.sStore, TN.sForL, TN.sForT, TN.sForR, TN.sForR2, TN.tgN, TN.tgTup, TN.tgCons, TN.tgNil, TN.dP, TN.dB, TN.dCall, TN.dCallL, TN.dCallB, TN.dCallBL, TN.dCons, TN.dNil, TN.dTup, TN.dLst, TN.dKeep, TN.dVar, TN.fVar, TN.fPeek, TN.fC, TN.f2, TN.d2, TN.d2V, TN.f1, TN.d1, TN.fCB, TN.dCB, TN.dCBL, TN.fNil, TN.fCons, TN.asBool, TN.dTest, TN.bAnd, TN.bOr, TN.bNot, TN.dAnd, TN.dOr, TN.dNot, TN.fAndV, TN.fOrV, TN.fNotV, TN.dAndV, TN.dOrV, TN.dNotV, TN.dIfE, TN.dIfL, TN.fIfE, TN.fChain, TN.fSlice, TN.dSlice, TN.fNo, TN.fEnd, TN.dAppend, TN.dInsert, TN.dPopAt, TN.ownL, TN.start0, TN.begB, TN.backD, TN.wipeD, TN.dYes, TN.sNever, List.getElem?_cons_zero, List.getElem?_cons_succ, List.set_cons_zero, List.set_cons_succ, List.map_cons, List.map_nil, List.length_cons, List.length_nil, List.cons_append, List.nil_append, List.replicate_succ, List.replicate_zero, Option.map_some, Option.map_none, Nat.add_one_sub_one, Nat.sub_zero, Nat.sub_self, Nat.zero_add, reduceCtorEq, Option.some.injEq, PyData.int.injEq, PyData.str.injEq, PyData.bool.injEq, PyData.list.injEq, PyData.tuple.injEq, Sl.sh.injEq, Sl.ow.injEq, List.cons.injEq, exists_eq_left', exists_eq_left, true_implies, false_implies, and_true, true_and, forall_const, Option.isSome_some, TN.imp_ff, TN.imp_tf, TN.imp_tt, exists_eq_left, exists_eq_left', exists_eq])
  rw [l1]
  have hb : n + 100 ≤ 1000000000000 := hn
  refine ⟨_, rfl, ?_⟩
  unfold dCompR
  (simp only [TN.sSeq, TN.sNext, TN.sDrop, TN.sRet, TN.sRetL, TN.sRetN, TN.sIf, TN.sAsg, TN.sAsgL, TN.sStore, TN.sForL, TN.sForT, TN.sForR, TN.sForR2, TN.tgN, TN.tgTup, TN.tgCons, TN.tgNil, TN.dP, TN.dB, TN.dCall, TN.dCallL, TN.dCallB, TN.dCallBL, TN.dCons, TN.dNil, TN.dTup, TN.dLst, TN.dKeep, TN.dVar, TN.fVar, TN.fPeek, TN.fC, TN.f2, TN.d2, TN.d2V, TN.f1, TN.d1, TN.fCB, TN.dCB, TN.dCBL, TN.fNil, TN.fCons, TN.asBool, TN.dTest, TN.bAnd, TN.bOr, TN.bNot, TN.dAnd, TN.dOr, TN.dNot, TN.fAndV, TN.fOrV, TN.fNotV, TN.dAndV, TN.dOrV, TN.dNotV, TN.dIfE, TN.dIfL, TN.fIfE, TN.fChain, TN.fSlice, TN.dSlice, TN.fNo, TN.fEnd, TN.dAppend, TN.dInsert, TN.dPopAt, TN.ownL, TN.start0, TN.begB, TN.backD, TN.wipeD, TN.dYes, TN.sNever, List.getElem?_cons_zero, List.getElem?_cons_succ, List.set_cons_zero, List.set_cons_succ, List.map_cons, List.map_nil, List.length_cons, List.length_nil, List.cons_append, List.nil_append, List.replicate_succ, List.replicate_zero, Option.map_some, Option.map_none, Nat.add_one_sub_one, Nat.sub_zero, Nat.sub_self, Nat.zero_add, reduceCtorEq, Option.some.injEq, PyData.int.injEq, PyData.str.injEq, PyData.bool.injEq, PyData.list.injEq, PyData.tuple.injEq, Sl.sh.injEq, Sl.ow.injEq, List.cons.injEq, exists_eq_left', exists_eq_left, true_implies, false_implies, and_true, true_and, forall_const, Option.isSome_some, TN.imp_ff, TN.imp_tf, TN.imp_tt, exists_eq_left, exists_eq_left', exists_eq])
  refine ⟨_, oLen_lst, _, rfl, by omega, by omega, ?_⟩
  have el : (rangeD 0 (L.length : Int).toNat).length = L.length := by unfold rangeD; rw [List.length_map, List.length_range]; omega
  refine mix_turns _ [] L xs n sp (by rw [el]; show _ ≤ (1000000000000 : Int); omega) el (by simp; omega) fun L' ys pm sp' => ?_
  (simp only [TN.sSeq, TN.sNext, TN.sDrop, TN.sRet, TN.sRetL, TN.sRetN, TN.sIf, TN.sAsg, TN.sAsgL, TN.sStore, TN.sForL, TN.sForT, TN.sForR, TN.sForR2, TN.tgN, TN.tgTup, TN.tgCons, TN.tgNil, TN.dP, TN.dB, TN.dCall, TN.dCallL, TN.dCallB, TN.dCallBL, TN.dCons, TN.dNil, TN.dTup, TN.dLst, TN.dKeep, TN.dVar, TN.fVar, TN.fPeek, TN.fC, TN.f2, TN.d2, TN.d2V, TN.f1, TN.d1, TN.fCB, TN.dCB, TN.dCBL, TN.fNil, TN.fCons, TN.asBool, TN.dTest, TN.bAnd, TN.bOr, TN.bNot, TN.dAnd, TN.dOr, TN.dNot, TN.fAndV, TN.fOrV, TN.fNotV, TN.dAndV, TN.dOrV, TN.dNotV, TN.dIfE, TN.dIfL, TN.fIfE, TN.fChain, TN.fSlice, TN.dSlice, TN.fNo, TN.fEnd, TN.dAppend, TN.dInsert, TN.dPopAt, TN.ownL, TN.start0, TN.begB, TN.backD, TN.wipeD, TN.dYes, TN.sNever, List.getElem?_cons_zero, List.getElem?_cons_succ, List.set_cons_zero, List.set_cons_succ, List.map_cons, List.map_nil, List.length_cons, List.length_nil, List.cons_append, List.nil_append, List.replicate_succ, List.replicate_zero, Option.map_some, Option.map_none, Nat.add_one_sub_one, Nat.sub_zero, Nat.sub_self, Nat.zero_add, reduceCtorEq, Option.some.injEq, PyData.int.injEq, PyData.str.injEq, PyData.bool.injEq, PyData.list.injEq, PyData.tuple.injEq, Sl.sh.injEq, Sl.ow.injEq, List.cons.injEq, exists_eq_left', exists_eq_left, true_implies, false_implies, and_true, true_and, forall_const, Option.isSome_some, TN.imp_ff, TN.imp_tf, TN.imp_tt, exists_eq_left, exists_eq_left', exists_eq])
  exact q L' ys pm (sp'.up (by rw [el]; omega))

abbrev s__law_line : Stmt := topS 26
theorem sc__law_line : FnScope ["bag", "many"] ["bag", "many"] (defScope s__law_line) := ⟨rfl, rfl, rfl, by decide +kernel, rfl, by decide +kernel, by decide +kernel⟩
theorem ok__law_line (b : Blt mg) (h__law_mixed : Has P w K mg base "_law_mixed" 2 ["bag", "things"] (spB K semMixedL)) {f : Addr} {fd : FuncData} (F : Fun K "_law_line" "_law_line" s__law_line f fd) : FnG P w K mg base CX0 3 f fd ["bag", "many"] (spB K semLine) := by
  refine fnB (k := 2) F sc__law_line (fun xs ds Q h => by obtain ⟨n, m, _, _, rfl, _⟩ := h; rfl) (fun cdv A outer s H E hg hr =>
    have nd := sc__law_line.nd
    have hu := hr.units
    have hu1 := hu_of hr
    (pss_one (ps_ret (pe_callTy call_tupleX (by rfl) b.tuple (by decide +kernel) (pa_cons (pe_slice sl_U (pe_has (h__law_mixed.up (by decide)) hg hr (by rfl) (pa_cons (pv 0) (pa_cons pe_str pa_nil))) po_none (po_some (pv 1))) pa_nil)))))
    (ls_ret (le_cb (les_cons (le_slice (LL.e (ll_callB (j := 0) (les_cons (LP.e lp_str) les_nil))) lo_none (lo_some (LP.m (lp_var (i := 1))))) les_nil) rc_tuple)) ?_
  rintro xs ds Q ⟨n, m, sp, hn, rfl, m1, m2, q⟩
  (simp only [TN.dCallF, TN.dLRev, TN.dLAdd, TN.dLSlP, TN.dLSlice, TN.dSliceE, TN.dNo, TN.dEnd, TN.fNo, TN.sSeq, TN.sNext, TN.sDrop, TN.sRet, TN.sRetL, TN.sRetN, TN.sIf, TN.sAsg, TN.sAsgL, TN.sStore, TN.sForL, TN.sForT, TN.sForR, TN.sForR2, TN.tgN, TN.tgTup, TN.tgCons, TN.tgNil, TN.dP, TN.dB, TN.dCall, TN.dCallL, TN.dCallB, TN.dCallBL, TN.dCons, TN.dNil, TN.dTup, TN.dLst, TN.dKeep, TN.dVar, TN.fVar, TN.fPeek, TN.fC, TN.f2, TN.d2, TN.d2V, TN.f1, TN.d1, TN.fCB, TN.dCB, TN.dCBL, TN.fNil, TN.fCons, TN.asBool, TN.dTest, TN.bAnd, TN.bOr, TN.bNot, TN.dAnd, TN.dOr, TN.dNot, TN.fAndV, TN.fOrV, TN.fNotV, TN.dAndV, TN.dOrV, TN.dNotV, TN.dIfE, TN.dIfL, TN.fIfE, TN.fChain, TN.fSlice, TN.dSlice, TN.fNo, TN.fEnd, TN.dAppend, TN.dInsert, TN.dPopAt, TN.ownL, TN.start0, TN.begB, TN.backD, TN.wipeD, TN.dYes, TN.sNever, List.getElem?_cons_zero, List.getElem?_cons_succ, List.set_cons_zero, List.set_cons_succ, List.map_cons, List.map_nil, List.length_cons, List.length_nil, List.cons_append, List.nil_append, List.replicate_succ, List.replicate_zero, Option.map_some, Option.map_none, Nat.add_one_sub_one, Nat.sub_zero, Nat.sub_self, Nat.zero_add, reduceCtorEq, Option.some.injEq, PyData.int.injEq, PyData.str.injEq, PyData.bool.injEq, PyData.list.injEq, PyData.tuple.injEq, Sl.sh.injEq, Sl.ow.injEq, List.cons.injEq, exists_eq_left', exists_eq_left, true_implies, false_implies, and_true, true_and, forall_const, Option.isSome_some, TN.imp_ff, TN.imp_tf, TN.imp_tt, exists_eq_left, exists_eq_left', exists_eq])
  have hb : n + 200 ≤ 1000000000000 := hn
  obtain ⟨k, rfl⟩ : ∃ k : Nat, m = k := ⟨m.toNat, by omega⟩
  refine mixSL sp (by show n + 100 ≤ (1000000000000 : Int); omega) signs_list (by rw [alpha_len]; omega) fun l' ys pm sp2 => ⟨_, rfl, none, some (k : Int), _, rfl, rfl, oSlL_to, _, rfl, ?_⟩
  exact q (l'.take k) ys (row_take pm (by omega) (by omega)) (by rw [List.length_take, pm.length_eq, alpha_len]; omega) (sp2.up (by omega))

abbrev s__law_heard : Stmt := topS 27
theorem sc__law_heard : FnScope ["bag", "line", "kind", "found", "k", "at"] ["bag", "line"] (defScope s__law_heard) := ⟨rfl, rfl, rfl, by decide +kernel, rfl, by decide +kernel, by decide +kernel⟩
theorem ok__law_heard (b : Blt mg) (h__law_take : Has P w K mg base "_law_take" 1 ["bag", "size"] (spB K semWind)) (h__law_mixed : Has P w K mg base "_law_mixed" 2 ["bag", "things"] (spB K semMixedL)) {f : Addr} {fd : FuncData} (F : Fun K "_law_heard" "_law_heard" s__law_heard f fd) : FnG P w K mg base CX0 3 f fd ["bag", "line"] (spB K semHear) := by
  refine fnB (k := 2) F sc__law_heard (fun xs ds Q h => by obtain ⟨n, r, _, _, rfl, _⟩ := h; rfl) (fun cdv A outer s H E hg hr =>
    have nd := sc__law_heard.nd
    have hu := hr.units
    have hu1 := hu_of hr
    (pss_cons (ps_set (i := 2) nd rfl (by first | exact Or.inl rfl | exact Or.inr rfl) (pe_has (h__law_take.up (by decide)) hg hr (by rfl) (pa_cons (pv 0) (pa_cons pe_int pa_nil))))
 (pss_cons (ps_set (i := 3) nd rfl (by first | exact Or.inl rfl | exact Or.inr rfl) (pe_callTy (call_listU rfl) (by rfl) b.list (by decide +kernel) (pa_cons (pv 1) pa_nil)))
 (pss_cons (ps_if (pt_cmpR (op_eqD hu) (pv 2) pe_int (nomark _)) (pss_one (ps_set (i := 3) nd rfl (by first | exact Or.inl rfl | exact Or.inr rfl) (pe_has (h__law_mixed.up (by decide)) hg hr (by rfl) (pa_cons (pv 0) (pa_cons (pv 1) pa_nil))))) pss_nil)
 (pss_cons (ps_if (pt_cmpR (op_eqD hu) (pv 2) pe_int (nomark _)) (pss_one (ps_set (i := 3) nd rfl (by first | exact Or.inl rfl | exact Or.inr rfl) (pe_revX (pv 3)))) pss_nil)
 (pss_cons (ps_if (pt_cmpR (op_eqD hu) (pv 2) pe_int (nomark _)) (pss_cons (ps_set (i := 5) nd rfl (by first | exact Or.inl rfl | exact Or.inr rfl) (pe_has (h__law_take.up (by decide)) hg hr (by rfl) (pa_cons (pv 0) (pa_cons (pe_callB call_len (by rfl) b.len (by decide +kernel) (pa_cons (pv 3) pa_nil)) pa_nil))))
 (pss_one (ps_set (i := 3) nd rfl (by first | exact Or.inl rfl | exact Or.inr rfl) (pe_op op_addU (pe_slice sl_U (pv 3) (po_some (pv 5)) po_none) (pe_slice sl_U (pv 3) po_none (po_some (pv 5))))))) pss_nil)
 (pss_cons (ps_for PassesOwn.never rfl (pi_range1 (by rfl) b.range (pa_cons (pe_has (h__law_take.up (by decide)) hg hr (by rfl) (pa_cons (pv 0) (pa_cons pe_int pa_nil))) pa_nil)) (pg_name (i := 4) nd rfl (by first | exact Or.inl rfl | exact Or.inr rfl)) (pss_one (ps_expr (by exact (pe_bm PySem.F.plainAttrs_list PySem.F.slot_list_insert PySem.F.type_list_insert mt_insert (pv 3) (pa_cons pe_int (pa_cons (pe_bm PySem.F.plainAttrs_list PySem.F.slot_list_pop PySem.F.type_list_pop mt_popAt (pv 3) (pa_cons (pe_has (h__law_take.up (by decide)) hg hr (by rfl) (pa_cons (pv 0) (pa_cons (pe_callB call_len (by rfl) b.len (by decide +kernel) (pa_cons (pv 3) pa_nil)) pa_nil))) pa_nil)) pa_nil)))))))
 (pss_one (ps_ret (pe_callTy call_tupleX (by rfl) b.tuple (by decide +kernel) (pa_cons (pv 3) pa_nil)))))))))))
    (ls_seq (ls_asg (le_callB (j := 0) (les_cons (LP.e lp_int) les_nil)) (lg_name (i := 2) (by decide)))
 (ls_seq (ls_asgL (i := 3) (by decide) (ll_cb (les_cons (LP.e (lp_var (i := 1))) les_nil) rc_list))
 (ls_seq (ls_if (LB.g (lb_test (LP.m (lp_op (LP.m (lp_var (i := 2))) (LP.m lp_int) rb_eq)))) (ls_asgL (i := 3) (by decide) (ll_callB (j := 0) (les_cons (LP.e (lp_var (i := 1))) les_nil))) ls_next)
 (ls_seq (ls_if (LB.g (lb_test (LP.m (lp_op (LP.m (lp_var (i := 2))) (LP.m lp_int) rb_eq)))) (ls_asgL (i := 3) (by decide) (ll_rev (lm_peek (i := 3)))) ls_next)
 (ls_seq (ls_if (LB.g (lb_test (LP.m (lp_op (LP.m (lp_var (i := 2))) (LP.m lp_int) rb_eq)))) (ls_seq (ls_asg (le_callB (j := 0) (les_cons (LP.e (lp_cb (lms_cons (lm_peek (i := 3)) lms_nil) rc_len)) les_nil)) (lg_name (i := 5) (by decide)))
 (ls_asgL (i := 3) (by decide) (ll_add (LP.m (lp_slice (lm_peek (i := 3)) (lo_some (LP.m (lp_var (i := 5)))) lo_none)) (LP.m (lp_slice (lm_peek (i := 3)) lo_none (lo_some (LP.m (lp_var (i := 5))))))))) ls_next)
 (ls_seq (ls_forR (les_cons (le_callB (j := 0) (les_cons (LP.e lp_int) les_nil)) les_nil) (lg_name (i := 4) (by decide)) (ls_drop (le_insert (j := 3) (LP.e lp_int) (le_popAt (j := 3) (le_callB (j := 0) (les_cons (LP.e (lp_cb (lms_cons (lm_peek (i := 3)) lms_nil) rc_len)) les_nil))))))
 (ls_ret (LP.e (lp_cb (lms_cons (lm_peek (i := 3)) lms_nil) rc_tuple))))))))) ?_
  rintro xs ds Q ⟨n, r, sp, hn, rfl, gr, q⟩
  (simp only [TN.dCallF, TN.dLRev, TN.dLAdd, TN.dLSlP, TN.dLSlice, TN.dSliceE, TN.dNo, TN.dEnd, TN.fNo, TN.sSeq, TN.sNext, TN.sDrop, TN.sRet, TN.sRetL, TN.sRetN, TN.sIf, TN.sAsg, TN.sAsgL, TN.sStore, TN.sForL, TN.sForT, TN.sForR, TN.sForR2, TN.tgN, TN.tgTup, TN.tgCons, TN.tgNil, TN.dP, TN.dB, TN.dCall, TN.dCallL, TN.dCallB, TN.dCallBL, TN.dCons, TN.dNil, TN.dTup, TN.dLst, TN.dKeep, TN.dVar, TN.fVar, TN.fPeek, TN.fC, TN.f2, TN.d2, TN.d2V, TN.f1, TN.d1, TN.fCB, TN.dCB, TN.dCBL, TN.fNil, TN.fCons, TN.asBool, TN.dTest, TN.bAnd, TN.bOr, TN.bNot, TN.dAnd, TN.dOr, TN.dNot, TN.fAndV, TN.fOrV, TN.fNotV, TN.dAndV, TN.dOrV, TN.dNotV, TN.dIfE, TN.dIfL, TN.fIfE, TN.fChain, TN.fSlice, TN.dSlice, TN.fNo, TN.fEnd, TN.dAppend, TN.dInsert, TN.dPopAt, TN.ownL, TN.start0, TN.begB, TN.backD, TN.wipeD, TN.dYes, TN.sNever, List.getElem?_cons_zero, List.getElem?_cons_succ, List.set_cons_zero, List.set_cons_succ, List.map_cons, List.map_nil, List.length_cons, List.length_nil, List.cons_append, List.nil_append, List.replicate_succ, List.replicate_zero, Option.map_some, Option.map_none, Nat.add_one_sub_one, Nat.sub_zero, Nat.sub_self, Nat.zero_add, reduceCtorEq, Option.some.injEq, PyData.int.injEq, PyData.str.injEq, PyData.bool.injEq, PyData.list.injEq, PyData.tuple.injEq, Sl.sh.injEq, Sl.ow.injEq, List.cons.injEq, exists_eq_left', exists_eq_left, true_implies, false_implies, and_true, true_and, forall_const, Option.isSome_some, TN.imp_ff, TN.imp_tf, TN.imp_tt, exists_eq_left, exists_eq_left', exists_eq])
  have hb : n + 500 ≤ 1000000000000 := hn
  have few := gr.few
  have r0 : 0 < r.length := List.length_pos_iff.mpr gr.ne
  refine windN sp (by show n ≤ (1000000000000 : Int); omega) (by omega) (by omega) fun k ys hk sp1 => ⟨_, rfl, _, rfl, ?_⟩
  simp only [oEq_int]
  refine ⟨_, rfl, fun h0 => ?_, fun h0 => ?_⟩
  · have h0 := of_decide_eq_true h0
    refine mixSL sp1 (by show _ ≤ (1000000000000 : Int); omega) rfl (by omega) fun l ys2 pm sp2 => ⟨_, rfl, _, rfl, (fun z => absurd (of_decide_eq_true z) (by omega)), fun _ => ⟨_, rfl, (fun z => absurd (of_decide_eq_true z) (by omega)), fun _ => ?_⟩⟩
    have pl := pm.length_eq
    refine windN sp2 (by show _ ≤ (1000000000000 : Int); omega) (by omega) (by omega) fun c zs hc spY => ⟨_, rfl, _, rfl, by omega, by omega, ?_⟩
    refine hear_turns _ (l) zs _ .no spY (by rw [rangeD_len]; show _ ≤ (1000000000000 : Int); omega) (fun z => by have z := congrArg List.length z; simp only [List.length_reverse, List.length_nil] at z; omega) (by first | omega | (rw [List.length_reverse]; omega)) fun l' ys' z' pl' sp'' => ?_
    rw [rangeD_len] at sp''
    try (simp only [TN.dCallF, TN.dLRev, TN.dLAdd, TN.dLSlP, TN.dLSlice, TN.dSliceE, TN.dNo, TN.dEnd, TN.fNo, TN.sSeq, TN.sNext, TN.sDrop, TN.sRet, TN.sRetL, TN.sRetN, TN.sIf, TN.sAsg, TN.sAsgL, TN.sStore, TN.sForL, TN.sForT, TN.sForR, TN.sForR2, TN.tgN, TN.tgTup, TN.tgCons, TN.tgNil, TN.dP, TN.dB, TN.dCall, TN.dCallL, TN.dCallB, TN.dCallBL, TN.dCons, TN.dNil, TN.dTup, TN.dLst, TN.dKeep, TN.dVar, TN.fVar, TN.fPeek, TN.fC, TN.f2, TN.d2, TN.d2V, TN.f1, TN.d1, TN.fCB, TN.dCB, TN.dCBL, TN.fNil, TN.fCons, TN.asBool, TN.dTest, TN.bAnd, TN.bOr, TN.bNot, TN.dAnd, TN.dOr, TN.dNot, TN.fAndV, TN.fOrV, TN.fNotV, TN.dAndV, TN.dOrV, TN.dNotV, TN.dIfE, TN.dIfL, TN.fIfE, TN.fChain, TN.fSlice, TN.dSlice, TN.fNo, TN.fEnd, TN.dAppend, TN.dInsert, TN.dPopAt, TN.ownL, TN.start0, TN.begB, TN.backD, TN.wipeD, TN.dYes, TN.sNever, List.getElem?_cons_zero, List.getElem?_cons_succ, List.set_cons_zero, List.set_cons_succ, List.map_cons, List.map_nil, List.length_cons, List.length_nil, List.cons_append, List.nil_append, List.replicate_succ, List.replicate_zero, Option.map_some, Option.map_none, Nat.add_one_sub_one, Nat.sub_zero, Nat.sub_self, Nat.zero_add, reduceCtorEq, Option.some.injEq, PyData.int.injEq, PyData.str.injEq, PyData.bool.injEq, PyData.list.injEq, PyData.tuple.injEq, Sl.sh.injEq, Sl.ow.injEq, List.cons.injEq, exists_eq_left', exists_eq_left, true_implies, false_implies, and_true, true_and, forall_const, Option.isSome_some, TN.imp_ff, TN.imp_tf, TN.imp_tt, exists_eq_left, exists_eq_left', exists_eq])
    exact ⟨_, rfl, q l' ys' (pl'.trans pm) (sp''.up (by omega))⟩
  · refine ⟨_, rfl, fun h1 => ?_, fun h1 => ?_⟩
    · have h1 := of_decide_eq_true h1
      refine ⟨_, rfl, (fun z => absurd (of_decide_eq_true z) (by omega)), fun _ => ?_⟩
      rw [← List.map_reverse]
      refine windN sp1 (by show _ ≤ (1000000000000 : Int); omega) (by omega) (by omega) fun c zs hc spY => ⟨_, rfl, _, rfl, by omega, by omega, ?_⟩
      refine hear_turns _ (r.reverse) zs _ .no spY (by rw [rangeD_len]; show _ ≤ (1000000000000 : Int); omega) (fun z => by have z := congrArg List.length z; simp only [List.length_reverse, List.length_nil] at z; omega) (by first | omega | (rw [List.length_reverse]; omega)) fun l' ys' z' pl' sp'' => ?_
      rw [rangeD_len] at sp''
      try (simp only [TN.dCallF, TN.dLRev, TN.dLAdd, TN.dLSlP, TN.dLSlice, TN.dSliceE, TN.dNo, TN.dEnd, TN.fNo, TN.sSeq, TN.sNext, TN.sDrop, TN.sRet, TN.sRetL, TN.sRetN, TN.sIf, TN.sAsg, TN.sAsgL, TN.sStore, TN.sForL, TN.sForT, TN.sForR, TN.sForR2, TN.tgN, TN.tgTup, TN.tgCons, TN.tgNil, TN.dP, TN.dB, TN.dCall, TN.dCallL, TN.dCallB, TN.dCallBL, TN.dCons, TN.dNil, TN.dTup, TN.dLst, TN.dKeep, TN.dVar, TN.fVar, TN.fPeek, TN.fC, TN.f2, TN.d2, TN.d2V, TN.f1, TN.d1, TN.fCB, TN.dCB, TN.dCBL, TN.fNil, TN.fCons, TN.asBool, TN.dTest, TN.bAnd, TN.bOr, TN.bNot, TN.dAnd, TN.dOr, TN.dNot, TN.fAndV, TN.fOrV, TN.fNotV, TN.dAndV, TN.dOrV, TN.dNotV, TN.dIfE, TN.dIfL, TN.fIfE, TN.fChain, TN.fSlice, TN.dSlice, TN.fNo, TN.fEnd, TN.dAppend, TN.dInsert, TN.dPopAt, TN.ownL, TN.start0, TN.begB, TN.backD, TN.wipeD, TN.dYes, TN.sNever, List.getElem?_cons_zero, List.getElem?_cons_succ, List.set_cons_zero, List.set_cons_succ, List.map_cons, List.map_nil, List.length_cons, List.length_nil, List.cons_append, List.nil_append, List.replicate_succ, List.replicate_zero, Option.map_some, Option.map_none, Nat.add_one_sub_one, Nat.sub_zero, Nat.sub_self, Nat.zero_add, reduceCtorEq, Option.some.injEq, PyData.int.injEq, PyData.str.injEq, PyData.bool.injEq, PyData.list.injEq, PyData.tuple.injEq, Sl.sh.injEq, Sl.ow.injEq, List.cons.injEq, exists_eq_left', exists_eq_left, true_implies, false_implies, and_true, true_and, forall_const, Option.isSome_some, TN.imp_ff, TN.imp_tf, TN.imp_tt, exists_eq_left, exists_eq_left', exists_eq])
      exact ⟨_, rfl, q l' ys' (pl'.trans (List.reverse_perm r)) (sp''.up (by omega))⟩
    · refine ⟨_, rfl, fun h2 => ?_, fun h2 => ?_⟩
      · refine ⟨_, oLen_lstL, windN sp1 (by show _ ≤ (1000000000000 : Int); omega) (by omega) (by omega) fun p ys2 hp sp2 => ⟨_, rfl, ?_⟩⟩
        refine ⟨_, _, oSlL_from, oSlL_to, by simp; omega, ?_⟩
        try (simp only [TN.dCallF, TN.dLRev, TN.dLAdd, TN.dLSlP, TN.dLSlice, TN.dSliceE, TN.dNo, TN.dEnd, TN.fNo, TN.sSeq, TN.sNext, TN.sDrop, TN.sRet, TN.sRetL, TN.sRetN, TN.sIf, TN.sAsg, TN.sAsgL, TN.sStore, TN.sForL, TN.sForT, TN.sForR, TN.sForR2, TN.tgN, TN.tgTup, TN.tgCons, TN.tgNil, TN.dP, TN.dB, TN.dCall, TN.dCallL, TN.dCallB, TN.dCallBL, TN.dCons, TN.dNil, TN.dTup, TN.dLst, TN.dKeep, TN.dVar, TN.fVar, TN.fPeek, TN.fC, TN.f2, TN.d2, TN.d2V, TN.f1, TN.d1, TN.fCB, TN.dCB, TN.dCBL, TN.fNil, TN.fCons, TN.asBool, TN.dTest, TN.bAnd, TN.bOr, TN.bNot, TN.dAnd, TN.dOr, TN.dNot, TN.fAndV, TN.fOrV, TN.fNotV, TN.dAndV, TN.dOrV, TN.dNotV, TN.dIfE, TN.dIfL, TN.fIfE, TN.fChain, TN.fSlice, TN.dSlice, TN.fNo, TN.fEnd, TN.dAppend, TN.dInsert, TN.dPopAt, TN.ownL, TN.start0, TN.begB, TN.backD, TN.wipeD, TN.dYes, TN.sNever, List.getElem?_cons_zero, List.getElem?_cons_succ, List.set_cons_zero, List.set_cons_succ, List.map_cons, List.map_nil, List.length_cons, List.length_nil, List.cons_append, List.nil_append, List.replicate_succ, List.replicate_zero, Option.map_some, Option.map_none, Nat.add_one_sub_one, Nat.sub_zero, Nat.sub_self, Nat.zero_add, reduceCtorEq, Option.some.injEq, PyData.int.injEq, PyData.str.injEq, PyData.bool.injEq, PyData.list.injEq, PyData.tuple.injEq, Sl.sh.injEq, Sl.ow.injEq, List.cons.injEq, exists_eq_left', exists_eq_left, true_implies, false_implies, and_true, true_and, forall_const, Option.isSome_some, TN.imp_ff, TN.imp_tf, TN.imp_tt, exists_eq_left, exists_eq_left', exists_eq])
        rw [← List.map_append]
        have pm : (r.drop p ++ r.take p).Perm r := List.perm_append_comm.trans (List.Perm.of_eq (List.take_append_drop p r))
        have pl := pm.length_eq
        generalize r.drop p ++ r.take p = l at pm pl ⊢
        refine windN sp2 (by show _ ≤ (1000000000000 : Int); omega) (by omega) (by omega) fun c zs hc spY => ⟨_, rfl, _, rfl, by omega, by omega, ?_⟩
        refine hear_turns _ (l) zs _ .no spY (by rw [rangeD_len]; show _ ≤ (1000000000000 : Int); omega) (fun z => by have z := congrArg List.length z; simp only [List.length_reverse, List.length_nil] at z; omega) (by first | omega | (rw [List.length_reverse]; omega)) fun l' ys' z' pl' sp'' => ?_
        rw [rangeD_len] at sp''
        try (simp only [TN.dCallF, TN.dLRev, TN.dLAdd, TN.dLSlP, TN.dLSlice, TN.dSliceE, TN.dNo, TN.dEnd, TN.fNo, TN.sSeq, TN.sNext, TN.sDrop, TN.sRet, TN.sRetL, TN.sRetN, TN.sIf, TN.sAsg, TN.sAsgL, TN.sStore, TN.sForL, TN.sForT, TN.sForR, TN.sForR2, TN.tgN, TN.tgTup, TN.tgCons, TN.tgNil, TN.dP, TN.dB, TN.dCall, TN.dCallL, TN.dCallB, TN.dCallBL, TN.dCons, TN.dNil, TN.dTup, TN.dLst, TN.dKeep, TN.dVar, TN.fVar, TN.fPeek, TN.fC, TN.f2, TN.d2, TN.d2V, TN.f1, TN.d1, TN.fCB, TN.dCB, TN.dCBL, TN.fNil, TN.fCons, TN.asBool, TN.dTest, TN.bAnd, TN.bOr, TN.bNot, TN.dAnd, TN.dOr, TN.dNot, TN.fAndV, TN.fOrV, TN.fNotV, TN.dAndV, TN.dOrV, TN.dNotV, TN.dIfE, TN.dIfL, TN.fIfE, TN.fChain, TN.fSlice, TN.dSlice, TN.fNo, TN.fEnd, TN.dAppend, TN.dInsert, TN.dPopAt, TN.ownL, TN.start0, TN.begB, TN.backD, TN.wipeD, TN.dYes, TN.sNever, List.getElem?_cons_zero, List.getElem?_cons_succ, List.set_cons_zero, List.set_cons_succ, List.map_cons, List.map_nil, List.length_cons, List.length_nil, List.cons_append, List.nil_append, List.replicate_succ, List.replicate_zero, Option.map_some, Option.map_none, Nat.add_one_sub_one, Nat.sub_zero, Nat.sub_self, Nat.zero_add, reduceCtorEq, Option.some.injEq, PyData.int.injEq, PyData.str.injEq, PyData.bool.injEq, PyData.list.injEq, PyData.tuple.injEq, Sl.sh.injEq, Sl.ow.injEq, List.cons.injEq, exists_eq_left', exists_eq_left, true_implies, false_implies, and_true, true_and, forall_const, Option.isSome_some, TN.imp_ff, TN.imp_tf, TN.imp_tt, exists_eq_left, exists_eq_left', exists_eq])
        exact ⟨_, rfl, q l' ys' (pl'.trans pm) (sp''.up (by omega))⟩
      · skip
        refine windN sp1 (by show _ ≤ (1000000000000 : Int); omega) (by omega) (by omega) fun c zs hc spY => ⟨_, rfl, _, rfl, by omega, by omega, ?_⟩
        refine hear_turns _ (r) zs _ .no spY (by rw [rangeD_len]; show _ ≤ (1000000000000 : Int); omega) (fun z => by have z := congrArg List.length z; simp only [List.length_reverse, List.length_nil] at z; omega) (by first | omega | (rw [List.length_reverse]; omega)) fun l' ys' z' pl' sp'' => ?_
        rw [rangeD_len] at sp''
        try (simp only [TN.dCallF, TN.dLRev, TN.dLAdd, TN.dLSlP, TN.dLSlice, TN.dSliceE, TN.dNo, TN.dEnd, TN.fNo, TN.sSeq, TN.sNext, TN.sDrop, TN.sRet, TN.sRetL, TN.sRetN, TN.sIf, TN.sAsg, TN.sAsgL, TN.sStore, TN.sForL, TN.sForT, TN.sForR, TN.sForR2, TN.tgN, TN.tgTup, TN.tgCons, TN.tgNil, TN.dP, TN.dB, TN.dCall, TN.dCallL, TN.dCallB, TN.dCallBL, TN.dCons, TN.dNil, TN.dTup, TN.dLst, TN.dKeep, TN.dVar, TN.fVar, TN.fPeek, TN.fC, TN.f2, TN.d2, TN.d2V, TN.f1, TN.d1, TN.fCB, TN.dCB, TN.dCBL, TN.fNil, TN.fCons, TN.asBool, TN.dTest, TN.bAnd, TN.bOr, TN.bNot, TN.dAnd, TN.dOr, TN.dNot, TN.fAndV, TN.fOrV, TN.fNotV, TN.dAndV, TN.dOrV, TN.dNotV, TN.dIfE, TN.dIfL, TN.fIfE, TN.fChain, TN.fSlice, TN.dSlice, TN.fNo, TN.fEnd, TN.dAppend, TN.dInsert, TN.dPopAt, TN.ownL, TN.start0, TN.begB, TN.backD, TN.wipeD, TN.dYes, TN.sNever, List.getElem?_cons_zero, List.getElem?_cons_succ, List.set_cons_zero, List.set_cons_succ, List.map_cons, List.map_nil, List.length_cons, List.length_nil, List.cons_append, List.nil_append, List.replicate_succ, List.replicate_zero, Option.map_some, Option.map_none, Nat.add_one_sub_one, Nat.sub_zero, Nat.sub_self, Nat.zero_add, reduceCtorEq, Option.some.injEq, PyData.int.injEq, PyData.str.injEq, PyData.bool.injEq, PyData.list.injEq, PyData.tuple.injEq, Sl.sh.injEq, Sl.ow.injEq, List.cons.injEq, exists_eq_left', exists_eq_left, true_implies, false_implies, and_true, true_and, forall_const, Option.isSome_some, TN.imp_ff, TN.imp_tf, TN.imp_tt, exists_eq_left, exists_eq_left', exists_eq])
        exact ⟨_, rfl, q l' ys' (pl'.trans (List.Perm.refl r)) (sp''.up (by omega))⟩

abbrev s__law_all_parts : Stmt := topS 29
theorem sc__law_all_parts : FnScope ["line", "found", "one", "some"] ["line"] (defScope s__law_all_parts) := ⟨rfl, rfl, rfl, by decide +kernel, rfl, by decide +kernel, by decide +kernel⟩
theorem ok__law_all_parts (b : Blt mg) {f : Addr} {fd : FuncData} (F : Fun K "_law_all_parts" "_law_all_parts" s__law_all_parts f fd) : FnG P w K mg base CX0 1 f fd ["line"] (sp0 K semParts) := by
  refine fn0 (k := 0) F sc__law_all_parts (fun ds Q h => by obtain ⟨l, rfl, _⟩ := h; rfl) (fun cdv A outer s H E hg hr =>
    have nd := sc__law_all_parts.nd
    have hu := hr.units
    have hu1 := hu_of hr
    (pss_cons (ps_set (i := 1) nd rfl (by first | exact Or.inl rfl | exact Or.inr rfl) (pe_lst (pa_cons (pe_tupX pa_nil) pa_nil)))
 (pss_cons (ps_for PassesOwn.never rfl (pi_tup (pv 0)) (pg_name (i := 2) nd rfl (by first | exact Or.inl rfl | exact Or.inr rfl)) (pss_one (ps_set (i := 1) nd rfl (by first | exact Or.inl rfl | exact Or.inr rfl) (pe_op op_addU (pv 1) (pe_lc (own := [("some", 3)]) (g := gName 3) (tt := tYes) rfl nd (pi_list (pv 1)) (blkOk_by (own := [("some", 3)]) (N := ["line", "found", "one", "some"]) (sc := defScope s__law_all_parts) (by decide +kernel)) (fun _ _ _ _ _ => pg_name (i := 3) nd rfl (by first | exact Or.inl rfl | exact Or.inr rfl)) (fun _ _ _ _ _ => by exact pts_nil) (fun _ _ _ _ _ => by exact (pe_op op_addU (pv 3) (pe_tupX (pa_cons (pv 2) pa_nil)))))))))
 (pss_one (ps_ret (pv 1))))))
    (ls_seq (ls_asg (LL.e (ll_lst (les_cons (le_tup les_nil) les_nil))) (lg_name (i := 1) (by decide)))
 (ls_seq (ls_forT (LP.e (lp_var (i := 0))) (lg_name (i := 2) (by decide)) (ls_asg (le_op (LP.e (lp_var (i := 1))) (LL.e (ll_compL (j := 3) (vs := [3]) (by decide) (by decide) (LP.e (lp_var (i := 1))) lt_yes (le_op (LP.e (lp_var (i := 3))) (le_tup (les_cons (LP.e (lp_var (i := 2))) les_nil)) rb_add))) rb_add) (lg_name (i := 1) (by decide))))
 (ls_ret (LP.e (lp_var (i := 1)))))) ?_
  rintro ds Q ⟨l, rfl, few, q⟩
  (simp only [TN.dCallO, TN.dCallOI, TN.dCallNO, TN.oVar, TN.sCut, TN.tgLst, TN.iK, TN.iV, TN.iLT, TN.pNew, TN.dCallN, TN.dCompI2, TN.dLAddE, TN.oD, TN.sDNew, TN.sPutD, TN.fGetO, TN.fGetO2, TN.fInO, TN.fNinO, TN.dVarD, TN.dExtS, TN.mOwn, TN.dCallM, TN.mVar, TN.sRetV, TN.dAug, TN.dCallNT, TN.dCallNL, TN.fIxTs, TN.sForI, TN.dCompI, TN.dCompL, TN.dCompT, TN.dCompR, TN.iL, TN.iT, TN.iR1, TN.iR2, TN.iR3, TN.iS, TN.iE, TN.iRv, TN.iZ, TN.dKeepT, TN.dCallT, TN.pTup, TN.pCons, TN.pOwn, TN.sAsgT, TN.sRetT, TN.tpL, TN.fIxT, TN.fTp, TN.dAppendT, TN.dReverseT, TN.dClearT, TN.dVarT, TN.dReverse, TN.dClear, TN.dPop, Pt.d, Sl.tp.injEq, TN.startF, TN.dCallV, Sl.fn.injEq, TN.dCallF, TN.dLRev, TN.dLAdd, TN.dLSlP, TN.dLSlice, TN.dSliceE, TN.dNo, TN.dEnd, TN.fNo, TN.sSeq, TN.sNext, TN.sDrop, TN.sRet, TN.sRetL, TN.sRetN, TN.sIf, TN.sAsg, TN.sAsgL, TN.sStore, TN.sForL, TN.sForT, TN.sForR, TN.sForR2, TN.tgN, TN.tgTup, TN.tgCons, TN.tgNil, TN.dP, TN.dB, TN.dCall, TN.dCallL, TN.dCallB, TN.dCallBL, TN.dCons, TN.dNil, TN.dTup, TN.dLst, TN.dKeep, TN.dVar, TN.fVar, TN.fPeek, TN.fC, TN.f2, TN.d2, TN.d2V, TN.f1, TN.d1, TN.fCB, TN.dCB, TN.dCBL, TN.fNil, TN.fCons, TN.asBool, TN.dTest, TN.bAnd, TN.bOr, TN.bNot, TN.dAnd, TN.dOr, TN.dNot, TN.fAndV, TN.fOrV, TN.fNotV, TN.dAndV, TN.dOrV, TN.dNotV, TN.dIfE, TN.dIfL, TN.fIfE, TN.fChain, TN.fSlice, TN.dSlice, TN.fNo, TN.fEnd, TN.dAppend, TN.dInsert, TN.dPopAt, TN.ownL, TN.start0, TN.begB, TN.backD, TN.wipeD, TN.dYes, TN.sNever, List.getElem?_cons_zero, List.getElem?_cons_succ, List.set_cons_zero, List.set_cons_succ, List.map_cons, List.map_nil, List.length_cons, List.length_nil, List.cons_append, List.nil_append, List.replicate_succ, List.replicate_zero, Option.map_some, Option.map_none, Nat.add_one_sub_one, Nat.sub_zero, Nat.sub_self, Nat.zero_add, reduceCtorEq, Option.some.injEq, PyData.int.injEq, PyData.str.injEq, PyData.bool.injEq, PyData.list.injEq, PyData.tuple.injEq, Sl.sh.injEq, Sl.ow.injEq, List.cons.injEq, exists_eq_left', exists_eq_left, true_implies, false_implies, and_true, true_and, forall_const, Option.isSome_some, TN.imp_ff, TN.imp_tf, TN.imp_tt, exists_eq_left, exists_eq_left', exists_eq])
  refine ⟨by omega, by omega, ?_⟩
  refine forD_go PyData.str (fun ls ρ => ∃ (acc : List (List Str)) (b2 : Sl), partsG acc ls = partsL l ∧ plainAt 0 [b2] = true ∧ ρ = [.sh (tupL l), .sh (.list (acc.map tupL)), b2, .no]) ?_ ?_ l _ ⟨[[]], .no, rfl, rfl, rfl⟩
  · rintro x ls ρ E' ⟨acc, b2, ea, _, rfl⟩ nx _ _ _
    (simp only [TN.dCallO, TN.dCallOI, TN.dCallNO, TN.oVar, TN.sCut, TN.tgLst, TN.iK, TN.iV, TN.iLT, TN.pNew, TN.dCallN, TN.dCompI2, TN.dLAddE, TN.oD, TN.sDNew, TN.sPutD, TN.fGetO, TN.fGetO2, TN.fInO, TN.fNinO, TN.dVarD, TN.dExtS, TN.mOwn, TN.dCallM, TN.mVar, TN.sRetV, TN.dAug, TN.dCallNT, TN.dCallNL, TN.fIxTs, TN.sForI, TN.dCompI, TN.dCompL, TN.dCompT, TN.dCompR, TN.iL, TN.iT, TN.iR1, TN.iR2, TN.iR3, TN.iS, TN.iE, TN.iRv, TN.iZ, TN.dKeepT, TN.dCallT, TN.pTup, TN.pCons, TN.pOwn, TN.sAsgT, TN.sRetT, TN.tpL, TN.fIxT, TN.fTp, TN.dAppendT, TN.dReverseT, TN.dClearT, TN.dVarT, TN.dReverse, TN.dClear, TN.dPop, Pt.d, Sl.tp.injEq, TN.startF, TN.dCallV, Sl.fn.injEq, TN.dCallF, TN.dLRev, TN.dLAdd, TN.dLSlP, TN.dLSlice, TN.dSliceE, TN.dNo, TN.dEnd, TN.fNo, TN.sSeq, TN.sNext, TN.sDrop, TN.sRet, TN.sRetL, TN.sRetN, TN.sIf, TN.sAsg, TN.sAsgL, TN.sStore, TN.sForL, TN.sForT, TN.sForR, TN.sForR2, TN.tgN, TN.tgTup, TN.tgCons, TN.tgNil, TN.dP, TN.dB, TN.dCall, TN.dCallL, TN.dCallB, TN.dCallBL, TN.dCons, TN.dNil, TN.dTup, TN.dLst, TN.dKeep, TN.dVar, TN.fVar, TN.fPeek, TN.fC, TN.f2, TN.d2, TN.d2V, TN.f1, TN.d1, TN.fCB, TN.dCB, TN.dCBL, TN.fNil, TN.fCons, TN.asBool, TN.dTest, TN.bAnd, TN.bOr, TN.bNot, TN.dAnd, TN.dOr, TN.dNot, TN.fAndV, TN.fOrV, TN.fNotV, TN.dAndV, TN.dOrV, TN.dNotV, TN.dIfE, TN.dIfL, TN.fIfE, TN.fChain, TN.fSlice, TN.dSlice, TN.fNo, TN.fEnd, TN.dAppend, TN.dInsert, TN.dPopAt, TN.ownL, TN.start0, TN.begB, TN.backD, TN.wipeD, TN.dYes, TN.sNever, List.getElem?_cons_zero, List.getElem?_cons_succ, List.set_cons_zero, List.set_cons_succ, List.map_cons, List.map_nil, List.length_cons, List.length_nil, List.cons_append, List.nil_append, List.replicate_succ, List.replicate_zero, Option.map_some, Option.map_none, Nat.add_one_sub_one, Nat.sub_zero, Nat.sub_self, Nat.zero_add, reduceCtorEq, Option.some.injEq, PyData.int.injEq, PyData.str.injEq, PyData.bool.injEq, PyData.list.injEq, PyData.tuple.injEq, Sl.sh.injEq, Sl.ow.injEq, List.cons.injEq, exists_eq_left', exists_eq_left, true_implies, false_implies, and_true, true_and, forall_const, Option.isSome_some, TN.imp_ff, TN.imp_tf, TN.imp_tt, exists_eq_left, exists_eq_left', exists_eq])
    have la := congrArg List.length ea
    rw [parts_len, partsL_len, List.length_cons] at la
    have l2 : 2 ^ l.length ≤ 2 ^ 7 := Nat.pow_le_pow_right (by decide) few
    have l3 : acc.length * 2 ≤ acc.length * 2 ^ (ls.length + 1) := Nat.mul_le_mul_left _ (by rw [Nat.pow_succ]; have := Nat.one_le_two_pow (n := ls.length); omega)
    have lb : acc.length * 2 ≤ 128 := Nat.le_trans l3 (by rw [la]; exact l2)
    have small : ∀ M ∈ acc, M.length ≤ 7 := fun M hM => by
      have hp : M ∈ partsG acc (x :: ls) := parts_mem.mpr ⟨M, hM, [], List.nil_sublist _, (List.append_nil M).symm⟩
      rw [ea] at hp
      exact Nat.le_trans (partsL_mem.mp hp).length_le few
    refine comp_map tupL (fun M => tupL (M ++ [x])) (fun M => M ∈ acc) rfl (fun _ => rfl) (fun M R hM kk => ?_) acc [] (fun _ h => h) (by simp; omega) ?_
    · (simp only [TN.dCallO, TN.dCallOI, TN.dCallNO, TN.oVar, TN.sCut, TN.tgLst, TN.iK, TN.iV, TN.iLT, TN.pNew, TN.dCallN, TN.dCompI2, TN.dLAddE, TN.oD, TN.sDNew, TN.sPutD, TN.fGetO, TN.fGetO2, TN.fInO, TN.fNinO, TN.dVarD, TN.dExtS, TN.mOwn, TN.dCallM, TN.mVar, TN.sRetV, TN.dAug, TN.dCallNT, TN.dCallNL, TN.fIxTs, TN.sForI, TN.dCompI, TN.dCompL, TN.dCompT, TN.dCompR, TN.iL, TN.iT, TN.iR1, TN.iR2, TN.iR3, TN.iS, TN.iE, TN.iRv, TN.iZ, TN.dKeepT, TN.dCallT, TN.pTup, TN.pCons, TN.pOwn, TN.sAsgT, TN.sRetT, TN.tpL, TN.fIxT, TN.fTp, TN.dAppendT, TN.dReverseT, TN.dClearT, TN.dVarT, TN.dReverse, TN.dClear, TN.dPop, Pt.d, Sl.tp.injEq, TN.startF, TN.dCallV, Sl.fn.injEq, TN.dCallF, TN.dLRev, TN.dLAdd, TN.dLSlP, TN.dLSlice, TN.dSliceE, TN.dNo, TN.dEnd, TN.fNo, TN.sSeq, TN.sNext, TN.sDrop, TN.sRet, TN.sRetL, TN.sRetN, TN.sIf, TN.sAsg, TN.sAsgL, TN.sStore, TN.sForL, TN.sForT, TN.sForR, TN.sForR2, TN.tgN, TN.tgTup, TN.tgCons, TN.tgNil, TN.dP, TN.dB, TN.dCall, TN.dCallL, TN.dCallB, TN.dCallBL, TN.dCons, TN.dNil, TN.dTup, TN.dLst, TN.dKeep, TN.dVar, TN.fVar, TN.fPeek, TN.fC, TN.f2, TN.d2, TN.d2V, TN.f1, TN.d1, TN.fCB, TN.dCB, TN.dCBL, TN.fNil, TN.fCons, TN.asBool, TN.dTest, TN.bAnd, TN.bOr, TN.bNot, TN.dAnd, TN.dOr, TN.dNot, TN.fAndV, TN.fOrV, TN.fNotV, TN.dAndV, TN.dOrV, TN.dNotV, TN.dIfE, TN.dIfL, TN.fIfE, TN.fChain, TN.fSlice, TN.dSlice, TN.fNo, TN.fEnd, TN.dAppend, TN.dInsert, TN.dPopAt, TN.ownL, TN.start0, TN.begB, TN.backD, TN.wipeD, TN.dYes, TN.sNever, List.getElem?_cons_zero, List.getElem?_cons_succ, List.set_cons_zero, List.set_cons_succ, List.map_cons, List.map_nil, List.length_cons, List.length_nil, List.cons_append, List.nil_append, List.replicate_succ, List.replicate_zero, Option.map_some, Option.map_none, Nat.add_one_sub_one, Nat.sub_zero, Nat.sub_self, Nat.zero_add, reduceCtorEq, Option.some.injEq, PyData.int.injEq, PyData.str.injEq, PyData.bool.injEq, PyData.list.injEq, PyData.tuple.injEq, Sl.sh.injEq, Sl.ow.injEq, List.cons.injEq, exists_eq_left', exists_eq_left, true_implies, false_implies, and_true, true_and, forall_const, Option.isSome_some, TN.imp_ff, TN.imp_tf, TN.imp_tt, exists_eq_left, exists_eq_left', exists_eq])
      have := small M hM
      have e : oAdd (tupL M) (.tuple [.str x]) = some (tupL (M ++ [x])) := oAdd_tup (b := [x]) (by simp; omega)
      exact ⟨by omega, _, e, kk⟩
    rw [List.nil_append]
    refine ⟨_, oAdd_lst (by rw [List.length_map, List.length_map]; omega), ?_⟩
    refine nx _ ⟨acc ++ acc.map (· ++ [x]), .sh (.str x), ea, rfl, ?_⟩
    rw [List.map_append, List.map_map]
    rfl
  · rintro ρ ⟨acc, b2, ea, _, rfl⟩
    have ea : acc = partsL l := ea
    subst ea
    (simp only [TN.dCallO, TN.dCallOI, TN.dCallNO, TN.oVar, TN.sCut, TN.tgLst, TN.iK, TN.iV, TN.iLT, TN.pNew, TN.dCallN, TN.dCompI2, TN.dLAddE, TN.oD, TN.sDNew, TN.sPutD, TN.fGetO, TN.fGetO2, TN.fInO, TN.fNinO, TN.dVarD, TN.dExtS, TN.mOwn, TN.dCallM, TN.mVar, TN.sRetV, TN.dAug, TN.dCallNT, TN.dCallNL, TN.fIxTs, TN.sForI, TN.dCompI, TN.dCompL, TN.dCompT, TN.dCompR, TN.iL, TN.iT, TN.iR1, TN.iR2, TN.iR3, TN.iS, TN.iE, TN.iRv, TN.iZ, TN.dKeepT, TN.dCallT, TN.pTup, TN.pCons, TN.pOwn, TN.sAsgT, TN.sRetT, TN.tpL, TN.fIxT, TN.fTp, TN.dAppendT, TN.dReverseT, TN.dClearT, TN.dVarT, TN.dReverse, TN.dClear, TN.dPop, Pt.d, Sl.tp.injEq, TN.startF, TN.dCallV, Sl.fn.injEq, TN.dCallF, TN.dLRev, TN.dLAdd, TN.dLSlP, TN.dLSlice, TN.dSliceE, TN.dNo, TN.dEnd, TN.fNo, TN.sSeq, TN.sNext, TN.sDrop, TN.sRet, TN.sRetL, TN.sRetN, TN.sIf, TN.sAsg, TN.sAsgL, TN.sStore, TN.sForL, TN.sForT, TN.sForR, TN.sForR2, TN.tgN, TN.tgTup, TN.tgCons, TN.tgNil, TN.dP, TN.dB, TN.dCall, TN.dCallL, TN.dCallB, TN.dCallBL, TN.dCons, TN.dNil, TN.dTup, TN.dLst, TN.dKeep, TN.dVar, TN.fVar, TN.fPeek, TN.fC, TN.f2, TN.d2, TN.d2V, TN.f1, TN.d1, TN.fCB, TN.dCB, TN.dCBL, TN.fNil, TN.fCons, TN.asBool, TN.dTest, TN.bAnd, TN.bOr, TN.bNot, TN.dAnd, TN.dOr, TN.dNot, TN.fAndV, TN.fOrV, TN.fNotV, TN.dAndV, TN.dOrV, TN.dNotV, TN.dIfE, TN.dIfL, TN.fIfE, TN.fChain, TN.fSlice, TN.dSlice, TN.fNo, TN.fEnd, TN.dAppend, TN.dInsert, TN.dPopAt, TN.ownL, TN.start0, TN.begB, TN.backD, TN.wipeD, TN.dYes, TN.sNever, List.getElem?_cons_zero, List.getElem?_cons_succ, List.set_cons_zero, List.set_cons_succ, List.map_cons, List.map_nil, List.length_cons, List.length_nil, List.cons_append, List.nil_append, List.replicate_succ, List.replicate_zero, Option.map_some, Option.map_none, Nat.add_one_sub_one, Nat.sub_zero, Nat.sub_self, Nat.zero_add, reduceCtorEq, Option.some.injEq, PyData.int.injEq, PyData.str.injEq, PyData.bool.injEq, PyData.list.injEq, PyData.tuple.injEq, Sl.sh.injEq, Sl.ow.injEq, List.cons.injEq, exists_eq_left', exists_eq_left, true_implies, false_implies, and_true, true_and, forall_const, Option.isSome_some, TN.imp_ff, TN.imp_tf, TN.imp_tt, exists_eq_left, exists_eq_left', exists_eq])
    exact q

abbrev s__law_in_order : Stmt := topS 30
theorem sc__law_in_order : FnScope ["some", "line", "one"] ["some", "line"] (defScope s__law_in_order) := ⟨rfl, rfl, rfl, by decide +kernel, rfl, by decide +kernel, by decide +kernel⟩
theorem ok__law_in_order (b : Blt mg) {f : Addr} {fd : FuncData} (F : Fun K "_law_in_order" "_law_in_order" s__law_in_order f fd) : FnG P w K mg base CX0 1 f fd ["some", "line"] (sp0 K semInOrder) := by
  refine fn0 (k := 0) F sc__law_in_order (fun ds Q h => by obtain ⟨l, r, rfl, _⟩ := h; rfl) (fun cdv A outer s H E hg hr =>
    have nd := sc__law_in_order.nd
    have hu := hr.units
    have hu1 := hu_of hr
    (pss_one (ps_ret (pe_cmpR (op_eqD hu) (pe_lc (own := [("one", 2)]) (g := gName 2) rfl nd (pi_tup (pv 1)) (blkOk_by (own := [("one", 2)]) (N := ["some", "line", "one"]) (sc := defScope s__law_in_order) (by decide +kernel)) (fun _ _ _ _ _ => pg_name (i := 2) nd rfl (by first | exact Or.inl rfl | exact Or.inr rfl)) (fun _ _ _ _ _ => by exact (pts_one (pt_cmpR op_in_seq (pv 2) (pv 0) rfl))) (fun _ _ _ _ _ => by exact (pv 2))) (pe_callTy (call_listU rfl) (by rfl) b.list (by decide +kernel) (pa_cons (pv 0) pa_nil)) (nomark _)))))
    (ls_ret (le_op (LL.e (ll_compT (j := 2) (vs := [2]) (by decide) (by decide) (LP.e (lp_var (i := 1))) (LB.g (lb_test (LP.m (lp_op (LP.m (lp_var (i := 2))) (LP.m (lp_var (i := 0))) rb_in)))) (LP.e (lp_var (i := 2))))) (LP.e (lp_cb (lms_cons (LP.m (lp_var (i := 0))) lms_nil) (RCL.c rc_list))) rb_eq)) ?_
  rintro ds Q ⟨M, r, rfl, okm, okr, few, q⟩
  (simp only [TN.dCallO, TN.dCallOI, TN.dCallNO, TN.oVar, TN.sCut, TN.tgLst, TN.iK, TN.iV, TN.iLT, TN.pNew, TN.dCallN, TN.dCompI2, TN.dLAddE, TN.oD, TN.sDNew, TN.sPutD, TN.fGetO, TN.fGetO2, TN.fInO, TN.fNinO, TN.dVarD, TN.dExtS, TN.mOwn, TN.dCallM, TN.mVar, TN.sRetV, TN.dAug, TN.dCallNT, TN.dCallNL, TN.fIxTs, TN.sForI, TN.dCompI, TN.dCompL, TN.dCompT, TN.dCompR, TN.iL, TN.iT, TN.iR1, TN.iR2, TN.iR3, TN.iS, TN.iE, TN.iRv, TN.iZ, TN.dKeepT, TN.dCallT, TN.pTup, TN.pCons, TN.pOwn, TN.sAsgT, TN.sRetT, TN.tpL, TN.fIxT, TN.fTp, TN.dAppendT, TN.dReverseT, TN.dClearT, TN.dVarT, TN.dReverse, TN.dClear, TN.dPop, Pt.d, Sl.tp.injEq, TN.startF, TN.dCallV, Sl.fn.injEq, TN.dCallF, TN.dLRev, TN.dLAdd, TN.dLSlP, TN.dLSlice, TN.dSliceE, TN.dNo, TN.dEnd, TN.fNo, TN.sSeq, TN.sNext, TN.sDrop, TN.sRet, TN.sRetL, TN.sRetN, TN.sIf, TN.sAsg, TN.sAsgL, TN.sStore, TN.sForL, TN.sForT, TN.sForR, TN.sForR2, TN.tgN, TN.tgTup, TN.tgCons, TN.tgNil, TN.dP, TN.dB, TN.dCall, TN.dCallL, TN.dCallB, TN.dCallBL, TN.dCons, TN.dNil, TN.dTup, TN.dLst, TN.dKeep, TN.dVar, TN.fVar, TN.fPeek, TN.fC, TN.f2, TN.d2, TN.d2V, TN.f1, TN.d1, TN.fCB, TN.dCB, TN.dCBL, TN.fNil, TN.fCons, TN.asBool, TN.dTest, TN.bAnd, TN.bOr, TN.bNot, TN.dAnd, TN.dOr, TN.dNot, TN.fAndV, TN.fOrV, TN.fNotV, TN.dAndV, TN.dOrV, TN.dNotV, TN.dIfE, TN.dIfL, TN.fIfE, TN.fChain, TN.fSlice, TN.dSlice, TN.fNo, TN.fEnd, TN.dAppend, TN.dInsert, TN.dPopAt, TN.ownL, TN.start0, TN.begB, TN.backD, TN.wipeD, TN.dYes, TN.sNever, List.getElem?_cons_zero, List.getElem?_cons_succ, List.set_cons_zero, List.set_cons_succ, List.map_cons, List.map_nil, List.length_cons, List.length_nil, List.cons_append, List.nil_append, List.replicate_succ, List.replicate_zero, Option.map_some, Option.map_none, Nat.add_one_sub_one, Nat.sub_zero, Nat.sub_self, Nat.zero_add, reduceCtorEq, Option.some.injEq, PyData.int.injEq, PyData.str.injEq, PyData.bool.injEq, PyData.list.injEq, PyData.tuple.injEq, Sl.sh.injEq, Sl.ow.injEq, List.cons.injEq, exists_eq_left', exists_eq_left, true_implies, false_implies, and_true, true_and, forall_const, Option.isSome_some, TN.imp_ff, TN.imp_tf, TN.imp_tt, exists_eq_left, exists_eq_left', exists_eq])
  refine comp_fil PyData.str PyData.str (fun x => decide (x ∈ M)) (fun x => x ∈ r) rfl (fun _ => rfl) ?_ ?_ r [] (fun _ h => h) (by simp; omega) ?_
  · intro x R _ kk
    (simp only [TN.dCallO, TN.dCallOI, TN.dCallNO, TN.oVar, TN.sCut, TN.tgLst, TN.iK, TN.iV, TN.iLT, TN.pNew, TN.dCallN, TN.dCompI2, TN.dLAddE, TN.oD, TN.sDNew, TN.sPutD, TN.fGetO, TN.fGetO2, TN.fInO, TN.fNinO, TN.dVarD, TN.dExtS, TN.mOwn, TN.dCallM, TN.mVar, TN.sRetV, TN.dAug, TN.dCallNT, TN.dCallNL, TN.fIxTs, TN.sForI, TN.dCompI, TN.dCompL, TN.dCompT, TN.dCompR, TN.iL, TN.iT, TN.iR1, TN.iR2, TN.iR3, TN.iS, TN.iE, TN.iRv, TN.iZ, TN.dKeepT, TN.dCallT, TN.pTup, TN.pCons, TN.pOwn, TN.sAsgT, TN.sRetT, TN.tpL, TN.fIxT, TN.fTp, TN.dAppendT, TN.dReverseT, TN.dClearT, TN.dVarT, TN.dReverse, TN.dClear, TN.dPop, Pt.d, Sl.tp.injEq, TN.startF, TN.dCallV, Sl.fn.injEq, TN.dCallF, TN.dLRev, TN.dLAdd, TN.dLSlP, TN.dLSlice, TN.dSliceE, TN.dNo, TN.dEnd, TN.fNo, TN.sSeq, TN.sNext, TN.sDrop, TN.sRet, TN.sRetL, TN.sRetN, TN.sIf, TN.sAsg, TN.sAsgL, TN.sStore, TN.sForL, TN.sForT, TN.sForR, TN.sForR2, TN.tgN, TN.tgTup, TN.tgCons, TN.tgNil, TN.dP, TN.dB, TN.dCall, TN.dCallL, TN.dCallB, TN.dCallBL, TN.dCons, TN.dNil, TN.dTup, TN.dLst, TN.dKeep, TN.dVar, TN.fVar, TN.fPeek, TN.fC, TN.f2, TN.d2, TN.d2V, TN.f1, TN.d1, TN.fCB, TN.dCB, TN.dCBL, TN.fNil, TN.fCons, TN.asBool, TN.dTest, TN.bAnd, TN.bOr, TN.bNot, TN.dAnd, TN.dOr, TN.dNot, TN.fAndV, TN.fOrV, TN.fNotV, TN.dAndV, TN.dOrV, TN.dNotV, TN.dIfE, TN.dIfL, TN.fIfE, TN.fChain, TN.fSlice, TN.dSlice, TN.fNo, TN.fEnd, TN.dAppend, TN.dInsert, TN.dPopAt, TN.ownL, TN.start0, TN.begB, TN.backD, TN.wipeD, TN.dYes, TN.sNever, List.getElem?_cons_zero, List.getElem?_cons_succ, List.set_cons_zero, List.set_cons_succ, List.map_cons, List.map_nil, List.length_cons, List.length_nil, List.cons_append, List.nil_append, List.replicate_succ, List.replicate_zero, Option.map_some, Option.map_none, Nat.add_one_sub_one, Nat.sub_zero, Nat.sub_self, Nat.zero_add, reduceCtorEq, Option.some.injEq, PyData.int.injEq, PyData.str.injEq, PyData.bool.injEq, PyData.list.injEq, PyData.tuple.injEq, Sl.sh.injEq, Sl.ow.injEq, List.cons.injEq, exists_eq_left', exists_eq_left, true_implies, false_implies, and_true, true_and, forall_const, Option.isSome_some, TN.imp_ff, TN.imp_tf, TN.imp_tt, exists_eq_left, exists_eq_left', exists_eq])
    rw [oIn_tupF]
    exact ⟨_, rfl, kk⟩
  · intro x R _ kk
    (simp only [TN.dCallO, TN.dCallOI, TN.dCallNO, TN.oVar, TN.sCut, TN.tgLst, TN.iK, TN.iV, TN.iLT, TN.pNew, TN.dCallN, TN.dCompI2, TN.dLAddE, TN.oD, TN.sDNew, TN.sPutD, TN.fGetO, TN.fGetO2, TN.fInO, TN.fNinO, TN.dVarD, TN.dExtS, TN.mOwn, TN.dCallM, TN.mVar, TN.sRetV, TN.dAug, TN.dCallNT, TN.dCallNL, TN.fIxTs, TN.sForI, TN.dCompI, TN.dCompL, TN.dCompT, TN.dCompR, TN.iL, TN.iT, TN.iR1, TN.iR2, TN.iR3, TN.iS, TN.iE, TN.iRv, TN.iZ, TN.dKeepT, TN.dCallT, TN.pTup, TN.pCons, TN.pOwn, TN.sAsgT, TN.sRetT, TN.tpL, TN.fIxT, TN.fTp, TN.dAppendT, TN.dReverseT, TN.dClearT, TN.dVarT, TN.dReverse, TN.dClear, TN.dPop, Pt.d, Sl.tp.injEq, TN.startF, TN.dCallV, Sl.fn.injEq, TN.dCallF, TN.dLRev, TN.dLAdd, TN.dLSlP, TN.dLSlice, TN.dSliceE, TN.dNo, TN.dEnd, TN.fNo, TN.sSeq, TN.sNext, TN.sDrop, TN.sRet, TN.sRetL, TN.sRetN, TN.sIf, TN.sAsg, TN.sAsgL, TN.sStore, TN.sForL, TN.sForT, TN.sForR, TN.sForR2, TN.tgN, TN.tgTup, TN.tgCons, TN.tgNil, TN.dP, TN.dB, TN.dCall, TN.dCallL, TN.dCallB, TN.dCallBL, TN.dCons, TN.dNil, TN.dTup, TN.dLst, TN.dKeep, TN.dVar, TN.fVar, TN.fPeek, TN.fC, TN.f2, TN.d2, TN.d2V, TN.f1, TN.d1, TN.fCB, TN.dCB, TN.dCBL, TN.fNil, TN.fCons, TN.asBool, TN.dTest, TN.bAnd, TN.bOr, TN.bNot, TN.dAnd, TN.dOr, TN.dNot, TN.fAndV, TN.fOrV, TN.fNotV, TN.dAndV, TN.dOrV, TN.dNotV, TN.dIfE, TN.dIfL, TN.fIfE, TN.fChain, TN.fSlice, TN.dSlice, TN.fNo, TN.fEnd, TN.dAppend, TN.dInsert, TN.dPopAt, TN.ownL, TN.start0, TN.begB, TN.backD, TN.wipeD, TN.dYes, TN.sNever, List.getElem?_cons_zero, List.getElem?_cons_succ, List.set_cons_zero, List.set_cons_succ, List.map_cons, List.map_nil, List.length_cons, List.length_nil, List.cons_append, List.nil_append, List.replicate_succ, List.replicate_zero, Option.map_some, Option.map_none, Nat.add_one_sub_one, Nat.sub_zero, Nat.sub_self, Nat.zero_add, reduceCtorEq, Option.some.injEq, PyData.int.injEq, PyData.str.injEq, PyData.bool.injEq, PyData.list.injEq, PyData.tuple.injEq, Sl.sh.injEq, Sl.ow.injEq, List.cons.injEq, exists_eq_left', exists_eq_left, true_implies, false_implies, and_true, true_and, forall_const, Option.isSome_some, TN.imp_ff, TN.imp_tf, TN.imp_tt, exists_eq_left, exists_eq_left', exists_eq])
    exact kk
  rw [List.nil_append]
  have e : oEq (lstL (r.filter fun x => decide (x ∈ M))) (lstL M) = some (.bool (decide ((r.filter fun x => decide (x ∈ M)) = M))) := by
    rw [oEq_is (fine_lstL fun x hx => okr x (List.mem_filter.mp hx).1) (fine_lstL okm)]
    congr 2
    exact decide_eq_decide.mpr (by rw [PyData.list.injEq, map_str_inj])
  exact ⟨lstL M, rfl, _, e, q⟩

abbrev s__law_folk : Stmt := topS 31
theorem sc__law_folk : FnScope ["bag", "most", "line", "k"] ["bag", "most"] (defScope s__law_folk) := ⟨rfl, rfl, rfl, by decide +kernel, rfl, by decide +kernel, by decide +kernel⟩
theorem ok__law_folk (b : Blt mg) (h__law_line : Has P w K mg base "_law_line" 3 ["bag", "many"] (spB K semLine)) (h__law_take : Has P w K mg base "_law_take" 1 ["bag", "size"] (spB K semWind)) (h__law_heard : Has P w K mg base "_law_heard" 3 ["bag", "line"] (spB K semHear)) {f : Addr} {fd : FuncData} (F : Fun K "_law_folk" "_law_folk" s__law_folk f fd) : FnG P w K mg base CX0 4 f fd ["bag", "most"] (spB K semFolk) := by
  refine fnB (k := 3) F sc__law_folk (fun xs ds Q h => by obtain ⟨n, m, _, _, rfl, _⟩ := h; rfl) (fun cdv A outer s H E hg hr =>
    have nd := sc__law_folk.nd
    have hu := hr.units
    have hu1 := hu_of hr
    (pss_cons (ps_set (i := 2) nd rfl (by first | exact Or.inl rfl | exact Or.inr rfl) (pe_has (h__law_line.up (by decide)) hg hr (by rfl) (pa_cons (pv 0) (pa_cons (pe_op op_addU pe_int (pe_has (h__law_take.up (by decide)) hg hr (by rfl) (pa_cons (pv 0) (pa_cons (pv 1) pa_nil)))) pa_nil))))
 (pss_one (ps_ret (pe_tupX (pa_cons (pv 2) (pa_cons (pe_lc (own := [("k", 3)]) (g := gName 3) (tt := tYes) rfl nd (pi_range1 (by rfl) b.range (pa_cons (pe_op op_addU pe_int (pe_has (h__law_take.up (by decide)) hg hr (by rfl) (pa_cons (pv 0) (pa_cons pe_int pa_nil)))) pa_nil)) (blkOk_by (own := [("k", 3)]) (N := ["bag", "most", "line", "k"]) (sc := defScope s__law_folk) (by decide +kernel)) (fun _ _ _ _ _ => pg_name (i := 3) nd rfl (by first | exact Or.inl rfl | exact Or.inr rfl)) (fun _ _ _ _ _ => by exact pts_nil) (fun _ _ _ _ _ => by exact (pe_has (h__law_heard.up (by decide)) hg hr (by rfl) (pa_cons (pv 0) (pa_cons (pv 2) pa_nil))))) pa_nil)))))))
    (ls_seq (ls_asg (le_callB (j := 0) (les_cons (le_op (LP.e lp_int) (le_callB (j := 0) (les_cons (LP.e (lp_var (i := 1))) les_nil)) rb_add) les_nil)) (lg_name (i := 2) (by decide)))
 (ls_ret (le_tup (les_cons (LP.e (lp_var (i := 2))) (les_cons (LL.e (ll_compR (j := 3) (vs := [3]) (by decide) (by decide) (les_cons (le_op (LP.e lp_int) (le_callB (j := 0) (les_cons (LP.e lp_int) les_nil)) rb_add) les_nil) lt_yes (le_callB (j := 0) (les_cons (LP.e (lp_var (i := 2))) les_nil)))) les_nil))))) ?_
  rintro xs ds Q ⟨n, m, sp, hn, rfl, m1, m2, q⟩
  have hb : n + 5000 ≤ 1000000000000 := hn
  (simp only [TN.dCallO, TN.dCallOI, TN.dCallNO, TN.oVar, TN.sCut, TN.tgLst, TN.iK, TN.iV, TN.iLT, TN.pNew, TN.dCallN, TN.dCompI2, TN.dLAddE, TN.oD, TN.sDNew, TN.sPutD, TN.fGetO, TN.fGetO2, TN.fInO, TN.fNinO, TN.dVarD, TN.dExtS, TN.mOwn, TN.dCallM, TN.mVar, TN.sRetV, TN.dAug, TN.dCallNT, TN.dCallNL, TN.fIxTs, TN.sForI, TN.dCompI, TN.dCompL, TN.dCompT, TN.dCompR, TN.iL, TN.iT, TN.iR1, TN.iR2, TN.iR3, TN.iS, TN.iE, TN.iRv, TN.iZ, TN.dKeepT, TN.dCallT, TN.pTup, TN.pCons, TN.pOwn, TN.sAsgT, TN.sRetT, TN.tpL, TN.fIxT, TN.fTp, TN.dAppendT, TN.dReverseT, TN.dClearT, TN.dVarT, TN.dReverse, TN.dClear, TN.dPop, Pt.d, Sl.tp.injEq, TN.startF, TN.dCallV, Sl.fn.injEq, TN.dCallF, TN.dLRev, TN.dLAdd, TN.dLSlP, TN.dLSlice, TN.dSliceE, TN.dNo, TN.dEnd, TN.fNo, TN.sSeq, TN.sNext, TN.sDrop, TN.sRet, TN.sRetL, TN.sRetN, TN.sIf, TN.sAsg, TN.sAsgL, TN.sStore, TN.sForL, TN.sForT, TN.sForR, TN.sForR2, TN.tgN, TN.tgTup, TN.tgCons, TN.tgNil, TN.dP, TN.dB, TN.dCall, TN.dCallL, TN.dCallB, TN.dCallBL, TN.dCons, TN.dNil, TN.dTup, TN.dLst, TN.dKeep, TN.dVar, TN.fVar, TN.fPeek, TN.fC, TN.f2, TN.d2, TN.d2V, TN.f1, TN.d1, TN.fCB, TN.dCB, TN.dCBL, TN.fNil, TN.fCons, TN.asBool, TN.dTest, TN.bAnd, TN.bOr, TN.bNot, TN.dAnd, TN.dOr, TN.dNot, TN.fAndV, TN.fOrV, TN.fNotV, TN.dAndV, TN.dOrV, TN.dNotV, TN.dIfE, TN.dIfL, TN.fIfE, TN.fChain, TN.fSlice, TN.dSlice, TN.fNo, TN.fEnd, TN.dAppend, TN.dInsert, TN.dPopAt, TN.ownL, TN.start0, TN.begB, TN.backD, TN.wipeD, TN.dYes, TN.sNever, List.getElem?_cons_zero, List.getElem?_cons_succ, List.set_cons_zero, List.set_cons_succ, List.map_cons, List.map_nil, List.length_cons, List.length_nil, List.cons_append, List.nil_append, List.replicate_succ, List.replicate_zero, Option.map_some, Option.map_none, Nat.add_one_sub_one, Nat.sub_zero, Nat.sub_self, Nat.zero_add, reduceCtorEq, Option.some.injEq, PyData.int.injEq, PyData.str.injEq, PyData.bool.injEq, PyData.list.injEq, PyData.tuple.injEq, Sl.sh.injEq, Sl.ow.injEq, List.cons.injEq, exists_eq_left', exists_eq_left, true_implies, false_implies, and_true, true_and, forall_const, Option.isSome_some, TN.imp_ff, TN.imp_tf, TN.imp_tt, exists_eq_left, exists_eq_left', exists_eq])
  refine windN sp (by show n ≤ (1000000000000 : Int); omega) (by omega) (by omega) fun k ys hk sp1 => ⟨_, rfl, _, rfl, ?_⟩
  refine ⟨n + 1, 1 + (k : Int), sp1, by show n + 1 + 200 ≤ (1000000000000 : Int); omega, rfl, by omega, by omega, fun r ys2 gr rl sp2 => ⟨_, rfl, ?_⟩⟩
  refine windN sp2 (by show _ ≤ (1000000000000 : Int); omega) (by omega) (by omega) fun j ys3 hj sp3 => ⟨_, rfl, _, rfl, _, rfl, by omega, by omega, ?_⟩
  have er : rangeD 0 (1 + (j : Int)).toNat = (List.range (1 + j)).map fun (k : Nat) => PyData.int k := by
    rw [show (1 + (j : Int)).toNat = ((1 + j : Nat) : Int).toNat by omega, rangeD_nat]
  rw [er]
  refine compD_go (fun (k : Nat) => PyData.int k) (fun ls acc ρ => ∃ (hs : List (List Str)) (zs : List D), hs.length + ls.length = 1 + j ∧ acc = hs.map tupL ∧ (∀ h ∈ hs, GPair r h) ∧ Spl (n + 202 + 500 * hs.length) zs ∧ ρ = [.ow zs, .sh (.int m), .sh (tupL r), .no]) ?_ ?_ _ _ _ ⟨[], ys3, by simp, rfl, fun _ h => (by cases h), sp3.up (by simp; omega), rfl⟩
  · rintro x ls acc ρ K ⟨hs, zs, el, rfl, all, spz, rfl⟩ nx
    rw [List.length_cons] at el
    refine ⟨rfl, ?_⟩
    (simp only [TN.dCallO, TN.dCallOI, TN.dCallNO, TN.oVar, TN.sCut, TN.tgLst, TN.iK, TN.iV, TN.iLT, TN.pNew, TN.dCallN, TN.dCompI2, TN.dLAddE, TN.oD, TN.sDNew, TN.sPutD, TN.fGetO, TN.fGetO2, TN.fInO, TN.fNinO, TN.dVarD, TN.dExtS, TN.mOwn, TN.dCallM, TN.mVar, TN.sRetV, TN.dAug, TN.dCallNT, TN.dCallNL, TN.fIxTs, TN.sForI, TN.dCompI, TN.dCompL, TN.dCompT, TN.dCompR, TN.iL, TN.iT, TN.iR1, TN.iR2, TN.iR3, TN.iS, TN.iE, TN.iRv, TN.iZ, TN.dKeepT, TN.dCallT, TN.pTup, TN.pCons, TN.pOwn, TN.sAsgT, TN.sRetT, TN.tpL, TN.fIxT, TN.fTp, TN.dAppendT, TN.dReverseT, TN.dClearT, TN.dVarT, TN.dReverse, TN.dClear, TN.dPop, Pt.d, Sl.tp.injEq, TN.startF, TN.dCallV, Sl.fn.injEq, TN.dCallF, TN.dLRev, TN.dLAdd, TN.dLSlP, TN.dLSlice, TN.dSliceE, TN.dNo, TN.dEnd, TN.fNo, TN.sSeq, TN.sNext, TN.sDrop, TN.sRet, TN.sRetL, TN.sRetN, TN.sIf, TN.sAsg, TN.sAsgL, TN.sStore, TN.sForL, TN.sForT, TN.sForR, TN.sForR2, TN.tgN, TN.tgTup, TN.tgCons, TN.tgNil, TN.dP, TN.dB, TN.dCall, TN.dCallL, TN.dCallB, TN.dCallBL, TN.dCons, TN.dNil, TN.dTup, TN.dLst, TN.dKeep, TN.dVar, TN.fVar, TN.fPeek, TN.fC, TN.f2, TN.d2, TN.d2V, TN.f1, TN.d1, TN.fCB, TN.dCB, TN.dCBL, TN.fNil, TN.fCons, TN.asBool, TN.dTest, TN.bAnd, TN.bOr, TN.bNot, TN.dAnd, TN.dOr, TN.dNot, TN.fAndV, TN.fOrV, TN.fNotV, TN.dAndV, TN.dOrV, TN.dNotV, TN.dIfE, TN.dIfL, TN.fIfE, TN.fChain, TN.fSlice, TN.dSlice, TN.fNo, TN.fEnd, TN.dAppend, TN.dInsert, TN.dPopAt, TN.ownL, TN.start0, TN.begB, TN.backD, TN.wipeD, TN.dYes, TN.sNever, List.getElem?_cons_zero, List.getElem?_cons_succ, List.set_cons_zero, List.set_cons_succ, List.map_cons, List.map_nil, List.length_cons, List.length_nil, List.cons_append, List.nil_append, List.replicate_succ, List.replicate_zero, Option.map_some, Option.map_none, Nat.add_one_sub_one, Nat.sub_zero, Nat.sub_self, Nat.zero_add, reduceCtorEq, Option.some.injEq, PyData.int.injEq, PyData.str.injEq, PyData.bool.injEq, PyData.list.injEq, PyData.tuple.injEq, Sl.sh.injEq, Sl.ow.injEq, List.cons.injEq, exists_eq_left', exists_eq_left, true_implies, false_implies, and_true, true_and, forall_const, Option.isSome_some, TN.imp_ff, TN.imp_tf, TN.imp_tt, exists_eq_left, exists_eq_left', exists_eq])
    refine ⟨_, r, spz, by show _ ≤ (1000000000000 : Int); omega, rfl, gr, fun h zs2 ph sp4 => ⟨_, rfl, by rw [List.length_map]; omega, ?_⟩⟩
    refine nx _ _ ⟨hs ++ [h], zs2, by rw [List.length_append, List.length_singleton]; omega, by rw [List.map_append]; rfl, fun g hg => ?_, sp4.up (by rw [List.length_append, List.length_singleton]; omega), rfl⟩
    rcases List.mem_append.mp hg with hg | hg
    · exact all g hg
    · rw [List.mem_singleton] at hg
      subst hg
      exact ⟨gr, gr.perm ph, ph.symm⟩
  · rintro acc ρ ⟨hs, zs, el, rfl, all, spz, rfl⟩
    rw [List.length_nil] at el
    (simp only [TN.dCallO, TN.dCallOI, TN.dCallNO, TN.oVar, TN.sCut, TN.tgLst, TN.iK, TN.iV, TN.iLT, TN.pNew, TN.dCallN, TN.dCompI2, TN.dLAddE, TN.oD, TN.sDNew, TN.sPutD, TN.fGetO, TN.fGetO2, TN.fInO, TN.fNinO, TN.dVarD, TN.dExtS, TN.mOwn, TN.dCallM, TN.mVar, TN.sRetV, TN.dAug, TN.dCallNT, TN.dCallNL, TN.fIxTs, TN.sForI, TN.dCompI, TN.dCompL, TN.dCompT, TN.dCompR, TN.iL, TN.iT, TN.iR1, TN.iR2, TN.iR3, TN.iS, TN.iE, TN.iRv, TN.iZ, TN.dKeepT, TN.dCallT, TN.pTup, TN.pCons, TN.pOwn, TN.sAsgT, TN.sRetT, TN.tpL, TN.fIxT, TN.fTp, TN.dAppendT, TN.dReverseT, TN.dClearT, TN.dVarT, TN.dReverse, TN.dClear, TN.dPop, Pt.d, Sl.tp.injEq, TN.startF, TN.dCallV, Sl.fn.injEq, TN.dCallF, TN.dLRev, TN.dLAdd, TN.dLSlP, TN.dLSlice, TN.dSliceE, TN.dNo, TN.dEnd, TN.fNo, TN.sSeq, TN.sNext, TN.sDrop, TN.sRet, TN.sRetL, TN.sRetN, TN.sIf, TN.sAsg, TN.sAsgL, TN.sStore, TN.sForL, TN.sForT, TN.sForR, TN.sForR2, TN.tgN, TN.tgTup, TN.tgCons, TN.tgNil, TN.dP, TN.dB, TN.dCall, TN.dCallL, TN.dCallB, TN.dCallBL, TN.dCons, TN.dNil, TN.dTup, TN.dLst, TN.dKeep, TN.dVar, TN.fVar, TN.fPeek, TN.fC, TN.f2, TN.d2, TN.d2V, TN.f1, TN.d1, TN.fCB, TN.dCB, TN.dCBL, TN.fNil, TN.fCons, TN.asBool, TN.dTest, TN.bAnd, TN.bOr, TN.bNot, TN.dAnd, TN.dOr, TN.dNot, TN.fAndV, TN.fOrV, TN.fNotV, TN.dAndV, TN.dOrV, TN.dNotV, TN.dIfE, TN.dIfL, TN.fIfE, TN.fChain, TN.fSlice, TN.dSlice, TN.fNo, TN.fEnd, TN.dAppend, TN.dInsert, TN.dPopAt, TN.ownL, TN.start0, TN.begB, TN.backD, TN.wipeD, TN.dYes, TN.sNever, List.getElem?_cons_zero, List.getElem?_cons_succ, List.set_cons_zero, List.set_cons_succ, List.map_cons, List.map_nil, List.length_cons, List.length_nil, List.cons_append, List.nil_append, List.replicate_succ, List.replicate_zero, Option.map_some, Option.map_none, Nat.add_one_sub_one, Nat.sub_zero, Nat.sub_self, Nat.zero_add, reduceCtorEq, Option.some.injEq, PyData.int.injEq, PyData.str.injEq, PyData.bool.injEq, PyData.list.injEq, PyData.tuple.injEq, Sl.sh.injEq, Sl.ow.injEq, List.cons.injEq, exists_eq_left', exists_eq_left, true_implies, false_implies, and_true, true_and, forall_const, Option.isSome_some, TN.imp_ff, TN.imp_tf, TN.imp_tt, exists_eq_left, exists_eq_left', exists_eq])
    exact ⟨by omega, q r hs zs ⟨gr, fun z => by rw [z] at el; simp at el; omega, by omega, all⟩ (by omega) (spz.up (by omega))⟩

abbrev s__law_small_right : Stmt := topS 32
theorem sc__law_small_right : FnScope ["bag", "kept", "some", "most", "stays", "due", "told", "line", "folk", "part", "one"] ["bag"] (defScope s__law_small_right) := ⟨rfl, rfl, rfl, by decide +kernel, rfl, by decide +kernel, by decide +kernel⟩
theorem ok__law_small_right (b : Blt mg) (h__law_folk : Has P w K mg base "_law_folk" 4 ["bag", "most"] (spB K semFolk)) (h__law_all_parts : Has P w K mg base "_law_all_parts" 1 ["line"] (sp0 K semParts)) (h__law_in_order : Has P w K mg base "_law_in_order" 1 ["some", "line"] (sp0 K semInOrder)) (h_all_alone : Has P w K mg base "all_alone" 6 ["row", "hearers"] (sp0 K semAllAlone)) (h__law_alike : Has P w K mg base "_law_alike" 5 ["found", "due"] (sp0 K (semAlike 5))) (h_all_alone__hearers_row : HasK P w K mg base "all_alone" 6 ["row", "hearers"] ["hearers", "row"] [1, 0] (sp0 K semAllAlone)) {f : Addr} {fd : FuncData} (F : Fun K "_law_small_right" "_law_small_right" s__law_small_right f fd) : FnG P w K mg base CX0 7 f fd ["bag"] (spB K semSmall42) := by
  refine fnB (k := 6) F sc__law_small_right (fun xs ds Q h => by obtain ⟨n, _, _, rfl, _⟩ := h; rfl) (fun cdv A outer s H E hg hr =>
    have nd := sc__law_small_right.nd
    have hu := hr.units
    have hu1 := hu_of hr
    (pss_cons (ps_asg (pe_has (h__law_folk.up (by decide)) hg hr (by rfl) (pa_cons (pv 0) (pa_cons pe_int pa_nil))) (pg_tup (n := 2) rfl (pgs_cons (pg_name (i := 7) nd rfl (by first | exact Or.inl rfl | exact Or.inr rfl)) (pgs_cons (pg_name (i := 8) nd rfl (by first | exact Or.inl rfl | exact Or.inr rfl)) pgs_nil))))
 (pss_cons (ps_set (i := 1) nd rfl (by first | exact Or.inl rfl | exact Or.inr rfl) (pe_callTy (call_listU rfl) (by rfl) b.list (by decide +kernel) (pa_cons (pv 8) pa_nil)))
 (pss_cons (ps_setLc (i := 2) (own := [("part", 9)]) (g := gName 9) rfl nd rfl rfl (sw_true rfl rfl rfl (by decide +kernel)) (pi_list (pe_has (h__law_all_parts.up (by decide)) hg hr (by rfl) (pa_cons (pv 7) pa_nil))) (blkOk_by (own := [("part", 9)]) (N := ["bag", "kept", "some", "most", "stays", "due", "told", "line", "folk", "part", "one"]) (sc := defScope s__law_small_right) (by decide +kernel)) (fun _ _ _ _ _ => pg_name (i := 9) nd rfl (by first | exact Or.inl rfl | exact Or.inr rfl)) (fun _ _ _ _ _ => by exact (pts_one (pt_cmpR (op_eqD hu) (pe_lc (own := [("one", 10)]) (g := gName 10) rfl nd (pi_list (pv 8)) (blkOk_by (own := [("one", 10)]) (N := ["bag", "kept", "some", "most", "stays", "due", "told", "line", "folk", "part", "one"]) (by kernel_rfl)) (fun _ _ _ _ _ => pg_name (i := 10) nd rfl (by first | exact Or.inl rfl | exact Or.inr rfl)) (fun _ _ _ _ _ => by exact (pts_one (pt_not (pt_val (pe_has (h__law_in_order.up (by decide)) hg hr (by rfl) (pa_cons (pv 9) (pa_cons (pv 10) pa_nil))))))) (fun _ _ _ _ _ => by exact (pv 10))) (pe_lst pa_nil) (nomark _)))) (fun _ _ _ _ _ => by exact (pv 9)))
 (pss_cons (ps_set (i := 3) nd rfl (by first | exact Or.inl rfl | exact Or.inr rfl) (pe_callB (cr_max rfl) (by rfl) b.max (by decide +kernel) (pa_cons (pe_lc (own := [("part", 9)]) (g := gName 9) (tt := tYes) rfl nd (pi_list (pv 2)) (blkOk_by (own := [("part", 9)]) (N := ["bag", "kept", "some", "most", "stays", "due", "told", "line", "folk", "part", "one"]) (sc := defScope s__law_small_right) (by decide +kernel)) (fun _ _ _ _ _ => pg_name (i := 9) nd rfl (by first | exact Or.inl rfl | exact Or.inr rfl)) (fun _ _ _ _ _ => by exact pts_nil) (fun _ _ _ _ _ => by exact (pe_callB call_len (by rfl) b.len (by decide +kernel) (pa_cons (pv 9) pa_nil)))) pa_nil)))
 (pss_cons (ps_set (i := 4) nd rfl (by first | exact Or.inl rfl | exact Or.inr rfl) (pe_callB (cr_minTx rfl (units_in hr)) (by rfl) b.min (by decide +kernel) (pa_cons (pe_lc (own := [("part", 9)]) (g := gName 9) rfl nd (pi_list (pv 2)) (blkOk_by (own := [("part", 9)]) (N := ["bag", "kept", "some", "most", "stays", "due", "told", "line", "folk", "part", "one"]) (sc := defScope s__law_small_right) (by decide +kernel)) (fun _ _ _ _ _ => pg_name (i := 9) nd rfl (by first | exact Or.inl rfl | exact Or.inr rfl)) (fun _ _ _ _ _ => by exact (pts_one (pt_cmpR (op_eqD hu) (pe_callB call_len (by rfl) b.len (by decide +kernel) (pa_cons (pv 9) pa_nil)) (pv 3) (nomark _)))) (fun _ _ _ _ _ => by exact (pv 9))) pa_nil)))
 (pss_cons (ps_set (i := 5) nd rfl (by first | exact Or.inl rfl | exact Or.inr rfl) (pe_callB call_sortedA (by rfl) b.sorted (by decide +kernel) (pa_cons (pe_lc (own := [("one", 10)]) (g := gName 10) rfl nd (pi_tup (pv 7)) (blkOk_by (own := [("one", 10)]) (N := ["bag", "kept", "some", "most", "stays", "due", "told", "line", "folk", "part", "one"]) (sc := defScope s__law_small_right) (by decide +kernel)) (fun _ _ _ _ _ => pg_name (i := 10) nd rfl (by first | exact Or.inl rfl | exact Or.inr rfl)) (fun _ _ _ _ _ => by exact (pts_one (pt_cmpR op_notIn_seq (pv 10) (pv 4) rfl))) (fun _ _ _ _ _ => by exact (pv 10))) pa_nil)))
 (pss_cons (ps_set (i := 6) nd rfl (by first | exact Or.inl rfl | exact Or.inr rfl) (pe_has (h_all_alone.up (by decide)) hg hr (by rfl) (pa_cons (pv 7) (pa_cons (pv 8) pa_nil))))
 (pss_cons (ps_if (pt_not (pt_val (pe_has (h__law_alike.up (by decide)) hg hr (by rfl) (pa_cons (pv 6) (pa_cons (pv 5) pa_nil))))) (pss_one (ps_ret pe_bl)) pss_nil)
 (pss_cons (ps_expr (by exact (pe_bm PySem.F.plainAttrs_list PySem.F.slot_list_append PySem.F.type_list_append mt_append (pv 6) (pa_cons pe_str pa_nil))))
 (pss_one (ps_ret (pe_and (pe_has (h__law_alike.up (by decide)) hg hr (by rfl) (pa_cons (pe_hasK (h_all_alone__hearers_row.up (by decide)) hg hr (by rfl) (pk_cons (pv 8) (pk_cons (pv 7) pk_nil))) (pa_cons (pv 5) pa_nil))) (pe_one (pe_cmpR (op_eqD hu) (pv 8) (pv 1) (nomark _))))))))))))))))
    (ls_seq (ls_asg (le_callB (j := 0) (les_cons (LP.e lp_int) les_nil)) (lg_tup (lgs_cons (lg_name (i := 7) (by decide)) (lgs_cons (lg_name (i := 8) (by decide)) lgs_nil))))
 (ls_seq (ls_asg (LP.e (lp_cb (lms_cons (LP.m (lp_var (i := 8))) lms_nil) (RCL.c rc_list))) (lg_name (i := 1) (by decide)))
 (ls_seq (ls_asg (LL.e (ll_compL (j := 9) (vs := [9]) (by decide) (by decide) (le_call (les_cons (LP.e (lp_var (i := 7))) les_nil)) (lt_test (le_op (LL.e (ll_compL (j := 10) (vs := [10]) (by decide) (by decide) (LP.e (lp_var (i := 8))) (lt_not (lt_B (le_call (les_cons (LP.e (lp_var (i := 9))) (les_cons (LP.e (lp_var (i := 10))) les_nil))))) (LP.e (lp_var (i := 10))))) (LL.e (ll_lst les_nil)) rb_eq)) (LP.e (lp_var (i := 9))))) (lg_name (i := 2) (by decide)))
 (ls_seq (ls_asg (le_cb (les_cons (LL.e (ll_compL (j := 9) (vs := [9]) (by decide) (by decide) (LP.e (lp_var (i := 2))) lt_yes (LP.e (lp_cb (lms_cons (LP.m (lp_var (i := 9))) lms_nil) rc_len)))) les_nil) rc_maxI) (lg_name (i := 3) (by decide)))
 (ls_seq (ls_asg (le_cb (les_cons (LL.e (ll_compL (j := 9) (vs := [9]) (by decide) (by decide) (LP.e (lp_var (i := 2))) (LB.g (lb_test (LP.m (lp_op (LP.m (lp_cb (lms_cons (LP.m (lp_var (i := 9))) lms_nil) rc_len)) (LP.m (lp_var (i := 3))) rb_eq)))) (LP.e (lp_var (i := 9))))) les_nil) rc_minTx) (lg_name (i := 4) (by decide)))
 (ls_seq (ls_asg (LL.e (ll_cb (les_cons (LL.e (ll_compT (j := 10) (vs := [10]) (by decide) (by decide) (LP.e (lp_var (i := 7))) (LB.g (lb_test (LP.m (lp_op (LP.m (lp_var (i := 10))) (LP.m (lp_var (i := 4))) rb_in)))) (LP.e (lp_var (i := 10))))) les_nil) rc_sorted)) (lg_name (i := 5) (by decide)))
 (ls_seq (ls_asgL (i := 6) (by decide) (ll_call (les_cons (LP.e (lp_var (i := 7))) (les_cons (LP.e (lp_var (i := 8))) les_nil))))
 (ls_seq (ls_if (lt_not (lt_B (le_callM (lesm_var (j := 6) (lesm_cons (LP.e (lp_var (i := 5))) lesm_nil))))) (ls_ret (LP.e lp_bl)) ls_next)
 (ls_seq (ls_drop (le_append (j := 6) (LP.e lp_str)))
 (ls_ret (le_andV (le_call (les_cons (LL.e (ll_callN (les_cons (LP.e (lp_var (i := 8))) (les_cons (LP.e (lp_var (i := 7))) les_nil)))) (les_cons (LP.e (lp_var (i := 5))) les_nil))) (LP.e (lp_op (LP.m (lp_var (i := 8))) (LP.m (lp_var (i := 1))) rb_eq))))))))))))) ?_
  rintro xs ds Q ⟨n, sp, hn, rfl, q⟩
  have hb : n + 5000 ≤ 1000000000000 := hn
  (simp only [TN.dCallO, TN.dCallOI, TN.dCallNO, TN.oVar, TN.sCut, TN.tgLst, TN.iK, TN.iV, TN.iLT, TN.pNew, TN.dCallN, TN.dCompI2, TN.dLAddE, TN.oD, TN.sDNew, TN.sPutD, TN.fGetO, TN.fGetO2, TN.fInO, TN.fNinO, TN.dVarD, TN.dExtS, TN.mOwn, TN.dCallM, TN.mVar, TN.sRetV, TN.dAug, TN.dCallNT, TN.dCallNL, TN.fIxTs, TN.sForI, TN.dCompI, TN.dCompL, TN.dCompT, TN.dCompR, TN.iL, TN.iT, TN.iR1, TN.iR2, TN.iR3, TN.iS, TN.iE, TN.iRv, TN.iZ, TN.dKeepT, TN.dCallT, TN.pTup, TN.pCons, TN.pOwn, TN.sAsgT, TN.sRetT, TN.tpL, TN.fIxT, TN.fTp, TN.dAppendT, TN.dReverseT, TN.dClearT, TN.dVarT, TN.dReverse, TN.dClear, TN.dPop, Pt.d, Sl.tp.injEq, TN.startF, TN.dCallV, Sl.fn.injEq, TN.dCallF, TN.dLRev, TN.dLAdd, TN.dLSlP, TN.dLSlice, TN.dSliceE, TN.dNo, TN.dEnd, TN.fNo, TN.sSeq, TN.sNext, TN.sDrop, TN.sRet, TN.sRetL, TN.sRetN, TN.sIf, TN.sAsg, TN.sAsgL, TN.sStore, TN.sForL, TN.sForT, TN.sForR, TN.sForR2, TN.tgN, TN.tgTup, TN.tgCons, TN.tgNil, TN.dP, TN.dB, TN.dCall, TN.dCallL, TN.dCallB, TN.dCallBL, TN.dCons, TN.dNil, TN.dTup, TN.dLst, TN.dKeep, TN.dVar, TN.fVar, TN.fPeek, TN.fC, TN.f2, TN.d2, TN.d2V, TN.f1, TN.d1, TN.fCB, TN.dCB, TN.dCBL, TN.fNil, TN.fCons, TN.asBool, TN.dTest, TN.bAnd, TN.bOr, TN.bNot, TN.dAnd, TN.dOr, TN.dNot, TN.fAndV, TN.fOrV, TN.fNotV, TN.dAndV, TN.dOrV, TN.dNotV, TN.dIfE, TN.dIfL, TN.fIfE, TN.fChain, TN.fSlice, TN.dSlice, TN.fNo, TN.fEnd, TN.dAppend, TN.dInsert, TN.dPopAt, TN.ownL, TN.start0, TN.begB, TN.backD, TN.wipeD, TN.dYes, TN.sNever, List.getElem?_cons_zero, List.getElem?_cons_succ, List.set_cons_zero, List.set_cons_succ, List.map_cons, List.map_nil, List.length_cons, List.length_nil, List.cons_append, List.nil_append, List.replicate_succ, List.replicate_zero, Option.map_some, Option.map_none, Nat.add_one_sub_one, Nat.sub_zero, Nat.sub_self, Nat.zero_add, reduceCtorEq, Option.some.injEq, PyData.int.injEq, PyData.str.injEq, PyData.bool.injEq, PyData.list.injEq, PyData.tuple.injEq, Sl.sh.injEq, Sl.ow.injEq, List.cons.injEq, exists_eq_left', exists_eq_left, true_implies, false_implies, and_true, true_and, forall_const, Option.isSome_some, TN.imp_ff, TN.imp_tf, TN.imp_tt, exists_eq_left, exists_eq_left', exists_eq])
  refine ⟨n, 7, sp, hn, rfl, by omega, by omega, fun t hs ys fk tl sp1 => ⟨_, rfl, _, rfl, rfl, _, _, rfl, _, _, rfl, rfl, _, rfl, t, rfl, by omega, _, rfl, _, rfl, ?_⟩⟩
  have t7 : t.length ≤ 7 := by omega
  have okt := fk.gt.oks
  have hf := fk.few
  have okh : ∀ h ∈ hs, ∀ x ∈ h, okS x := fun h hh => (fk.all h hh).gh.oks
  have lh : ∀ h ∈ hs, h.length ≤ 16 := fun h hh => (fk.all h hh).gh.few
  have pl : (partsL t).length ≤ 128 := by
    rw [partsL_len]
    exact Nat.pow_le_pow_right (by decide) t7
  have sub : ∀ M ∈ partsL t, M.length ≤ 7 ∧ ∀ x ∈ M, x ∈ t := fun M hM => ⟨Nat.le_trans (partsL_mem.mp hM).length_le t7, fun x hx => (partsL_mem.mp hM).subset hx⟩
  have bl : (bothF t hs).length ≤ 128 := Nat.le_trans (List.length_filter_le _ _) pl
  have kb := kept_bothF fk
  have c2 : (kF t hs).length = topF t hs := (kept_chain fk.rows fk.gt.ne).2.1
  have tp : 1 ≤ topF t hs := top_pos fk.gt.ne
  refine comp_fil tupL tupL (fun M => inF hs M) (fun M => M ∈ partsL t) rfl (fun _ => rfl) ?_ ?_ (partsL t) [] (fun _ h => h) (by simp; omega) ?_
  · intro M R hM kk
    (simp only [TN.dCallO, TN.dCallOI, TN.dCallNO, TN.oVar, TN.sCut, TN.tgLst, TN.iK, TN.iV, TN.iLT, TN.pNew, TN.dCallN, TN.dCompI2, TN.dLAddE, TN.oD, TN.sDNew, TN.sPutD, TN.fGetO, TN.fGetO2, TN.fInO, TN.fNinO, TN.dVarD, TN.dExtS, TN.mOwn, TN.dCallM, TN.mVar, TN.sRetV, TN.dAug, TN.dCallNT, TN.dCallNL, TN.fIxTs, TN.sForI, TN.dCompI, TN.dCompL, TN.dCompT, TN.dCompR, TN.iL, TN.iT, TN.iR1, TN.iR2, TN.iR3, TN.iS, TN.iE, TN.iRv, TN.iZ, TN.dKeepT, TN.dCallT, TN.pTup, TN.pCons, TN.pOwn, TN.sAsgT, TN.sRetT, TN.tpL, TN.fIxT, TN.fTp, TN.dAppendT, TN.dReverseT, TN.dClearT, TN.dVarT, TN.dReverse, TN.dClear, TN.dPop, Pt.d, Sl.tp.injEq, TN.startF, TN.dCallV, Sl.fn.injEq, TN.dCallF, TN.dLRev, TN.dLAdd, TN.dLSlP, TN.dLSlice, TN.dSliceE, TN.dNo, TN.dEnd, TN.fNo, TN.sSeq, TN.sNext, TN.sDrop, TN.sRet, TN.sRetL, TN.sRetN, TN.sIf, TN.sAsg, TN.sAsgL, TN.sStore, TN.sForL, TN.sForT, TN.sForR, TN.sForR2, TN.tgN, TN.tgTup, TN.tgCons, TN.tgNil, TN.dP, TN.dB, TN.dCall, TN.dCallL, TN.dCallB, TN.dCallBL, TN.dCons, TN.dNil, TN.dTup, TN.dLst, TN.dKeep, TN.dVar, TN.fVar, TN.fPeek, TN.fC, TN.f2, TN.d2, TN.d2V, TN.f1, TN.d1, TN.fCB, TN.dCB, TN.dCBL, TN.fNil, TN.fCons, TN.asBool, TN.dTest, TN.bAnd, TN.bOr, TN.bNot, TN.dAnd, TN.dOr, TN.dNot, TN.fAndV, TN.fOrV, TN.fNotV, TN.dAndV, TN.dOrV, TN.dNotV, TN.dIfE, TN.dIfL, TN.fIfE, TN.fChain, TN.fSlice, TN.dSlice, TN.fNo, TN.fEnd, TN.dAppend, TN.dInsert, TN.dPopAt, TN.ownL, TN.start0, TN.begB, TN.backD, TN.wipeD, TN.dYes, TN.sNever, List.getElem?_cons_zero, List.getElem?_cons_succ, List.set_cons_zero, List.set_cons_succ, List.map_cons, List.map_nil, List.length_cons, List.length_nil, List.cons_append, List.nil_append, List.replicate_succ, List.replicate_zero, Option.map_some, Option.map_none, Nat.add_one_sub_one, Nat.sub_zero, Nat.sub_self, Nat.zero_add, reduceCtorEq, Option.some.injEq, PyData.int.injEq, PyData.str.injEq, PyData.bool.injEq, PyData.list.injEq, PyData.tuple.injEq, Sl.sh.injEq, Sl.ow.injEq, List.cons.injEq, exists_eq_left', exists_eq_left, true_implies, false_implies, and_true, true_and, forall_const, Option.isSome_some, TN.imp_ff, TN.imp_tf, TN.imp_tt, exists_eq_left, exists_eq_left', exists_eq])
    refine comp_fil tupL tupL (fun h => !decide ((h.filter fun x => decide (x ∈ M)) = M)) (fun h => h ∈ hs) rfl (fun _ => rfl) ?_ ?_ hs [] (fun _ h => h) (by simp; omega) ?_
    · intro h R2 hh k2
      (simp only [TN.dCallO, TN.dCallOI, TN.dCallNO, TN.oVar, TN.sCut, TN.tgLst, TN.iK, TN.iV, TN.iLT, TN.pNew, TN.dCallN, TN.dCompI2, TN.dLAddE, TN.oD, TN.sDNew, TN.sPutD, TN.fGetO, TN.fGetO2, TN.fInO, TN.fNinO, TN.dVarD, TN.dExtS, TN.mOwn, TN.dCallM, TN.mVar, TN.sRetV, TN.dAug, TN.dCallNT, TN.dCallNL, TN.fIxTs, TN.sForI, TN.dCompI, TN.dCompL, TN.dCompT, TN.dCompR, TN.iL, TN.iT, TN.iR1, TN.iR2, TN.iR3, TN.iS, TN.iE, TN.iRv, TN.iZ, TN.dKeepT, TN.dCallT, TN.pTup, TN.pCons, TN.pOwn, TN.sAsgT, TN.sRetT, TN.tpL, TN.fIxT, TN.fTp, TN.dAppendT, TN.dReverseT, TN.dClearT, TN.dVarT, TN.dReverse, TN.dClear, TN.dPop, Pt.d, Sl.tp.injEq, TN.startF, TN.dCallV, Sl.fn.injEq, TN.dCallF, TN.dLRev, TN.dLAdd, TN.dLSlP, TN.dLSlice, TN.dSliceE, TN.dNo, TN.dEnd, TN.fNo, TN.sSeq, TN.sNext, TN.sDrop, TN.sRet, TN.sRetL, TN.sRetN, TN.sIf, TN.sAsg, TN.sAsgL, TN.sStore, TN.sForL, TN.sForT, TN.sForR, TN.sForR2, TN.tgN, TN.tgTup, TN.tgCons, TN.tgNil, TN.dP, TN.dB, TN.dCall, TN.dCallL, TN.dCallB, TN.dCallBL, TN.dCons, TN.dNil, TN.dTup, TN.dLst, TN.dKeep, TN.dVar, TN.fVar, TN.fPeek, TN.fC, TN.f2, TN.d2, TN.d2V, TN.f1, TN.d1, TN.fCB, TN.dCB, TN.dCBL, TN.fNil, TN.fCons, TN.asBool, TN.dTest, TN.bAnd, TN.bOr, TN.bNot, TN.dAnd, TN.dOr, TN.dNot, TN.fAndV, TN.fOrV, TN.fNotV, TN.dAndV, TN.dOrV, TN.dNotV, TN.dIfE, TN.dIfL, TN.fIfE, TN.fChain, TN.fSlice, TN.dSlice, TN.fNo, TN.fEnd, TN.dAppend, TN.dInsert, TN.dPopAt, TN.ownL, TN.start0, TN.begB, TN.backD, TN.wipeD, TN.dYes, TN.sNever, List.getElem?_cons_zero, List.getElem?_cons_succ, List.set_cons_zero, List.set_cons_succ, List.map_cons, List.map_nil, List.length_cons, List.length_nil, List.cons_append, List.nil_append, List.replicate_succ, List.replicate_zero, Option.map_some, Option.map_none, Nat.add_one_sub_one, Nat.sub_zero, Nat.sub_self, Nat.zero_add, reduceCtorEq, Option.some.injEq, PyData.int.injEq, PyData.str.injEq, PyData.bool.injEq, PyData.list.injEq, PyData.tuple.injEq, Sl.sh.injEq, Sl.ow.injEq, List.cons.injEq, exists_eq_left', exists_eq_left, true_implies, false_implies, and_true, true_and, forall_const, Option.isSome_some, TN.imp_ff, TN.imp_tf, TN.imp_tt, exists_eq_left, exists_eq_left', exists_eq])
      have := lh h hh
      exact ⟨M, h, rfl, fun x hx => okt x ((sub M hM).2 x hx), okh h hh, by omega, _, rfl, _, rfl, k2⟩
    · intro h R2 hh k2
      (simp only [TN.dCallO, TN.dCallOI, TN.dCallNO, TN.oVar, TN.sCut, TN.tgLst, TN.iK, TN.iV, TN.iLT, TN.pNew, TN.dCallN, TN.dCompI2, TN.dLAddE, TN.oD, TN.sDNew, TN.sPutD, TN.fGetO, TN.fGetO2, TN.fInO, TN.fNinO, TN.dVarD, TN.dExtS, TN.mOwn, TN.dCallM, TN.mVar, TN.sRetV, TN.dAug, TN.dCallNT, TN.dCallNL, TN.fIxTs, TN.sForI, TN.dCompI, TN.dCompL, TN.dCompT, TN.dCompR, TN.iL, TN.iT, TN.iR1, TN.iR2, TN.iR3, TN.iS, TN.iE, TN.iRv, TN.iZ, TN.dKeepT, TN.dCallT, TN.pTup, TN.pCons, TN.pOwn, TN.sAsgT, TN.sRetT, TN.tpL, TN.fIxT, TN.fTp, TN.dAppendT, TN.dReverseT, TN.dClearT, TN.dVarT, TN.dReverse, TN.dClear, TN.dPop, Pt.d, Sl.tp.injEq, TN.startF, TN.dCallV, Sl.fn.injEq, TN.dCallF, TN.dLRev, TN.dLAdd, TN.dLSlP, TN.dLSlice, TN.dSliceE, TN.dNo, TN.dEnd, TN.fNo, TN.sSeq, TN.sNext, TN.sDrop, TN.sRet, TN.sRetL, TN.sRetN, TN.sIf, TN.sAsg, TN.sAsgL, TN.sStore, TN.sForL, TN.sForT, TN.sForR, TN.sForR2, TN.tgN, TN.tgTup, TN.tgCons, TN.tgNil, TN.dP, TN.dB, TN.dCall, TN.dCallL, TN.dCallB, TN.dCallBL, TN.dCons, TN.dNil, TN.dTup, TN.dLst, TN.dKeep, TN.dVar, TN.fVar, TN.fPeek, TN.fC, TN.f2, TN.d2, TN.d2V, TN.f1, TN.d1, TN.fCB, TN.dCB, TN.dCBL, TN.fNil, TN.fCons, TN.asBool, TN.dTest, TN.bAnd, TN.bOr, TN.bNot, TN.dAnd, TN.dOr, TN.dNot, TN.fAndV, TN.fOrV, TN.fNotV, TN.dAndV, TN.dOrV, TN.dNotV, TN.dIfE, TN.dIfL, TN.fIfE, TN.fChain, TN.fSlice, TN.dSlice, TN.fNo, TN.fEnd, TN.dAppend, TN.dInsert, TN.dPopAt, TN.ownL, TN.start0, TN.begB, TN.backD, TN.wipeD, TN.dYes, TN.sNever, List.getElem?_cons_zero, List.getElem?_cons_succ, List.set_cons_zero, List.set_cons_succ, List.map_cons, List.map_nil, List.length_cons, List.length_nil, List.cons_append, List.nil_append, List.replicate_succ, List.replicate_zero, Option.map_some, Option.map_none, Nat.add_one_sub_one, Nat.sub_zero, Nat.sub_self, Nat.zero_add, reduceCtorEq, Option.some.injEq, PyData.int.injEq, PyData.str.injEq, PyData.bool.injEq, PyData.list.injEq, PyData.tuple.injEq, Sl.sh.injEq, Sl.ow.injEq, List.cons.injEq, exists_eq_left', exists_eq_left, true_implies, false_implies, and_true, true_and, forall_const, Option.isSome_some, TN.imp_ff, TN.imp_tf, TN.imp_tt, exists_eq_left, exists_eq_left', exists_eq])
      exact k2
    rw [List.nil_append]
    exact ⟨by omega, _, oEq_nilT (fun r hr => okh r (List.mem_filter.mp hr).1), _, rfl, kk⟩
  · intro M R hM kk
    (simp only [TN.dCallO, TN.dCallOI, TN.dCallNO, TN.oVar, TN.sCut, TN.tgLst, TN.iK, TN.iV, TN.iLT, TN.pNew, TN.dCallN, TN.dCompI2, TN.dLAddE, TN.oD, TN.sDNew, TN.sPutD, TN.fGetO, TN.fGetO2, TN.fInO, TN.fNinO, TN.dVarD, TN.dExtS, TN.mOwn, TN.dCallM, TN.mVar, TN.sRetV, TN.dAug, TN.dCallNT, TN.dCallNL, TN.fIxTs, TN.sForI, TN.dCompI, TN.dCompL, TN.dCompT, TN.dCompR, TN.iL, TN.iT, TN.iR1, TN.iR2, TN.iR3, TN.iS, TN.iE, TN.iRv, TN.iZ, TN.dKeepT, TN.dCallT, TN.pTup, TN.pCons, TN.pOwn, TN.sAsgT, TN.sRetT, TN.tpL, TN.fIxT, TN.fTp, TN.dAppendT, TN.dReverseT, TN.dClearT, TN.dVarT, TN.dReverse, TN.dClear, TN.dPop, Pt.d, Sl.tp.injEq, TN.startF, TN.dCallV, Sl.fn.injEq, TN.dCallF, TN.dLRev, TN.dLAdd, TN.dLSlP, TN.dLSlice, TN.dSliceE, TN.dNo, TN.dEnd, TN.fNo, TN.sSeq, TN.sNext, TN.sDrop, TN.sRet, TN.sRetL, TN.sRetN, TN.sIf, TN.sAsg, TN.sAsgL, TN.sStore, TN.sForL, TN.sForT, TN.sForR, TN.sForR2, TN.tgN, TN.tgTup, TN.tgCons, TN.tgNil, TN.dP, TN.dB, TN.dCall, TN.dCallL, TN.dCallB, TN.dCallBL, TN.dCons, TN.dNil, TN.dTup, TN.dLst, TN.dKeep, TN.dVar, TN.fVar, TN.fPeek, TN.fC, TN.f2, TN.d2, TN.d2V, TN.f1, TN.d1, TN.fCB, TN.dCB, TN.dCBL, TN.fNil, TN.fCons, TN.asBool, TN.dTest, TN.bAnd, TN.bOr, TN.bNot, TN.dAnd, TN.dOr, TN.dNot, TN.fAndV, TN.fOrV, TN.fNotV, TN.dAndV, TN.dOrV, TN.dNotV, TN.dIfE, TN.dIfL, TN.fIfE, TN.fChain, TN.fSlice, TN.dSlice, TN.fNo, TN.fEnd, TN.dAppend, TN.dInsert, TN.dPopAt, TN.ownL, TN.start0, TN.begB, TN.backD, TN.wipeD, TN.dYes, TN.sNever, List.getElem?_cons_zero, List.getElem?_cons_succ, List.set_cons_zero, List.set_cons_succ, List.map_cons, List.map_nil, List.length_cons, List.length_nil, List.cons_append, List.nil_append, List.replicate_succ, List.replicate_zero, Option.map_some, Option.map_none, Nat.add_one_sub_one, Nat.sub_zero, Nat.sub_self, Nat.zero_add, reduceCtorEq, Option.some.injEq, PyData.int.injEq, PyData.str.injEq, PyData.bool.injEq, PyData.list.injEq, PyData.tuple.injEq, Sl.sh.injEq, Sl.ow.injEq, List.cons.injEq, exists_eq_left', exists_eq_left, true_implies, false_implies, and_true, true_and, forall_const, Option.isSome_some, TN.imp_ff, TN.imp_tf, TN.imp_tt, exists_eq_left, exists_eq_left', exists_eq])
    exact kk
  rw [List.nil_append]
  refine ⟨_, rfl, _, rfl, ?_⟩
  refine comp_map tupL (fun M => PyData.int (M.length : Nat)) (fun _ => True) rfl (fun _ => rfl) (fun M R _ kk => ?_) (bothF t hs) [] (fun _ _ => trivial) (by simp; omega) ?_
  · (simp only [TN.dCallO, TN.dCallOI, TN.dCallNO, TN.oVar, TN.sCut, TN.tgLst, TN.iK, TN.iV, TN.iLT, TN.pNew, TN.dCallN, TN.dCompI2, TN.dLAddE, TN.oD, TN.sDNew, TN.sPutD, TN.fGetO, TN.fGetO2, TN.fInO, TN.fNinO, TN.dVarD, TN.dExtS, TN.mOwn, TN.dCallM, TN.mVar, TN.sRetV, TN.dAug, TN.dCallNT, TN.dCallNL, TN.fIxTs, TN.sForI, TN.dCompI, TN.dCompL, TN.dCompT, TN.dCompR, TN.iL, TN.iT, TN.iR1, TN.iR2, TN.iR3, TN.iS, TN.iE, TN.iRv, TN.iZ, TN.dKeepT, TN.dCallT, TN.pTup, TN.pCons, TN.pOwn, TN.sAsgT, TN.sRetT, TN.tpL, TN.fIxT, TN.fTp, TN.dAppendT, TN.dReverseT, TN.dClearT, TN.dVarT, TN.dReverse, TN.dClear, TN.dPop, Pt.d, Sl.tp.injEq, TN.startF, TN.dCallV, Sl.fn.injEq, TN.dCallF, TN.dLRev, TN.dLAdd, TN.dLSlP, TN.dLSlice, TN.dSliceE, TN.dNo, TN.dEnd, TN.fNo, TN.sSeq, TN.sNext, TN.sDrop, TN.sRet, TN.sRetL, TN.sRetN, TN.sIf, TN.sAsg, TN.sAsgL, TN.sStore, TN.sForL, TN.sForT, TN.sForR, TN.sForR2, TN.tgN, TN.tgTup, TN.tgCons, TN.tgNil, TN.dP, TN.dB, TN.dCall, TN.dCallL, TN.dCallB, TN.dCallBL, TN.dCons, TN.dNil, TN.dTup, TN.dLst, TN.dKeep, TN.dVar, TN.fVar, TN.fPeek, TN.fC, TN.f2, TN.d2, TN.d2V, TN.f1, TN.d1, TN.fCB, TN.dCB, TN.dCBL, TN.fNil, TN.fCons, TN.asBool, TN.dTest, TN.bAnd, TN.bOr, TN.bNot, TN.dAnd, TN.dOr, TN.dNot, TN.fAndV, TN.fOrV, TN.fNotV, TN.dAndV, TN.dOrV, TN.dNotV, TN.dIfE, TN.dIfL, TN.fIfE, TN.fChain, TN.fSlice, TN.dSlice, TN.fNo, TN.fEnd, TN.dAppend, TN.dInsert, TN.dPopAt, TN.ownL, TN.start0, TN.begB, TN.backD, TN.wipeD, TN.dYes, TN.sNever, List.getElem?_cons_zero, List.getElem?_cons_succ, List.set_cons_zero, List.set_cons_succ, List.map_cons, List.map_nil, List.length_cons, List.length_nil, List.cons_append, List.nil_append, List.replicate_succ, List.replicate_zero, Option.map_some, Option.map_none, Nat.add_one_sub_one, Nat.sub_zero, Nat.sub_self, Nat.zero_add, reduceCtorEq, Option.some.injEq, PyData.int.injEq, PyData.str.injEq, PyData.bool.injEq, PyData.list.injEq, PyData.tuple.injEq, Sl.sh.injEq, Sl.ow.injEq, List.cons.injEq, exists_eq_left', exists_eq_left, true_implies, false_implies, and_true, true_and, forall_const, Option.isSome_some, TN.imp_ff, TN.imp_tf, TN.imp_tt, exists_eq_left, exists_eq_left', exists_eq])
    exact ⟨_, oLen_tupL, kk⟩
  rw [List.nil_append]
  refine ⟨_, oMaxI_lens ⟨_, kb, c2⟩ (bothF_le fk), _, rfl, _, rfl, ?_⟩
  refine comp_fil tupL tupL (fun M => decide (M.length = topF t hs)) (fun _ => True) rfl (fun _ => rfl) ?_ ?_ (bothF t hs) [] (fun _ _ => trivial) (by simp; omega) ?_
  · intro M R hM kk
    (simp only [TN.dCallO, TN.dCallOI, TN.dCallNO, TN.oVar, TN.sCut, TN.tgLst, TN.iK, TN.iV, TN.iLT, TN.pNew, TN.dCallN, TN.dCompI2, TN.dLAddE, TN.oD, TN.sDNew, TN.sPutD, TN.fGetO, TN.fGetO2, TN.fInO, TN.fNinO, TN.dVarD, TN.dExtS, TN.mOwn, TN.dCallM, TN.mVar, TN.sRetV, TN.dAug, TN.dCallNT, TN.dCallNL, TN.fIxTs, TN.sForI, TN.dCompI, TN.dCompL, TN.dCompT, TN.dCompR, TN.iL, TN.iT, TN.iR1, TN.iR2, TN.iR3, TN.iS, TN.iE, TN.iRv, TN.iZ, TN.dKeepT, TN.dCallT, TN.pTup, TN.pCons, TN.pOwn, TN.sAsgT, TN.sRetT, TN.tpL, TN.fIxT, TN.fTp, TN.dAppendT, TN.dReverseT, TN.dClearT, TN.dVarT, TN.dReverse, TN.dClear, TN.dPop, Pt.d, Sl.tp.injEq, TN.startF, TN.dCallV, Sl.fn.injEq, TN.dCallF, TN.dLRev, TN.dLAdd, TN.dLSlP, TN.dLSlice, TN.dSliceE, TN.dNo, TN.dEnd, TN.fNo, TN.sSeq, TN.sNext, TN.sDrop, TN.sRet, TN.sRetL, TN.sRetN, TN.sIf, TN.sAsg, TN.sAsgL, TN.sStore, TN.sForL, TN.sForT, TN.sForR, TN.sForR2, TN.tgN, TN.tgTup, TN.tgCons, TN.tgNil, TN.dP, TN.dB, TN.dCall, TN.dCallL, TN.dCallB, TN.dCallBL, TN.dCons, TN.dNil, TN.dTup, TN.dLst, TN.dKeep, TN.dVar, TN.fVar, TN.fPeek, TN.fC, TN.f2, TN.d2, TN.d2V, TN.f1, TN.d1, TN.fCB, TN.dCB, TN.dCBL, TN.fNil, TN.fCons, TN.asBool, TN.dTest, TN.bAnd, TN.bOr, TN.bNot, TN.dAnd, TN.dOr, TN.dNot, TN.fAndV, TN.fOrV, TN.fNotV, TN.dAndV, TN.dOrV, TN.dNotV, TN.dIfE, TN.dIfL, TN.fIfE, TN.fChain, TN.fSlice, TN.dSlice, TN.fNo, TN.fEnd, TN.dAppend, TN.dInsert, TN.dPopAt, TN.ownL, TN.start0, TN.begB, TN.backD, TN.wipeD, TN.dYes, TN.sNever, List.getElem?_cons_zero, List.getElem?_cons_succ, List.set_cons_zero, List.set_cons_succ, List.map_cons, List.map_nil, List.length_cons, List.length_nil, List.cons_append, List.nil_append, List.replicate_succ, List.replicate_zero, Option.map_some, Option.map_none, Nat.add_one_sub_one, Nat.sub_zero, Nat.sub_self, Nat.zero_add, reduceCtorEq, Option.some.injEq, PyData.int.injEq, PyData.str.injEq, PyData.bool.injEq, PyData.list.injEq, PyData.tuple.injEq, Sl.sh.injEq, Sl.ow.injEq, List.cons.injEq, exists_eq_left', exists_eq_left, true_implies, false_implies, and_true, true_and, forall_const, Option.isSome_some, TN.imp_ff, TN.imp_tf, TN.imp_tt, exists_eq_left, exists_eq_left', exists_eq])
    have e : decide ((M.length : Int) = (topF t hs : Int)) = decide (M.length = topF t hs) := decide_eq_decide.mpr (by omega)
    simp only [oLen_tupL, oEq_int, e]
    exact ⟨_, rfl, kk⟩
  · intro M R hM kk
    (simp only [TN.dCallO, TN.dCallOI, TN.dCallNO, TN.oVar, TN.sCut, TN.tgLst, TN.iK, TN.iV, TN.iLT, TN.pNew, TN.dCallN, TN.dCompI2, TN.dLAddE, TN.oD, TN.sDNew, TN.sPutD, TN.fGetO, TN.fGetO2, TN.fInO, TN.fNinO, TN.dVarD, TN.dExtS, TN.mOwn, TN.dCallM, TN.mVar, TN.sRetV, TN.dAug, TN.dCallNT, TN.dCallNL, TN.fIxTs, TN.sForI, TN.dCompI, TN.dCompL, TN.dCompT, TN.dCompR, TN.iL, TN.iT, TN.iR1, TN.iR2, TN.iR3, TN.iS, TN.iE, TN.iRv, TN.iZ, TN.dKeepT, TN.dCallT, TN.pTup, TN.pCons, TN.pOwn, TN.sAsgT, TN.sRetT, TN.tpL, TN.fIxT, TN.fTp, TN.dAppendT, TN.dReverseT, TN.dClearT, TN.dVarT, TN.dReverse, TN.dClear, TN.dPop, Pt.d, Sl.tp.injEq, TN.startF, TN.dCallV, Sl.fn.injEq, TN.dCallF, TN.dLRev, TN.dLAdd, TN.dLSlP, TN.dLSlice, TN.dSliceE, TN.dNo, TN.dEnd, TN.fNo, TN.sSeq, TN.sNext, TN.sDrop, TN.sRet, TN.sRetL, TN.sRetN, TN.sIf, TN.sAsg, TN.sAsgL, TN.sStore, TN.sForL, TN.sForT, TN.sForR, TN.sForR2, TN.tgN, TN.tgTup, TN.tgCons, TN.tgNil, TN.dP, TN.dB, TN.dCall, TN.dCallL, TN.dCallB, TN.dCallBL, TN.dCons, TN.dNil, TN.dTup, TN.dLst, TN.dKeep, TN.dVar, TN.fVar, TN.fPeek, TN.fC, TN.f2, TN.d2, TN.d2V, TN.f1, TN.d1, TN.fCB, TN.dCB, TN.dCBL, TN.fNil, TN.fCons, TN.asBool, TN.dTest, TN.bAnd, TN.bOr, TN.bNot, TN.dAnd, TN.dOr, TN.dNot, TN.fAndV, TN.fOrV, TN.fNotV, TN.dAndV, TN.dOrV, TN.dNotV, TN.dIfE, TN.dIfL, TN.fIfE, TN.fChain, TN.fSlice, TN.dSlice, TN.fNo, TN.fEnd, TN.dAppend, TN.dInsert, TN.dPopAt, TN.ownL, TN.start0, TN.begB, TN.backD, TN.wipeD, TN.dYes, TN.sNever, List.getElem?_cons_zero, List.getElem?_cons_succ, List.set_cons_zero, List.set_cons_succ, List.map_cons, List.map_nil, List.length_cons, List.length_nil, List.cons_append, List.nil_append, List.replicate_succ, List.replicate_zero, Option.map_some, Option.map_none, Nat.add_one_sub_one, Nat.sub_zero, Nat.sub_self, Nat.zero_add, reduceCtorEq, Option.some.injEq, PyData.int.injEq, PyData.str.injEq, PyData.bool.injEq, PyData.list.injEq, PyData.tuple.injEq, Sl.sh.injEq, Sl.ow.injEq, List.cons.injEq, exists_eq_left', exists_eq_left, true_implies, false_implies, and_true, true_and, forall_const, Option.isSome_some, TN.imp_ff, TN.imp_tf, TN.imp_tt, exists_eq_left, exists_eq_left', exists_eq])
    exact kk
  rw [List.nil_append]
  refine ⟨_, oMinTx_of (m := kF t hs) (fun M hM z => ?_) (List.mem_filter.mpr ⟨kb, decide_eq_true c2⟩) (bothF_least fk), tupL t, rfl, _, rfl, ?_⟩
  · have := of_decide_eq_true (List.mem_filter.mp hM).2
    rw [z, List.length_nil] at this
    omega
  refine comp_fil PyData.str PyData.str (fun x => decide (x ∉ kF t hs)) (fun _ => True) rfl (fun _ => rfl) ?_ ?_ t [] (fun _ _ => trivial) (by simp; omega) ?_
  · intro x R _ kk
    (simp only [TN.dCallO, TN.dCallOI, TN.dCallNO, TN.oVar, TN.sCut, TN.tgLst, TN.iK, TN.iV, TN.iLT, TN.pNew, TN.dCallN, TN.dCompI2, TN.dLAddE, TN.oD, TN.sDNew, TN.sPutD, TN.fGetO, TN.fGetO2, TN.fInO, TN.fNinO, TN.dVarD, TN.dExtS, TN.mOwn, TN.dCallM, TN.mVar, TN.sRetV, TN.dAug, TN.dCallNT, TN.dCallNL, TN.fIxTs, TN.sForI, TN.dCompI, TN.dCompL, TN.dCompT, TN.dCompR, TN.iL, TN.iT, TN.iR1, TN.iR2, TN.iR3, TN.iS, TN.iE, TN.iRv, TN.iZ, TN.dKeepT, TN.dCallT, TN.pTup, TN.pCons, TN.pOwn, TN.sAsgT, TN.sRetT, TN.tpL, TN.fIxT, TN.fTp, TN.dAppendT, TN.dReverseT, TN.dClearT, TN.dVarT, TN.dReverse, TN.dClear, TN.dPop, Pt.d, Sl.tp.injEq, TN.startF, TN.dCallV, Sl.fn.injEq, TN.dCallF, TN.dLRev, TN.dLAdd, TN.dLSlP, TN.dLSlice, TN.dSliceE, TN.dNo, TN.dEnd, TN.fNo, TN.sSeq, TN.sNext, TN.sDrop, TN.sRet, TN.sRetL, TN.sRetN, TN.sIf, TN.sAsg, TN.sAsgL, TN.sStore, TN.sForL, TN.sForT, TN.sForR, TN.sForR2, TN.tgN, TN.tgTup, TN.tgCons, TN.tgNil, TN.dP, TN.dB, TN.dCall, TN.dCallL, TN.dCallB, TN.dCallBL, TN.dCons, TN.dNil, TN.dTup, TN.dLst, TN.dKeep, TN.dVar, TN.fVar, TN.fPeek, TN.fC, TN.f2, TN.d2, TN.d2V, TN.f1, TN.d1, TN.fCB, TN.dCB, TN.dCBL, TN.fNil, TN.fCons, TN.asBool, TN.dTest, TN.bAnd, TN.bOr, TN.bNot, TN.dAnd, TN.dOr, TN.dNot, TN.fAndV, TN.fOrV, TN.fNotV, TN.dAndV, TN.dOrV, TN.dNotV, TN.dIfE, TN.dIfL, TN.fIfE, TN.fChain, TN.fSlice, TN.dSlice, TN.fNo, TN.fEnd, TN.dAppend, TN.dInsert, TN.dPopAt, TN.ownL, TN.start0, TN.begB, TN.backD, TN.wipeD, TN.dYes, TN.sNever, List.getElem?_cons_zero, List.getElem?_cons_succ, List.set_cons_zero, List.set_cons_succ, List.map_cons, List.map_nil, List.length_cons, List.length_nil, List.cons_append, List.nil_append, List.replicate_succ, List.replicate_zero, Option.map_some, Option.map_none, Nat.add_one_sub_one, Nat.sub_zero, Nat.sub_self, Nat.zero_add, reduceCtorEq, Option.some.injEq, PyData.int.injEq, PyData.str.injEq, PyData.bool.injEq, PyData.list.injEq, PyData.tuple.injEq, Sl.sh.injEq, Sl.ow.injEq, List.cons.injEq, exists_eq_left', exists_eq_left, true_implies, false_implies, and_true, true_and, forall_const, Option.isSome_some, TN.imp_ff, TN.imp_tf, TN.imp_tt, exists_eq_left, exists_eq_left', exists_eq])
    rw [oNin_tup]
    exact ⟨_, rfl, kk⟩
  · intro x R _ kk
    (simp only [TN.dCallO, TN.dCallOI, TN.dCallNO, TN.oVar, TN.sCut, TN.tgLst, TN.iK, TN.iV, TN.iLT, TN.pNew, TN.dCallN, TN.dCompI2, TN.dLAddE, TN.oD, TN.sDNew, TN.sPutD, TN.fGetO, TN.fGetO2, TN.fInO, TN.fNinO, TN.dVarD, TN.dExtS, TN.mOwn, TN.dCallM, TN.mVar, TN.sRetV, TN.dAug, TN.dCallNT, TN.dCallNL, TN.fIxTs, TN.sForI, TN.dCompI, TN.dCompL, TN.dCompT, TN.dCompR, TN.iL, TN.iT, TN.iR1, TN.iR2, TN.iR3, TN.iS, TN.iE, TN.iRv, TN.iZ, TN.dKeepT, TN.dCallT, TN.pTup, TN.pCons, TN.pOwn, TN.sAsgT, TN.sRetT, TN.tpL, TN.fIxT, TN.fTp, TN.dAppendT, TN.dReverseT, TN.dClearT, TN.dVarT, TN.dReverse, TN.dClear, TN.dPop, Pt.d, Sl.tp.injEq, TN.startF, TN.dCallV, Sl.fn.injEq, TN.dCallF, TN.dLRev, TN.dLAdd, TN.dLSlP, TN.dLSlice, TN.dSliceE, TN.dNo, TN.dEnd, TN.fNo, TN.sSeq, TN.sNext, TN.sDrop, TN.sRet, TN.sRetL, TN.sRetN, TN.sIf, TN.sAsg, TN.sAsgL, TN.sStore, TN.sForL, TN.sForT, TN.sForR, TN.sForR2, TN.tgN, TN.tgTup, TN.tgCons, TN.tgNil, TN.dP, TN.dB, TN.dCall, TN.dCallL, TN.dCallB, TN.dCallBL, TN.dCons, TN.dNil, TN.dTup, TN.dLst, TN.dKeep, TN.dVar, TN.fVar, TN.fPeek, TN.fC, TN.f2, TN.d2, TN.d2V, TN.f1, TN.d1, TN.fCB, TN.dCB, TN.dCBL, TN.fNil, TN.fCons, TN.asBool, TN.dTest, TN.bAnd, TN.bOr, TN.bNot, TN.dAnd, TN.dOr, TN.dNot, TN.fAndV, TN.fOrV, TN.fNotV, TN.dAndV, TN.dOrV, TN.dNotV, TN.dIfE, TN.dIfL, TN.fIfE, TN.fChain, TN.fSlice, TN.dSlice, TN.fNo, TN.fEnd, TN.dAppend, TN.dInsert, TN.dPopAt, TN.ownL, TN.start0, TN.begB, TN.backD, TN.wipeD, TN.dYes, TN.sNever, List.getElem?_cons_zero, List.getElem?_cons_succ, List.set_cons_zero, List.set_cons_succ, List.map_cons, List.map_nil, List.length_cons, List.length_nil, List.cons_append, List.nil_append, List.replicate_succ, List.replicate_zero, Option.map_some, Option.map_none, Nat.add_one_sub_one, Nat.sub_zero, Nat.sub_self, Nat.zero_add, reduceCtorEq, Option.some.injEq, PyData.int.injEq, PyData.str.injEq, PyData.bool.injEq, PyData.list.injEq, PyData.tuple.injEq, Sl.sh.injEq, Sl.ow.injEq, List.cons.injEq, exists_eq_left', exists_eq_left, true_implies, false_implies, and_true, true_and, forall_const, Option.isSome_some, TN.imp_ff, TN.imp_tf, TN.imp_tt, exists_eq_left, exists_eq_left', exists_eq])
    exact kk
  rw [List.nil_append]
  have fl : (t.filter fun x => decide (x ∉ kF t hs)).length ≤ t.length := List.length_filter_le _ _
  have ln : (nF t hs).length ≤ 16 := by unfold nF; rw [(sortS_perm _).length_eq]; omega
  refine ⟨_, oSorted_lstL (by omega), ?_⟩
  (simp only [TN.dCallO, TN.dCallOI, TN.dCallNO, TN.oVar, TN.sCut, TN.tgLst, TN.iK, TN.iV, TN.iLT, TN.pNew, TN.dCallN, TN.dCompI2, TN.dLAddE, TN.oD, TN.sDNew, TN.sPutD, TN.fGetO, TN.fGetO2, TN.fInO, TN.fNinO, TN.dVarD, TN.dExtS, TN.mOwn, TN.dCallM, TN.mVar, TN.sRetV, TN.dAug, TN.dCallNT, TN.dCallNL, TN.fIxTs, TN.sForI, TN.dCompI, TN.dCompL, TN.dCompT, TN.dCompR, TN.iL, TN.iT, TN.iR1, TN.iR2, TN.iR3, TN.iS, TN.iE, TN.iRv, TN.iZ, TN.dKeepT, TN.dCallT, TN.pTup, TN.pCons, TN.pOwn, TN.sAsgT, TN.sRetT, TN.tpL, TN.fIxT, TN.fTp, TN.dAppendT, TN.dReverseT, TN.dClearT, TN.dVarT, TN.dReverse, TN.dClear, TN.dPop, Pt.d, Sl.tp.injEq, TN.startF, TN.dCallV, Sl.fn.injEq, TN.dCallF, TN.dLRev, TN.dLAdd, TN.dLSlP, TN.dLSlice, TN.dSliceE, TN.dNo, TN.dEnd, TN.fNo, TN.sSeq, TN.sNext, TN.sDrop, TN.sRet, TN.sRetL, TN.sRetN, TN.sIf, TN.sAsg, TN.sAsgL, TN.sStore, TN.sForL, TN.sForT, TN.sForR, TN.sForR2, TN.tgN, TN.tgTup, TN.tgCons, TN.tgNil, TN.dP, TN.dB, TN.dCall, TN.dCallL, TN.dCallB, TN.dCallBL, TN.dCons, TN.dNil, TN.dTup, TN.dLst, TN.dKeep, TN.dVar, TN.fVar, TN.fPeek, TN.fC, TN.f2, TN.d2, TN.d2V, TN.f1, TN.d1, TN.fCB, TN.dCB, TN.dCBL, TN.fNil, TN.fCons, TN.asBool, TN.dTest, TN.bAnd, TN.bOr, TN.bNot, TN.dAnd, TN.dOr, TN.dNot, TN.fAndV, TN.fOrV, TN.fNotV, TN.dAndV, TN.dOrV, TN.dNotV, TN.dIfE, TN.dIfL, TN.fIfE, TN.fChain, TN.fSlice, TN.dSlice, TN.fNo, TN.fEnd, TN.dAppend, TN.dInsert, TN.dPopAt, TN.ownL, TN.start0, TN.begB, TN.backD, TN.wipeD, TN.dYes, TN.sNever, List.getElem?_cons_zero, List.getElem?_cons_succ, List.set_cons_zero, List.set_cons_succ, List.map_cons, List.map_nil, List.length_cons, List.length_nil, List.cons_append, List.nil_append, List.replicate_succ, List.replicate_zero, Option.map_some, Option.map_none, Nat.add_one_sub_one, Nat.sub_zero, Nat.sub_self, Nat.zero_add, reduceCtorEq, Option.some.injEq, PyData.int.injEq, PyData.str.injEq, PyData.bool.injEq, PyData.list.injEq, PyData.tuple.injEq, Sl.sh.injEq, Sl.ow.injEq, List.cons.injEq, exists_eq_left', exists_eq_left, true_implies, false_implies, and_true, true_and, forall_const, Option.isSome_some, TN.imp_ff, TN.imp_tf, TN.imp_tt, exists_eq_left, exists_eq_left', exists_eq])
  have okn : ∀ x ∈ nF t hs, okS x := fun x hx => okt x (nF_mem.mp hx).1
  have e1 : semAlike 5 [lstL (nF t hs), lstL (nF t hs)] = semAlike 5 [lstL (nF t hs), lstL (nF t hs)] := rfl
  refine ⟨t, hs, rfl, fk, _, rfl, _, rfl, alk_lstL okn (by omega), _, rfl, rfl, true, rfl, (fun z => by cases z), fun _ => ⟨by rw [List.length_map]; omega, t, hs, rfl, fk, _, rfl, _, rfl, alk_lstL okn (by omega), _, rfl, true, rfl, fun _ => ⟨_, oEq_folk (fun r hr => okh r hr), q _ sp1⟩, (fun z => by cases z)⟩⟩

abbrev s__law_heights : Stmt := topS 33
theorem sc__law_heights : FnScope ["lines", "found", "at", "one", "some", "other", "line"] ["lines"] (defScope s__law_heights) := ⟨rfl, rfl, rfl, by decide +kernel, rfl, by decide +kernel, by decide +kernel⟩
theorem ok__law_heights (b : Blt mg) {f : Addr} {fd : FuncData} (F : Fun K "_law_heights" "_law_heights" s__law_heights f fd) : FnG P w K mg base CX0 1 f fd ["lines"] (sp0 K semHeightsF) := by
  refine fn0 (k := 0) F sc__law_heights (fun ds Q h => by obtain ⟨t, x, rfl, _⟩ := h; rfl) (fun cdv A outer s H E hg hr =>
    have nd := sc__law_heights.nd
    have hu := hr.units
    have hu1 := hu_of hr
    (pss_cons (ps_set (i := 1) nd rfl (by first | exact Or.inl rfl | exact Or.inr rfl) pe_dnewK)
 (pss_cons (ps_for PassesOwn.never rfl (pi_enumT (by rfl) b.enumerate (pa_cons (pe_ix ix_seq (pv 0) pe_int (fun _ _ => rfl)) pa_nil)) (pg_tup (n := 2) rfl (pgs_cons (pg_name (i := 2) nd rfl (by first | exact Or.inl rfl | exact Or.inr rfl)) (pgs_cons (pg_name (i := 3) nd rfl (by first | exact Or.inl rfl | exact Or.inr rfl)) pgs_nil))) (pss_cons (ps_set (i := 4) nd rfl (by first | exact Or.inl rfl | exact Or.inr rfl) (pe_lst (pa_cons pe_int pa_nil)))
 (pss_cons (ps_for PassesOwn.never rfl (pi_tup (pe_slice sl_U (pe_ix ix_seq (pv 0) pe_int (fun _ _ => rfl)) po_none (po_some (pv 2)))) (pg_name (i := 5) nd rfl (by first | exact Or.inl rfl | exact Or.inr rfl)) (pss_one (ps_if (pt_cmpR (op_eqD hu) (pe_lc (own := [("line", 6)]) (g := gName 6) rfl nd (pi_list (pv 0)) (blkOk_by (own := [("line", 6)]) (N := ["lines", "found", "at", "one", "some", "other", "line"]) (sc := defScope s__law_heights) (by decide +kernel)) (fun _ _ _ _ _ => pg_name (i := 6) nd rfl (by first | exact Or.inl rfl | exact Or.inr rfl)) (fun _ _ _ _ _ => by exact (pts_one (pt_cmpR op_gtU (pe_tidx (pv 6) (pv 5)) (pe_tidx (pv 6) (pv 3)) (nomark _)))) (fun _ _ _ _ _ => by exact (pv 6))) (pe_lst pa_nil) (nomark _)) (pss_one (ps_expr (by exact (pe_bm PySem.F.plainAttrs_list PySem.F.slot_list_append PySem.F.type_list_append mt_append (pv 4) (pa_cons (pe_dget hu1 (pv 1) (pv 5) (fun _ _ => rfl)) pa_nil))))) pss_nil)))
 (pss_one (ps_dput hu1 (pv 1) (pv 3) (pe_op op_addU (pe_callB (cr_max rfl) (by rfl) b.max (by decide +kernel) (pa_cons (pv 4) pa_nil)) pe_int) (by rfl))))))
 (pss_one (ps_ret (pe_frz (pv 1)))))))
    (ls_seq (ls_dnew (i := 1) (by decide))
 (ls_seq (ls_forI (li_enumT (LP.e (lp_op (LP.m (lp_var (i := 0))) (LP.m lp_int) rb_ix))) (lgp_tup (lgs_cons (lg_name (i := 2) (by decide)) (lgs_cons (lg_name (i := 3) (by decide)) lgs_nil))) (ls_seq (ls_asgL (i := 4) (by decide) (ll_lst (les_cons (LP.e lp_int) les_nil)))
 (ls_seq (ls_forT (LP.e (lp_slice (LP.m (lp_op (LP.m (lp_var (i := 0))) (LP.m lp_int) rb_ix)) lo_none (lo_some (LP.m (lp_var (i := 2)))))) (lg_name (i := 5) (by decide)) (ls_if (lt_test (le_op (LL.e (ll_compL (j := 6) (vs := [6]) (by decide) (by decide) (LP.e (lp_var (i := 0))) (LB.g (lb_test (LP.m (lp_op (LP.m (lp_tindex (LP.m (lp_var (i := 6))) (LP.m (lp_var (i := 5))))) (LP.m (lp_tindex (LP.m (lp_var (i := 6))) (LP.m (lp_var (i := 3))))) rb_U)))) (LP.e (lp_var (i := 6))))) (LL.e (ll_lst les_nil)) rb_eq)) (ls_drop (le_append (j := 4) (LP.e (lp_dgetK (j := 1) (LP.m (lp_var (i := 5))))))) ls_next))
 (ls_dput (j := 1) (LP.e (lp_op (LP.m (lp_cb (lms_cons (lm_peek (i := 4)) lms_nil) rc_maxI)) (LP.m lp_int) rb_add)) (LP.e (lp_var (i := 3)))))))
 (ls_ret (le_varD (i := 1) (by decide))))) ?_
  rintro ds Q ⟨Rs, r0, rfl, ro, q⟩
  (simp only [TN.dCallO, TN.dCallOI, TN.dCallNO, TN.oVar, TN.sCut, TN.tgLst, TN.iK, TN.iV, TN.iLT, TN.pNew, TN.dCallN, TN.dCompI2, TN.dLAddE, TN.oD, TN.sDNew, TN.sPutD, TN.fGetO, TN.fGetO2, TN.fInO, TN.fNinO, TN.dVarD, TN.dExtS, TN.mOwn, TN.dCallM, TN.mVar, TN.sRetV, TN.dAug, TN.dCallNT, TN.dCallNL, TN.fIxTs, TN.sForI, TN.dCompI, TN.dCompL, TN.dCompT, TN.dCompR, TN.iL, TN.iT, TN.iR1, TN.iR2, TN.iR3, TN.iS, TN.iE, TN.iRv, TN.iZ, TN.dKeepT, TN.dCallT, TN.pTup, TN.pCons, TN.pOwn, TN.sAsgT, TN.sRetT, TN.tpL, TN.fIxT, TN.fTp, TN.dAppendT, TN.dReverseT, TN.dClearT, TN.dVarT, TN.dReverse, TN.dClear, TN.dPop, Pt.d, Sl.tp.injEq, TN.startF, TN.dCallV, Sl.fn.injEq, TN.dCallF, TN.dLRev, TN.dLAdd, TN.dLSlP, TN.dLSlice, TN.dSliceE, TN.dNo, TN.dEnd, TN.fNo, TN.sSeq, TN.sNext, TN.sDrop, TN.sRet, TN.sRetL, TN.sRetN, TN.sIf, TN.sAsg, TN.sAsgL, TN.sStore, TN.sForL, TN.sForT, TN.sForR, TN.sForR2, TN.tgN, TN.tgTup, TN.tgCons, TN.tgNil, TN.dP, TN.dB, TN.dCall, TN.dCallL, TN.dCallB, TN.dCallBL, TN.dCons, TN.dNil, TN.dTup, TN.dLst, TN.dKeep, TN.dVar, TN.fVar, TN.fPeek, TN.fC, TN.f2, TN.d2, TN.d2V, TN.f1, TN.d1, TN.fCB, TN.dCB, TN.dCBL, TN.fNil, TN.fCons, TN.asBool, TN.dTest, TN.bAnd, TN.bOr, TN.bNot, TN.dAnd, TN.dOr, TN.dNot, TN.fAndV, TN.fOrV, TN.fNotV, TN.dAndV, TN.dOrV, TN.dNotV, TN.dIfE, TN.dIfL, TN.fIfE, TN.fChain, TN.fSlice, TN.dSlice, TN.fNo, TN.fEnd, TN.dAppend, TN.dInsert, TN.dPopAt, TN.ownL, TN.start0, TN.begB, TN.backD, TN.wipeD, TN.dYes, TN.sNever, List.getElem?_cons_zero, List.getElem?_cons_succ, List.set_cons_zero, List.set_cons_succ, List.map_cons, List.map_nil, List.length_cons, List.length_nil, List.cons_append, List.nil_append, List.replicate_succ, List.replicate_zero, Option.map_some, Option.map_none, Nat.add_one_sub_one, Nat.sub_zero, Nat.sub_self, Nat.zero_add, reduceCtorEq, Option.some.injEq, PyData.int.injEq, PyData.str.injEq, PyData.bool.injEq, PyData.list.injEq, PyData.tuple.injEq, Sl.sh.injEq, Sl.ow.injEq, List.cons.injEq, exists_eq_left', exists_eq_left, true_implies, false_implies, and_true, true_and, forall_const, Option.isSome_some, TN.imp_ff, TN.imp_tf, TN.imp_tt, exists_eq_left, exists_eq_left', exists_eq])
  unfold iET
  (simp only [TN.dCallO, TN.dCallOI, TN.dCallNO, TN.oVar, TN.sCut, TN.tgLst, TN.iK, TN.iV, TN.iLT, TN.pNew, TN.dCallN, TN.dCompI2, TN.dLAddE, TN.oD, TN.sDNew, TN.sPutD, TN.fGetO, TN.fGetO2, TN.fInO, TN.fNinO, TN.dVarD, TN.dExtS, TN.mOwn, TN.dCallM, TN.mVar, TN.sRetV, TN.dAug, TN.dCallNT, TN.dCallNL, TN.fIxTs, TN.sForI, TN.dCompI, TN.dCompL, TN.dCompT, TN.dCompR, TN.iL, TN.iT, TN.iR1, TN.iR2, TN.iR3, TN.iS, TN.iE, TN.iRv, TN.iZ, TN.dKeepT, TN.dCallT, TN.pTup, TN.pCons, TN.pOwn, TN.sAsgT, TN.sRetT, TN.tpL, TN.fIxT, TN.fTp, TN.dAppendT, TN.dReverseT, TN.dClearT, TN.dVarT, TN.dReverse, TN.dClear, TN.dPop, Pt.d, Sl.tp.injEq, TN.startF, TN.dCallV, Sl.fn.injEq, TN.dCallF, TN.dLRev, TN.dLAdd, TN.dLSlP, TN.dLSlice, TN.dSliceE, TN.dNo, TN.dEnd, TN.fNo, TN.sSeq, TN.sNext, TN.sDrop, TN.sRet, TN.sRetL, TN.sRetN, TN.sIf, TN.sAsg, TN.sAsgL, TN.sStore, TN.sForL, TN.sForT, TN.sForR, TN.sForR2, TN.tgN, TN.tgTup, TN.tgCons, TN.tgNil, TN.dP, TN.dB, TN.dCall, TN.dCallL, TN.dCallB, TN.dCallBL, TN.dCons, TN.dNil, TN.dTup, TN.dLst, TN.dKeep, TN.dVar, TN.fVar, TN.fPeek, TN.fC, TN.f2, TN.d2, TN.d2V, TN.f1, TN.d1, TN.fCB, TN.dCB, TN.dCBL, TN.fNil, TN.fCons, TN.asBool, TN.dTest, TN.bAnd, TN.bOr, TN.bNot, TN.dAnd, TN.dOr, TN.dNot, TN.fAndV, TN.fOrV, TN.fNotV, TN.dAndV, TN.dOrV, TN.dNotV, TN.dIfE, TN.dIfL, TN.fIfE, TN.fChain, TN.fSlice, TN.dSlice, TN.fNo, TN.fEnd, TN.dAppend, TN.dInsert, TN.dPopAt, TN.ownL, TN.start0, TN.begB, TN.backD, TN.wipeD, TN.dYes, TN.sNever, List.getElem?_cons_zero, List.getElem?_cons_succ, List.set_cons_zero, List.set_cons_succ, List.map_cons, List.map_nil, List.length_cons, List.length_nil, List.cons_append, List.nil_append, List.replicate_succ, List.replicate_zero, Option.map_some, Option.map_none, Nat.add_one_sub_one, Nat.sub_zero, Nat.sub_self, Nat.zero_add, reduceCtorEq, Option.some.injEq, PyData.int.injEq, PyData.str.injEq, PyData.bool.injEq, PyData.list.injEq, PyData.tuple.injEq, Sl.sh.injEq, Sl.ow.injEq, List.cons.injEq, exists_eq_left', exists_eq_left, true_implies, false_implies, and_true, true_and, forall_const, Option.isSome_some, TN.imp_ff, TN.imp_tf, TN.imp_tt, exists_eq_left, exists_eq_left', exists_eq])
  have e0 : Rs = r0 :: Rs.tail := by
    have := ro.hd
    cases Rs with
    | nil => cases this
    | cons a b => injection this with h; subst h; rfl
  have ix : oIx (folkD Rs) (.int 0) = some (tupL r0) := by rw [e0]; exact ixl0
  have tf := ro.len
  have rf := ro.few
  have okr : ∀ r ∈ Rs, ∀ x ∈ r, okS x := fun r hr x hx => (ro.isl x ((ro.all r hr).mem_iff.mp hx)).ok
  refine ⟨_, ix, _, rfl, ?_⟩
  rw [enumD_map]
  refine forD_go (fun p : Nat × Str => PyData.tuple [.int p.1, .str p.2]) (fun ls ρ => ∃ (pre rest : List Str) (b2 b3 b4 b5 : Sl), r0 = pre ++ rest ∧ ls = numd pre.length rest ∧ ρ = [.sh (folkD Rs), .od (lenK (lensL (Rs.map List.reverse) pre.reverse)), b2, b3, b4, b5, .no]) ?_ ?_ (numd 0 r0) _ ⟨[], r0, .no, .no, .no, .no, rfl, rfl, rfl⟩
  rotate_left
  · rintro ρ ⟨pre, rest, b2, b3, b4, b5, et, el, rfl⟩
    have : rest = [] := by cases rest with
      | nil => rfl
      | cons y r => cases el
    subst this
    rw [List.append_nil] at et
    subst et
    (simp only [TN.dCallO, TN.dCallOI, TN.dCallNO, TN.oVar, TN.sCut, TN.tgLst, TN.iK, TN.iV, TN.iLT, TN.pNew, TN.dCallN, TN.dCompI2, TN.dLAddE, TN.oD, TN.sDNew, TN.sPutD, TN.fGetO, TN.fGetO2, TN.fInO, TN.fNinO, TN.dVarD, TN.dExtS, TN.mOwn, TN.dCallM, TN.mVar, TN.sRetV, TN.dAug, TN.dCallNT, TN.dCallNL, TN.fIxTs, TN.sForI, TN.dCompI, TN.dCompL, TN.dCompT, TN.dCompR, TN.iL, TN.iT, TN.iR1, TN.iR2, TN.iR3, TN.iS, TN.iE, TN.iRv, TN.iZ, TN.dKeepT, TN.dCallT, TN.pTup, TN.pCons, TN.pOwn, TN.sAsgT, TN.sRetT, TN.tpL, TN.fIxT, TN.fTp, TN.dAppendT, TN.dReverseT, TN.dClearT, TN.dVarT, TN.dReverse, TN.dClear, TN.dPop, Pt.d, Sl.tp.injEq, TN.startF, TN.dCallV, Sl.fn.injEq, TN.dCallF, TN.dLRev, TN.dLAdd, TN.dLSlP, TN.dLSlice, TN.dSliceE, TN.dNo, TN.dEnd, TN.fNo, TN.sSeq, TN.sNext, TN.sDrop, TN.sRet, TN.sRetL, TN.sRetN, TN.sIf, TN.sAsg, TN.sAsgL, TN.sStore, TN.sForL, TN.sForT, TN.sForR, TN.sForR2, TN.tgN, TN.tgTup, TN.tgCons, TN.tgNil, TN.dP, TN.dB, TN.dCall, TN.dCallL, TN.dCallB, TN.dCallBL, TN.dCons, TN.dNil, TN.dTup, TN.dLst, TN.dKeep, TN.dVar, TN.fVar, TN.fPeek, TN.fC, TN.f2, TN.d2, TN.d2V, TN.f1, TN.d1, TN.fCB, TN.dCB, TN.dCBL, TN.fNil, TN.fCons, TN.asBool, TN.dTest, TN.bAnd, TN.bOr, TN.bNot, TN.dAnd, TN.dOr, TN.dNot, TN.fAndV, TN.fOrV, TN.fNotV, TN.dAndV, TN.dOrV, TN.dNotV, TN.dIfE, TN.dIfL, TN.fIfE, TN.fChain, TN.fSlice, TN.dSlice, TN.fNo, TN.fEnd, TN.dAppend, TN.dInsert, TN.dPopAt, TN.ownL, TN.start0, TN.begB, TN.backD, TN.wipeD, TN.dYes, TN.sNever, List.getElem?_cons_zero, List.getElem?_cons_succ, List.set_cons_zero, List.set_cons_succ, List.map_cons, List.map_nil, List.length_cons, List.length_nil, List.cons_append, List.nil_append, List.replicate_succ, List.replicate_zero, Option.map_some, Option.map_none, Nat.add_one_sub_one, Nat.sub_zero, Nat.sub_self, Nat.zero_add, reduceCtorEq, Option.some.injEq, PyData.int.injEq, PyData.str.injEq, PyData.bool.injEq, PyData.list.injEq, PyData.tuple.injEq, Sl.sh.injEq, Sl.ow.injEq, List.cons.injEq, exists_eq_left', exists_eq_left, true_implies, false_implies, and_true, true_and, forall_const, Option.isSome_some, TN.imp_ff, TN.imp_tf, TN.imp_tt, exists_eq_left, exists_eq_left', exists_eq])
    exact q
  rintro ⟨k, x⟩ ls ρ E' ⟨pre, rest, b2, b3, b4, b5, et, el, rfl⟩ nx _ _ _
  cases rest with
  | nil => cases el
  | cons y rest =>
    have el : (k, x) :: ls = (pre.length, y) :: numd (pre.length + 1) rest := el
    injection el with e1 e2
    injection e1 with e1 e3
    subst e1 e2 e3
    (simp only [TN.dCallO, TN.dCallOI, TN.dCallNO, TN.oVar, TN.sCut, TN.tgLst, TN.iK, TN.iV, TN.iLT, TN.pNew, TN.dCallN, TN.dCompI2, TN.dLAddE, TN.oD, TN.sDNew, TN.sPutD, TN.fGetO, TN.fGetO2, TN.fInO, TN.fNinO, TN.dVarD, TN.dExtS, TN.mOwn, TN.dCallM, TN.mVar, TN.sRetV, TN.dAug, TN.dCallNT, TN.dCallNL, TN.fIxTs, TN.sForI, TN.dCompI, TN.dCompL, TN.dCompT, TN.dCompR, TN.iL, TN.iT, TN.iR1, TN.iR2, TN.iR3, TN.iS, TN.iE, TN.iRv, TN.iZ, TN.dKeepT, TN.dCallT, TN.pTup, TN.pCons, TN.pOwn, TN.sAsgT, TN.sRetT, TN.tpL, TN.fIxT, TN.fTp, TN.dAppendT, TN.dReverseT, TN.dClearT, TN.dVarT, TN.dReverse, TN.dClear, TN.dPop, Pt.d, Sl.tp.injEq, TN.startF, TN.dCallV, Sl.fn.injEq, TN.dCallF, TN.dLRev, TN.dLAdd, TN.dLSlP, TN.dLSlice, TN.dSliceE, TN.dNo, TN.dEnd, TN.fNo, TN.sSeq, TN.sNext, TN.sDrop, TN.sRet, TN.sRetL, TN.sRetN, TN.sIf, TN.sAsg, TN.sAsgL, TN.sStore, TN.sForL, TN.sForT, TN.sForR, TN.sForR2, TN.tgN, TN.tgTup, TN.tgCons, TN.tgNil, TN.dP, TN.dB, TN.dCall, TN.dCallL, TN.dCallB, TN.dCallBL, TN.dCons, TN.dNil, TN.dTup, TN.dLst, TN.dKeep, TN.dVar, TN.fVar, TN.fPeek, TN.fC, TN.f2, TN.d2, TN.d2V, TN.f1, TN.d1, TN.fCB, TN.dCB, TN.dCBL, TN.fNil, TN.fCons, TN.asBool, TN.dTest, TN.bAnd, TN.bOr, TN.bNot, TN.dAnd, TN.dOr, TN.dNot, TN.fAndV, TN.fOrV, TN.fNotV, TN.dAndV, TN.dOrV, TN.dNotV, TN.dIfE, TN.dIfL, TN.fIfE, TN.fChain, TN.fSlice, TN.dSlice, TN.fNo, TN.fEnd, TN.dAppend, TN.dInsert, TN.dPopAt, TN.ownL, TN.start0, TN.begB, TN.backD, TN.wipeD, TN.dYes, TN.sNever, List.getElem?_cons_zero, List.getElem?_cons_succ, List.set_cons_zero, List.set_cons_succ, List.map_cons, List.map_nil, List.length_cons, List.length_nil, List.cons_append, List.nil_append, List.replicate_succ, List.replicate_zero, Option.map_some, Option.map_none, Nat.add_one_sub_one, Nat.sub_zero, Nat.sub_self, Nat.zero_add, reduceCtorEq, Option.some.injEq, PyData.int.injEq, PyData.str.injEq, PyData.bool.injEq, PyData.list.injEq, PyData.tuple.injEq, Sl.sh.injEq, Sl.ow.injEq, List.cons.injEq, exists_eq_left', exists_eq_left, true_implies, false_implies, and_true, true_and, forall_const, Option.isSome_some, TN.imp_ff, TN.imp_tf, TN.imp_tt, exists_eq_left, exists_eq_left', exists_eq])
    have pt : pre.length ≤ r0.length := by rw [et]; simp
    have cut : oSlice none (some (pre.length : Int)) (tupL r0) = some (tupL pre) := by
      rw [oSl_to]; rw [et]; simp
    have xt : x ∈ r0 := by rw [et]; simp
    refine ⟨_, _, ⟨rfl, rfl⟩, _, _, rfl, rfl, by omega, tupL pre, by rw [ix]; exact cut, _, rfl, ?_⟩
    have fs := front_fst (Rs.map List.reverse) pre
    have stp := frontF_step ro et
    have npre : pre.Nodup := (List.nodup_append.mp (by rw [← et]; exact ro.nd)).1
    have xp : x ∉ pre := fun z => (List.nodup_append.mp (by rw [← et]; exact ro.nd : (pre ++ x :: rest).Nodup)).2.2 x z x List.mem_cons_self rfl
    have plen : (lensL (Rs.map List.reverse) pre.reverse).length = pre.length := by
      have := congrArg List.length fs
      rwa [List.length_map] at this
    generalize lensL (Rs.map List.reverse) pre.reverse = P at fs plen stp ⊢
    have nk : (P.map (·.1)).Nodup := by rw [fs]; exact npre
    have xk : x ∉ P.map (·.1) := by rw [fs]; exact xp
    have ep : (pre.map PyData.str) = P.map fun p => PyData.str p.1 := by rw [← fs, List.map_map]; rfl
    rw [ep]
    refine forD_go (fun p : Str × Nat => PyData.str p.1) (fun ls ρ => ∃ (done : List (Str × Nat)) (b5 : Sl), P = done ++ ls ∧ ρ = [.sh (folkD Rs), .od (lenK P), .sh (.int pre.length), .sh (.str x), .ow ((0 :: (done.filter fun p => wrongR Rs p.1 x).map (·.2)).map fun (n : Nat) => PyData.int n), b5, .no]) ?_ ?_ P _ ⟨[], b5, rfl, rfl⟩
    · rintro p ls ρ E2 ⟨done, b5, eP, rfl⟩ nx2 _ _ _
      have hp : p ∈ P := by rw [eP]; simp
      have p1 : p.1 ∈ r0 := by rw [et]; exact List.mem_append_left _ (by rw [← fs]; exact List.mem_map.mpr ⟨p, hp, rfl⟩)
      (simp only [TN.dCallO, TN.dCallOI, TN.dCallNO, TN.oVar, TN.sCut, TN.tgLst, TN.iK, TN.iV, TN.iLT, TN.pNew, TN.dCallN, TN.dCompI2, TN.dLAddE, TN.oD, TN.sDNew, TN.sPutD, TN.fGetO, TN.fGetO2, TN.fInO, TN.fNinO, TN.dVarD, TN.dExtS, TN.mOwn, TN.dCallM, TN.mVar, TN.sRetV, TN.dAug, TN.dCallNT, TN.dCallNL, TN.fIxTs, TN.sForI, TN.dCompI, TN.dCompL, TN.dCompT, TN.dCompR, TN.iL, TN.iT, TN.iR1, TN.iR2, TN.iR3, TN.iS, TN.iE, TN.iRv, TN.iZ, TN.dKeepT, TN.dCallT, TN.pTup, TN.pCons, TN.pOwn, TN.sAsgT, TN.sRetT, TN.tpL, TN.fIxT, TN.fTp, TN.dAppendT, TN.dReverseT, TN.dClearT, TN.dVarT, TN.dReverse, TN.dClear, TN.dPop, Pt.d, Sl.tp.injEq, TN.startF, TN.dCallV, Sl.fn.injEq, TN.dCallF, TN.dLRev, TN.dLAdd, TN.dLSlP, TN.dLSlice, TN.dSliceE, TN.dNo, TN.dEnd, TN.fNo, TN.sSeq, TN.sNext, TN.sDrop, TN.sRet, TN.sRetL, TN.sRetN, TN.sIf, TN.sAsg, TN.sAsgL, TN.sStore, TN.sForL, TN.sForT, TN.sForR, TN.sForR2, TN.tgN, TN.tgTup, TN.tgCons, TN.tgNil, TN.dP, TN.dB, TN.dCall, TN.dCallL, TN.dCallB, TN.dCallBL, TN.dCons, TN.dNil, TN.dTup, TN.dLst, TN.dKeep, TN.dVar, TN.fVar, TN.fPeek, TN.fC, TN.f2, TN.d2, TN.d2V, TN.f1, TN.d1, TN.fCB, TN.dCB, TN.dCBL, TN.fNil, TN.fCons, TN.asBool, TN.dTest, TN.bAnd, TN.bOr, TN.bNot, TN.dAnd, TN.dOr, TN.dNot, TN.fAndV, TN.fOrV, TN.fNotV, TN.dAndV, TN.dOrV, TN.dNotV, TN.dIfE, TN.dIfL, TN.fIfE, TN.fChain, TN.fSlice, TN.dSlice, TN.fNo, TN.fEnd, TN.dAppend, TN.dInsert, TN.dPopAt, TN.ownL, TN.start0, TN.begB, TN.backD, TN.wipeD, TN.dYes, TN.sNever, List.getElem?_cons_zero, List.getElem?_cons_succ, List.set_cons_zero, List.set_cons_succ, List.map_cons, List.map_nil, List.length_cons, List.length_nil, List.cons_append, List.nil_append, List.replicate_succ, List.replicate_zero, Option.map_some, Option.map_none, Nat.add_one_sub_one, Nat.sub_zero, Nat.sub_self, Nat.zero_add, reduceCtorEq, Option.some.injEq, PyData.int.injEq, PyData.str.injEq, PyData.bool.injEq, PyData.list.injEq, PyData.tuple.injEq, Sl.sh.injEq, Sl.ow.injEq, List.cons.injEq, exists_eq_left', exists_eq_left, true_implies, false_implies, and_true, true_and, forall_const, Option.isSome_some, TN.imp_ff, TN.imp_tf, TN.imp_tt, exists_eq_left, exists_eq_left', exists_eq])
      refine comp_fil tupL tupL (fun r => decide (ixS x r < ixS p.1 r)) (fun r => r ∈ Rs) rfl (fun _ => rfl) ?_ ?_ Rs [] (fun _ h => h) (by simp; omega) ?_
      · intro r R hr kk
        (simp only [TN.dCallO, TN.dCallOI, TN.dCallNO, TN.oVar, TN.sCut, TN.tgLst, TN.iK, TN.iV, TN.iLT, TN.pNew, TN.dCallN, TN.dCompI2, TN.dLAddE, TN.oD, TN.sDNew, TN.sPutD, TN.fGetO, TN.fGetO2, TN.fInO, TN.fNinO, TN.dVarD, TN.dExtS, TN.mOwn, TN.dCallM, TN.mVar, TN.sRetV, TN.dAug, TN.dCallNT, TN.dCallNL, TN.fIxTs, TN.sForI, TN.dCompI, TN.dCompL, TN.dCompT, TN.dCompR, TN.iL, TN.iT, TN.iR1, TN.iR2, TN.iR3, TN.iS, TN.iE, TN.iRv, TN.iZ, TN.dKeepT, TN.dCallT, TN.pTup, TN.pCons, TN.pOwn, TN.sAsgT, TN.sRetT, TN.tpL, TN.fIxT, TN.fTp, TN.dAppendT, TN.dReverseT, TN.dClearT, TN.dVarT, TN.dReverse, TN.dClear, TN.dPop, Pt.d, Sl.tp.injEq, TN.startF, TN.dCallV, Sl.fn.injEq, TN.dCallF, TN.dLRev, TN.dLAdd, TN.dLSlP, TN.dLSlice, TN.dSliceE, TN.dNo, TN.dEnd, TN.fNo, TN.sSeq, TN.sNext, TN.sDrop, TN.sRet, TN.sRetL, TN.sRetN, TN.sIf, TN.sAsg, TN.sAsgL, TN.sStore, TN.sForL, TN.sForT, TN.sForR, TN.sForR2, TN.tgN, TN.tgTup, TN.tgCons, TN.tgNil, TN.dP, TN.dB, TN.dCall, TN.dCallL, TN.dCallB, TN.dCallBL, TN.dCons, TN.dNil, TN.dTup, TN.dLst, TN.dKeep, TN.dVar, TN.fVar, TN.fPeek, TN.fC, TN.f2, TN.d2, TN.d2V, TN.f1, TN.d1, TN.fCB, TN.dCB, TN.dCBL, TN.fNil, TN.fCons, TN.asBool, TN.dTest, TN.bAnd, TN.bOr, TN.bNot, TN.dAnd, TN.dOr, TN.dNot, TN.fAndV, TN.fOrV, TN.fNotV, TN.dAndV, TN.dOrV, TN.dNotV, TN.dIfE, TN.dIfL, TN.fIfE, TN.fChain, TN.fSlice, TN.dSlice, TN.fNo, TN.fEnd, TN.dAppend, TN.dInsert, TN.dPopAt, TN.ownL, TN.start0, TN.begB, TN.backD, TN.wipeD, TN.dYes, TN.sNever, List.getElem?_cons_zero, List.getElem?_cons_succ, List.set_cons_zero, List.set_cons_succ, List.map_cons, List.map_nil, List.length_cons, List.length_nil, List.cons_append, List.nil_append, List.replicate_succ, List.replicate_zero, Option.map_some, Option.map_none, Nat.add_one_sub_one, Nat.sub_zero, Nat.sub_self, Nat.zero_add, reduceCtorEq, Option.some.injEq, PyData.int.injEq, PyData.str.injEq, PyData.bool.injEq, PyData.list.injEq, PyData.tuple.injEq, Sl.sh.injEq, Sl.ow.injEq, List.cons.injEq, exists_eq_left', exists_eq_left, true_implies, false_implies, and_true, true_and, forall_const, Option.isSome_some, TN.imp_ff, TN.imp_tf, TN.imp_tt, exists_eq_left, exists_eq_left', exists_eq])
        have rp := ro.all r hr
        simp only [oTIx (rp.mem_iff.mpr p1), oTIx (rp.mem_iff.mpr xt), oU_int]
        have e : decide ((ixS x r : Int) < (ixS p.1 r : Int)) = decide (ixS x r < ixS p.1 r) := decide_eq_decide.mpr (by omega)
        rw [e]
        exact ⟨_, rfl, kk⟩
      · intro r R hr kk
        (simp only [TN.dCallO, TN.dCallOI, TN.dCallNO, TN.oVar, TN.sCut, TN.tgLst, TN.iK, TN.iV, TN.iLT, TN.pNew, TN.dCallN, TN.dCompI2, TN.dLAddE, TN.oD, TN.sDNew, TN.sPutD, TN.fGetO, TN.fGetO2, TN.fInO, TN.fNinO, TN.dVarD, TN.dExtS, TN.mOwn, TN.dCallM, TN.mVar, TN.sRetV, TN.dAug, TN.dCallNT, TN.dCallNL, TN.fIxTs, TN.sForI, TN.dCompI, TN.dCompL, TN.dCompT, TN.dCompR, TN.iL, TN.iT, TN.iR1, TN.iR2, TN.iR3, TN.iS, TN.iE, TN.iRv, TN.iZ, TN.dKeepT, TN.dCallT, TN.pTup, TN.pCons, TN.pOwn, TN.sAsgT, TN.sRetT, TN.tpL, TN.fIxT, TN.fTp, TN.dAppendT, TN.dReverseT, TN.dClearT, TN.dVarT, TN.dReverse, TN.dClear, TN.dPop, Pt.d, Sl.tp.injEq, TN.startF, TN.dCallV, Sl.fn.injEq, TN.dCallF, TN.dLRev, TN.dLAdd, TN.dLSlP, TN.dLSlice, TN.dSliceE, TN.dNo, TN.dEnd, TN.fNo, TN.sSeq, TN.sNext, TN.sDrop, TN.sRet, TN.sRetL, TN.sRetN, TN.sIf, TN.sAsg, TN.sAsgL, TN.sStore, TN.sForL, TN.sForT, TN.sForR, TN.sForR2, TN.tgN, TN.tgTup, TN.tgCons, TN.tgNil, TN.dP, TN.dB, TN.dCall, TN.dCallL, TN.dCallB, TN.dCallBL, TN.dCons, TN.dNil, TN.dTup, TN.dLst, TN.dKeep, TN.dVar, TN.fVar, TN.fPeek, TN.fC, TN.f2, TN.d2, TN.d2V, TN.f1, TN.d1, TN.fCB, TN.dCB, TN.dCBL, TN.fNil, TN.fCons, TN.asBool, TN.dTest, TN.bAnd, TN.bOr, TN.bNot, TN.dAnd, TN.dOr, TN.dNot, TN.fAndV, TN.fOrV, TN.fNotV, TN.dAndV, TN.dOrV, TN.dNotV, TN.dIfE, TN.dIfL, TN.fIfE, TN.fChain, TN.fSlice, TN.dSlice, TN.fNo, TN.fEnd, TN.dAppend, TN.dInsert, TN.dPopAt, TN.ownL, TN.start0, TN.begB, TN.backD, TN.wipeD, TN.dYes, TN.sNever, List.getElem?_cons_zero, List.getElem?_cons_succ, List.set_cons_zero, List.set_cons_succ, List.map_cons, List.map_nil, List.length_cons, List.length_nil, List.cons_append, List.nil_append, List.replicate_succ, List.replicate_zero, Option.map_some, Option.map_none, Nat.add_one_sub_one, Nat.sub_zero, Nat.sub_self, Nat.zero_add, reduceCtorEq, Option.some.injEq, PyData.int.injEq, PyData.str.injEq, PyData.bool.injEq, PyData.list.injEq, PyData.tuple.injEq, Sl.sh.injEq, Sl.ow.injEq, List.cons.injEq, exists_eq_left', exists_eq_left, true_implies, false_implies, and_true, true_and, forall_const, Option.isSome_some, TN.imp_ff, TN.imp_tf, TN.imp_tt, exists_eq_left, exists_eq_left', exists_eq])
        exact kk
      rw [List.nil_append]
      (simp only [TN.dCallO, TN.dCallOI, TN.dCallNO, TN.oVar, TN.sCut, TN.tgLst, TN.iK, TN.iV, TN.iLT, TN.pNew, TN.dCallN, TN.dCompI2, TN.dLAddE, TN.oD, TN.sDNew, TN.sPutD, TN.fGetO, TN.fGetO2, TN.fInO, TN.fNinO, TN.dVarD, TN.dExtS, TN.mOwn, TN.dCallM, TN.mVar, TN.sRetV, TN.dAug, TN.dCallNT, TN.dCallNL, TN.fIxTs, TN.sForI, TN.dCompI, TN.dCompL, TN.dCompT, TN.dCompR, TN.iL, TN.iT, TN.iR1, TN.iR2, TN.iR3, TN.iS, TN.iE, TN.iRv, TN.iZ, TN.dKeepT, TN.dCallT, TN.pTup, TN.pCons, TN.pOwn, TN.sAsgT, TN.sRetT, TN.tpL, TN.fIxT, TN.fTp, TN.dAppendT, TN.dReverseT, TN.dClearT, TN.dVarT, TN.dReverse, TN.dClear, TN.dPop, Pt.d, Sl.tp.injEq, TN.startF, TN.dCallV, Sl.fn.injEq, TN.dCallF, TN.dLRev, TN.dLAdd, TN.dLSlP, TN.dLSlice, TN.dSliceE, TN.dNo, TN.dEnd, TN.fNo, TN.sSeq, TN.sNext, TN.sDrop, TN.sRet, TN.sRetL, TN.sRetN, TN.sIf, TN.sAsg, TN.sAsgL, TN.sStore, TN.sForL, TN.sForT, TN.sForR, TN.sForR2, TN.tgN, TN.tgTup, TN.tgCons, TN.tgNil, TN.dP, TN.dB, TN.dCall, TN.dCallL, TN.dCallB, TN.dCallBL, TN.dCons, TN.dNil, TN.dTup, TN.dLst, TN.dKeep, TN.dVar, TN.fVar, TN.fPeek, TN.fC, TN.f2, TN.d2, TN.d2V, TN.f1, TN.d1, TN.fCB, TN.dCB, TN.dCBL, TN.fNil, TN.fCons, TN.asBool, TN.dTest, TN.bAnd, TN.bOr, TN.bNot, TN.dAnd, TN.dOr, TN.dNot, TN.fAndV, TN.fOrV, TN.fNotV, TN.dAndV, TN.dOrV, TN.dNotV, TN.dIfE, TN.dIfL, TN.fIfE, TN.fChain, TN.fSlice, TN.dSlice, TN.fNo, TN.fEnd, TN.dAppend, TN.dInsert, TN.dPopAt, TN.ownL, TN.start0, TN.begB, TN.backD, TN.wipeD, TN.dYes, TN.sNever, List.getElem?_cons_zero, List.getElem?_cons_succ, List.set_cons_zero, List.set_cons_succ, List.map_cons, List.map_nil, List.length_cons, List.length_nil, List.cons_append, List.nil_append, List.replicate_succ, List.replicate_zero, Option.map_some, Option.map_none, Nat.add_one_sub_one, Nat.sub_zero, Nat.sub_self, Nat.zero_add, reduceCtorEq, Option.some.injEq, PyData.int.injEq, PyData.str.injEq, PyData.bool.injEq, PyData.list.injEq, PyData.tuple.injEq, Sl.sh.injEq, Sl.ow.injEq, List.cons.injEq, exists_eq_left', exists_eq_left, true_implies, false_implies, and_true, true_and, forall_const, Option.isSome_some, TN.imp_ff, TN.imp_tf, TN.imp_tt, exists_eq_left, exists_eq_left', exists_eq])
      have lP := congrArg List.length eP
      rw [List.length_append, List.length_cons] at lP
      have lf : (done.filter fun p => wrongR Rs p.1 x).length ≤ done.length := List.length_filter_le _ _
      refine ⟨by omega, _, oEq_nilT (fun r hr => okr r (List.mem_filter.mp hr).1), _, rfl, fun c => ?_, fun c => ?_⟩
      · have ef : ((done ++ [p]).filter fun p => wrongR Rs p.1 x) = (done.filter fun p => wrongR Rs p.1 x) ++ [p] := by rw [List.filter_append, List.filter_cons_of_pos (p := fun p : Str × Nat => wrongR Rs p.1 x) c]; rfl
        refine ⟨_, show fGetK 1 (fVar 5) _ = some _ from len_val nk hp, by rw [List.length_map, List.length_map]; omega, nx2 _ ⟨done ++ [p], .sh (.str p.1), by rw [eP]; simp, ?_⟩⟩
        rw [ef]
        simp
      · have ef : ((done ++ [p]).filter fun p => wrongR Rs p.1 x) = done.filter fun p => wrongR Rs p.1 x := by rw [List.filter_append, List.filter_cons_of_neg (p := fun p : Str × Nat => wrongR Rs p.1 x) (by rw [Bool.not_eq_true]; exact c)]; simp
        refine nx2 _ ⟨done ++ [p], .sh (.str p.1), by rw [eP]; simp, ?_⟩
        rw [ef]
        rfl
    · rintro ρ ⟨done, b5, eP, rfl⟩
      rw [List.append_nil] at eP
      subst eP
      (simp only [TN.dCallO, TN.dCallOI, TN.dCallNO, TN.oVar, TN.sCut, TN.tgLst, TN.iK, TN.iV, TN.iLT, TN.pNew, TN.dCallN, TN.dCompI2, TN.dLAddE, TN.oD, TN.sDNew, TN.sPutD, TN.fGetO, TN.fGetO2, TN.fInO, TN.fNinO, TN.dVarD, TN.dExtS, TN.mOwn, TN.dCallM, TN.mVar, TN.sRetV, TN.dAug, TN.dCallNT, TN.dCallNL, TN.fIxTs, TN.sForI, TN.dCompI, TN.dCompL, TN.dCompT, TN.dCompR, TN.iL, TN.iT, TN.iR1, TN.iR2, TN.iR3, TN.iS, TN.iE, TN.iRv, TN.iZ, TN.dKeepT, TN.dCallT, TN.pTup, TN.pCons, TN.pOwn, TN.sAsgT, TN.sRetT, TN.tpL, TN.fIxT, TN.fTp, TN.dAppendT, TN.dReverseT, TN.dClearT, TN.dVarT, TN.dReverse, TN.dClear, TN.dPop, Pt.d, Sl.tp.injEq, TN.startF, TN.dCallV, Sl.fn.injEq, TN.dCallF, TN.dLRev, TN.dLAdd, TN.dLSlP, TN.dLSlice, TN.dSliceE, TN.dNo, TN.dEnd, TN.fNo, TN.sSeq, TN.sNext, TN.sDrop, TN.sRet, TN.sRetL, TN.sRetN, TN.sIf, TN.sAsg, TN.sAsgL, TN.sStore, TN.sForL, TN.sForT, TN.sForR, TN.sForR2, TN.tgN, TN.tgTup, TN.tgCons, TN.tgNil, TN.dP, TN.dB, TN.dCall, TN.dCallL, TN.dCallB, TN.dCallBL, TN.dCons, TN.dNil, TN.dTup, TN.dLst, TN.dKeep, TN.dVar, TN.fVar, TN.fPeek, TN.fC, TN.f2, TN.d2, TN.d2V, TN.f1, TN.d1, TN.fCB, TN.dCB, TN.dCBL, TN.fNil, TN.fCons, TN.asBool, TN.dTest, TN.bAnd, TN.bOr, TN.bNot, TN.dAnd, TN.dOr, TN.dNot, TN.fAndV, TN.fOrV, TN.fNotV, TN.dAndV, TN.dOrV, TN.dNotV, TN.dIfE, TN.dIfL, TN.fIfE, TN.fChain, TN.fSlice, TN.dSlice, TN.fNo, TN.fEnd, TN.dAppend, TN.dInsert, TN.dPopAt, TN.ownL, TN.start0, TN.begB, TN.backD, TN.wipeD, TN.dYes, TN.sNever, List.getElem?_cons_zero, List.getElem?_cons_succ, List.set_cons_zero, List.set_cons_succ, List.map_cons, List.map_nil, List.length_cons, List.length_nil, List.cons_append, List.nil_append, List.replicate_succ, List.replicate_zero, Option.map_some, Option.map_none, Nat.add_one_sub_one, Nat.sub_zero, Nat.sub_self, Nat.zero_add, reduceCtorEq, Option.some.injEq, PyData.int.injEq, PyData.str.injEq, PyData.bool.injEq, PyData.list.injEq, PyData.tuple.injEq, Sl.sh.injEq, Sl.ow.injEq, List.cons.injEq, exists_eq_left', exists_eq_left, true_implies, false_implies, and_true, true_and, forall_const, Option.isSome_some, TN.imp_ff, TN.imp_tf, TN.imp_tt, exists_eq_left, exists_eq_left', exists_eq])
      have hM := oMaxI_0 ((P.filter fun p => wrongR Rs p.1 x).map (·.2))
      rw [List.map_cons] at hM
      simp only [hM]
      refine ⟨_, oAdd_int, _, _, rfl, rfl, by rw [List.length_map]; omega, ?_⟩
      rw [show ((maxN ((P.filter fun p => wrongR Rs p.1 x).map (·.2)) : Nat) : Int) + 1 = ((1 + maxN ((P.filter fun p => wrongR Rs p.1 x).map (·.2)) : Nat) : Int) by omega, len_put xk]
      exact nx _ ⟨pre ++ [x], rest, _, _, _, _, by rw [et]; simp, by rw [List.length_append, List.length_singleton], by rw [stp]⟩

abbrev s__law_least : Stmt := topS 34
theorem sc__law_least : FnScope ["lines", "back", "found", "size", "some", "other", "line", "one"] ["lines"] (defScope s__law_least) := ⟨rfl, rfl, rfl, by decide +kernel, rfl, by decide +kernel, by decide +kernel⟩
theorem ok__law_least (b : Blt mg) (h__law_heights : Has P w K mg base "_law_heights" 1 ["lines"] (sp0 K semHeightsF)) {f : Addr} {fd : FuncData} (F : Fun K "_law_least" "_law_least" s__law_least f fd) : FnG P w K mg base CX0 2 f fd ["lines"] (sp0 K semLeastF) := by
  refine fn0 (k := 1) F sc__law_least (fun ds Q h => by obtain ⟨t, x, rfl, _⟩ := h; rfl) (fun cdv A outer s H E hg hr =>
    have nd := sc__law_least.nd
    have hu := hr.units
    have hu1 := hu_of hr
    (pss_cons (ps_set (i := 1) nd rfl (by first | exact Or.inl rfl | exact Or.inr rfl) (pe_has (h__law_heights.up (by decide)) hg hr (by rfl) (pa_cons (pe_lc (own := [("line", 6)]) (g := gName 6) (tt := tYes) rfl nd (pi_list (pv 0)) (blkOk_by (own := [("line", 6)]) (N := ["lines", "back", "found", "size", "some", "other", "line", "one"]) (sc := defScope s__law_least) (by decide +kernel)) (fun _ _ _ _ _ => pg_name (i := 6) nd rfl (by first | exact Or.inl rfl | exact Or.inr rfl)) (fun _ _ _ _ _ => by exact pts_nil) (fun _ _ _ _ _ => by exact (pe_revX (pv 6)))) pa_nil)))
 (pss_cons (ps_set (i := 2) nd rfl (by first | exact Or.inl rfl | exact Or.inr rfl) (pe_tupX pa_nil))
 (pss_cons (ps_for PassesOwn.never rfl (pi_range3 (by rfl) b.range (pa_cons (pe_maxVals rfl (by rfl) b.max (pv 1)) (pa_cons pe_int (pa_cons (pe_un un_neg pe_int) pa_nil)))) (pg_name (i := 3) nd rfl (by first | exact Or.inl rfl | exact Or.inr rfl)) (pss_cons (ps_setLc (i := 4) (own := [("one", 7)]) (g := gName 7) rfl nd rfl rfl (sw_true rfl rfl rfl (by decide +kernel)) (pi_tup (pe_ix ix_seq (pv 0) pe_int (fun _ _ => rfl))) (blkOk_by (own := [("one", 7)]) (N := ["lines", "back", "found", "size", "some", "other", "line", "one"]) (sc := defScope s__law_least) (by decide +kernel)) (fun _ _ _ _ _ => pg_name (i := 7) nd rfl (by first | exact Or.inl rfl | exact Or.inr rfl)) (fun _ _ _ _ _ => by exact (pts_one (pt_cmpR (op_eqD hu) (pe_dget hu1 (pv 1) (pv 7) (fun _ _ => rfl)) (pv 3) (nomark _)))) (fun _ _ _ _ _ => by exact (pv 7)))
 (pss_cons (ps_for PassesOwn.never rfl (pi_tup (pe_slice sl_U (pv 2) (po_some (pe_un un_neg pe_int)) po_none)) (pg_name (i := 5) nd rfl (by first | exact Or.inl rfl | exact Or.inr rfl)) (pss_one (ps_setLc (i := 4) (own := [("one", 7)]) (g := gName 7) rfl nd rfl rfl (sw_true rfl rfl rfl (by decide +kernel)) (pi_list (pv 4)) (blkOk_by (own := [("one", 7)]) (N := ["lines", "back", "found", "size", "some", "other", "line", "one"]) (sc := defScope s__law_least) (by decide +kernel)) (fun _ _ _ _ _ => pg_name (i := 7) nd rfl (by first | exact Or.inl rfl | exact Or.inr rfl)) (fun _ _ _ _ _ => by exact (pts_one (pt_cmpR (op_eqD hu) (pe_lc (own := [("line", 6)]) (g := gName 6) rfl nd (pi_list (pv 0)) (blkOk_by (own := [("line", 6)]) (N := ["lines", "back", "found", "size", "some", "other", "line", "one"]) (by kernel_rfl)) (fun _ _ _ _ _ => pg_name (i := 6) nd rfl (by first | exact Or.inl rfl | exact Or.inr rfl)) (fun _ _ _ _ _ => by exact (pts_one (pt_cmpR op_gtU (pe_tidx (pv 6) (pv 5)) (pe_tidx (pv 6) (pv 7)) (nomark _)))) (fun _ _ _ _ _ => by exact (pv 6))) (pe_lst pa_nil) (nomark _)))) (fun _ _ _ _ _ => by exact (pv 7)))))
 (pss_one (ps_set (i := 2) nd rfl (by first | exact Or.inl rfl | exact Or.inr rfl) (pe_op op_addU (pv 2) (pe_tupX (pa_cons (pe_callB (cr_minS rfl) (by rfl) b.min (by decide +kernel) (pa_cons (pv 4) pa_nil)) pa_nil))))))))
 (pss_one (ps_ret (pv 2)))))))
    (ls_seq (ls_asg (le_call (les_cons (LL.e (ll_compL (j := 6) (vs := [6]) (by decide) (by decide) (LP.e (lp_var (i := 0))) lt_yes (LP.e (lp_rev (LP.m (lp_var (i := 6))))))) les_nil)) (lg_name (i := 1) (by decide)))
 (ls_seq (ls_asg (le_tup les_nil) (lg_name (i := 2) (by decide)))
 (ls_seq (ls_forI (li_rng3 (les_cons (le_maxV (LP.e (lp_var (i := 1)))) (les_cons (LP.e lp_int) (les_cons (LP.e (lp_un (LP.m lp_int) ru_neg)) les_nil)))) (lgp_of (lg_name (i := 3) (by decide))) (ls_seq (ls_asg (LL.e (ll_compT (j := 7) (vs := [7]) (by decide) (by decide) (LP.e (lp_op (LP.m (lp_var (i := 0))) (LP.m lp_int) rb_ix)) (LB.g (lb_test (LP.m (lp_op (LP.m (lp_dget (LP.m (lp_var (i := 1))) (LP.m (lp_var (i := 7))))) (LP.m (lp_var (i := 3))) rb_eq)))) (LP.e (lp_var (i := 7))))) (lg_name (i := 4) (by decide)))
 (ls_seq (ls_forT (LP.e (lp_slice (LP.m (lp_var (i := 2))) (lo_some (LP.m (lp_un (LP.m lp_int) ru_neg))) lo_none)) (lg_name (i := 5) (by decide)) (ls_asg (LL.e (ll_compL (j := 7) (vs := [7]) (by decide) (by decide) (LP.e (lp_var (i := 4))) (lt_test (le_op (LL.e (ll_compL (j := 6) (vs := [6]) (by decide) (by decide) (LP.e (lp_var (i := 0))) (LB.g (lb_test (LP.m (lp_op (LP.m (lp_tindex (LP.m (lp_var (i := 6))) (LP.m (lp_var (i := 5))))) (LP.m (lp_tindex (LP.m (lp_var (i := 6))) (LP.m (lp_var (i := 7))))) rb_U)))) (LP.e (lp_var (i := 6))))) (LL.e (ll_lst les_nil)) rb_eq)) (LP.e (lp_var (i := 7))))) (lg_name (i := 4) (by decide))))
 (ls_asg (le_op (LP.e (lp_var (i := 2))) (le_tup (les_cons (LP.e (lp_cb (lms_cons (LP.m (lp_var (i := 4))) lms_nil) rc_minS)) les_nil)) rb_add) (lg_name (i := 2) (by decide))))))
 (ls_ret (LP.e (lp_var (i := 2))))))) ?_
  rintro ds Q ⟨Rs, r0, rfl, ro, ne, q⟩
  (simp only [TN.dCallO, TN.dCallOI, TN.dCallNO, TN.oVar, TN.sCut, TN.tgLst, TN.iK, TN.iV, TN.iLT, TN.pNew, TN.dCallN, TN.dCompI2, TN.dLAddE, TN.oD, TN.sDNew, TN.sPutD, TN.fGetO, TN.fGetO2, TN.fInO, TN.fNinO, TN.dVarD, TN.dExtS, TN.mOwn, TN.dCallM, TN.mVar, TN.sRetV, TN.dAug, TN.dCallNT, TN.dCallNL, TN.fIxTs, TN.sForI, TN.dCompI, TN.dCompL, TN.dCompT, TN.dCompR, TN.iL, TN.iT, TN.iR1, TN.iR2, TN.iR3, TN.iS, TN.iE, TN.iRv, TN.iZ, TN.dKeepT, TN.dCallT, TN.pTup, TN.pCons, TN.pOwn, TN.sAsgT, TN.sRetT, TN.tpL, TN.fIxT, TN.fTp, TN.dAppendT, TN.dReverseT, TN.dClearT, TN.dVarT, TN.dReverse, TN.dClear, TN.dPop, Pt.d, Sl.tp.injEq, TN.startF, TN.dCallV, Sl.fn.injEq, TN.dCallF, TN.dLRev, TN.dLAdd, TN.dLSlP, TN.dLSlice, TN.dSliceE, TN.dNo, TN.dEnd, TN.fNo, TN.sSeq, TN.sNext, TN.sDrop, TN.sRet, TN.sRetL, TN.sRetN, TN.sIf, TN.sAsg, TN.sAsgL, TN.sStore, TN.sForL, TN.sForT, TN.sForR, TN.sForR2, TN.tgN, TN.tgTup, TN.tgCons, TN.tgNil, TN.dP, TN.dB, TN.dCall, TN.dCallL, TN.dCallB, TN.dCallBL, TN.dCons, TN.dNil, TN.dTup, TN.dLst, TN.dKeep, TN.dVar, TN.fVar, TN.fPeek, TN.fC, TN.f2, TN.d2, TN.d2V, TN.f1, TN.d1, TN.fCB, TN.dCB, TN.dCBL, TN.fNil, TN.fCons, TN.asBool, TN.dTest, TN.bAnd, TN.bOr, TN.bNot, TN.dAnd, TN.dOr, TN.dNot, TN.fAndV, TN.fOrV, TN.fNotV, TN.dAndV, TN.dOrV, TN.dNotV, TN.dIfE, TN.dIfL, TN.fIfE, TN.fChain, TN.fSlice, TN.dSlice, TN.fNo, TN.fEnd, TN.dAppend, TN.dInsert, TN.dPopAt, TN.ownL, TN.start0, TN.begB, TN.backD, TN.wipeD, TN.dYes, TN.sNever, List.getElem?_cons_zero, List.getElem?_cons_succ, List.set_cons_zero, List.set_cons_succ, List.map_cons, List.map_nil, List.length_cons, List.length_nil, List.cons_append, List.nil_append, List.replicate_succ, List.replicate_zero, Option.map_some, Option.map_none, Nat.add_one_sub_one, Nat.sub_zero, Nat.sub_self, Nat.zero_add, reduceCtorEq, Option.some.injEq, PyData.int.injEq, PyData.str.injEq, PyData.bool.injEq, PyData.list.injEq, PyData.tuple.injEq, Sl.sh.injEq, Sl.ow.injEq, List.cons.injEq, exists_eq_left', exists_eq_left, true_implies, false_implies, and_true, true_and, forall_const, Option.isSome_some, TN.imp_ff, TN.imp_tf, TN.imp_tt, exists_eq_left, exists_eq_left', exists_eq])
  have tf := ro.len
  have rf := ro.few
  refine comp_map tupL (fun r => tupL r.reverse) (fun r => r ∈ Rs) rfl (fun _ => rfl) (fun r R hr kk => ?_) Rs [] (fun _ h => h) (by simp; omega) ?_
  · (simp only [TN.dCallO, TN.dCallOI, TN.dCallNO, TN.oVar, TN.sCut, TN.tgLst, TN.iK, TN.iV, TN.iLT, TN.pNew, TN.dCallN, TN.dCompI2, TN.dLAddE, TN.oD, TN.sDNew, TN.sPutD, TN.fGetO, TN.fGetO2, TN.fInO, TN.fNinO, TN.dVarD, TN.dExtS, TN.mOwn, TN.dCallM, TN.mVar, TN.sRetV, TN.dAug, TN.dCallNT, TN.dCallNL, TN.fIxTs, TN.sForI, TN.dCompI, TN.dCompL, TN.dCompT, TN.dCompR, TN.iL, TN.iT, TN.iR1, TN.iR2, TN.iR3, TN.iS, TN.iE, TN.iRv, TN.iZ, TN.dKeepT, TN.dCallT, TN.pTup, TN.pCons, TN.pOwn, TN.sAsgT, TN.sRetT, TN.tpL, TN.fIxT, TN.fTp, TN.dAppendT, TN.dReverseT, TN.dClearT, TN.dVarT, TN.dReverse, TN.dClear, TN.dPop, Pt.d, Sl.tp.injEq, TN.startF, TN.dCallV, Sl.fn.injEq, TN.dCallF, TN.dLRev, TN.dLAdd, TN.dLSlP, TN.dLSlice, TN.dSliceE, TN.dNo, TN.dEnd, TN.fNo, TN.sSeq, TN.sNext, TN.sDrop, TN.sRet, TN.sRetL, TN.sRetN, TN.sIf, TN.sAsg, TN.sAsgL, TN.sStore, TN.sForL, TN.sForT, TN.sForR, TN.sForR2, TN.tgN, TN.tgTup, TN.tgCons, TN.tgNil, TN.dP, TN.dB, TN.dCall, TN.dCallL, TN.dCallB, TN.dCallBL, TN.dCons, TN.dNil, TN.dTup, TN.dLst, TN.dKeep, TN.dVar, TN.fVar, TN.fPeek, TN.fC, TN.f2, TN.d2, TN.d2V, TN.f1, TN.d1, TN.fCB, TN.dCB, TN.dCBL, TN.fNil, TN.fCons, TN.asBool, TN.dTest, TN.bAnd, TN.bOr, TN.bNot, TN.dAnd, TN.dOr, TN.dNot, TN.fAndV, TN.fOrV, TN.fNotV, TN.dAndV, TN.dOrV, TN.dNotV, TN.dIfE, TN.dIfL, TN.fIfE, TN.fChain, TN.fSlice, TN.dSlice, TN.fNo, TN.fEnd, TN.dAppend, TN.dInsert, TN.dPopAt, TN.ownL, TN.start0, TN.begB, TN.backD, TN.wipeD, TN.dYes, TN.sNever, List.getElem?_cons_zero, List.getElem?_cons_succ, List.set_cons_zero, List.set_cons_succ, List.map_cons, List.map_nil, List.length_cons, List.length_nil, List.cons_append, List.nil_append, List.replicate_succ, List.replicate_zero, Option.map_some, Option.map_none, Nat.add_one_sub_one, Nat.sub_zero, Nat.sub_self, Nat.zero_add, reduceCtorEq, Option.some.injEq, PyData.int.injEq, PyData.str.injEq, PyData.bool.injEq, PyData.list.injEq, PyData.tuple.injEq, Sl.sh.injEq, Sl.ow.injEq, List.cons.injEq, exists_eq_left', exists_eq_left, true_implies, false_implies, and_true, true_and, forall_const, Option.isSome_some, TN.imp_ff, TN.imp_tf, TN.imp_tt, exists_eq_left, exists_eq_left', exists_eq])
    have e : oRev (tupL r) = some (tupL r.reverse) := oRev_tupL
    exact ⟨_, e, kk⟩
  rw [List.nil_append]
  refine ⟨Rs.map List.reverse, r0.reverse, by rw [folkD, List.map_map]; rfl, ro.rev, _, rfl, by omega, ?_⟩
  have ef : frontF (Rs.map List.reverse) r0.reverse = lensL Rs r0 := by
    unfold frontF
    rw [List.map_map, List.reverse_reverse, show (List.reverse ∘ List.reverse : List Str → List Str) = id from funext fun l => List.reverse_reverse l, List.map_id]
  rw [ef]
  unfold dMaxV
  (simp only [TN.dCallO, TN.dCallOI, TN.dCallNO, TN.oVar, TN.sCut, TN.tgLst, TN.iK, TN.iV, TN.iLT, TN.pNew, TN.dCallN, TN.dCompI2, TN.dLAddE, TN.oD, TN.sDNew, TN.sPutD, TN.fGetO, TN.fGetO2, TN.fInO, TN.fNinO, TN.dVarD, TN.dExtS, TN.mOwn, TN.dCallM, TN.mVar, TN.sRetV, TN.dAug, TN.dCallNT, TN.dCallNL, TN.fIxTs, TN.sForI, TN.dCompI, TN.dCompL, TN.dCompT, TN.dCompR, TN.iL, TN.iT, TN.iR1, TN.iR2, TN.iR3, TN.iS, TN.iE, TN.iRv, TN.iZ, TN.dKeepT, TN.dCallT, TN.pTup, TN.pCons, TN.pOwn, TN.sAsgT, TN.sRetT, TN.tpL, TN.fIxT, TN.fTp, TN.dAppendT, TN.dReverseT, TN.dClearT, TN.dVarT, TN.dReverse, TN.dClear, TN.dPop, Pt.d, Sl.tp.injEq, TN.startF, TN.dCallV, Sl.fn.injEq, TN.dCallF, TN.dLRev, TN.dLAdd, TN.dLSlP, TN.dLSlice, TN.dSliceE, TN.dNo, TN.dEnd, TN.fNo, TN.sSeq, TN.sNext, TN.sDrop, TN.sRet, TN.sRetL, TN.sRetN, TN.sIf, TN.sAsg, TN.sAsgL, TN.sStore, TN.sForL, TN.sForT, TN.sForR, TN.sForR2, TN.tgN, TN.tgTup, TN.tgCons, TN.tgNil, TN.dP, TN.dB, TN.dCall, TN.dCallL, TN.dCallB, TN.dCallBL, TN.dCons, TN.dNil, TN.dTup, TN.dLst, TN.dKeep, TN.dVar, TN.fVar, TN.fPeek, TN.fC, TN.f2, TN.d2, TN.d2V, TN.f1, TN.d1, TN.fCB, TN.dCB, TN.dCBL, TN.fNil, TN.fCons, TN.asBool, TN.dTest, TN.bAnd, TN.bOr, TN.bNot, TN.dAnd, TN.dOr, TN.dNot, TN.fAndV, TN.fOrV, TN.fNotV, TN.dAndV, TN.dOrV, TN.dNotV, TN.dIfE, TN.dIfL, TN.fIfE, TN.fChain, TN.fSlice, TN.dSlice, TN.fNo, TN.fEnd, TN.dAppend, TN.dInsert, TN.dPopAt, TN.ownL, TN.start0, TN.begB, TN.backD, TN.wipeD, TN.dYes, TN.sNever, List.getElem?_cons_zero, List.getElem?_cons_succ, List.set_cons_zero, List.set_cons_succ, List.map_cons, List.map_nil, List.length_cons, List.length_nil, List.cons_append, List.nil_append, List.replicate_succ, List.replicate_zero, Option.map_some, Option.map_none, Nat.add_one_sub_one, Nat.sub_zero, Nat.sub_self, Nat.zero_add, reduceCtorEq, Option.some.injEq, PyData.int.injEq, PyData.str.injEq, PyData.bool.injEq, PyData.list.injEq, PyData.tuple.injEq, Sl.sh.injEq, Sl.ow.injEq, List.cons.injEq, exists_eq_left', exists_eq_left, true_implies, false_implies, and_true, true_and, forall_const, Option.isSome_some, TN.imp_ff, TN.imp_tf, TN.imp_tt, exists_eq_left, exists_eq_left', exists_eq])
  have pn : lensL Rs r0 ≠ [] := fun z => by
    have := lens_len Rs r0
    rw [z] at this
    exact ne (List.length_eq_zero_iff.mp this.symm)
  refine ⟨_, _, rfl, len_vals _, by simpa using pn, ?_⟩
  rw [len_max pn]
  have c2 : (keptL Rs (lensL Rs r0)).length = topN Rs r0 := (kept_chain ro ne).2.1
  have tl : topN Rs r0 ≤ r0.length := top_le Rs r0
  have hm : maxN ((lensL Rs r0).map fun x => x.2) = topN Rs r0 := rfl
  rw [hm]
  refine ⟨_, rfl, _, _, _, _, ⟨rfl, rfl, rfl⟩, RgC.neg (by omega) (by omega) (by omega) (by omega), ?_⟩
  have er : rangeC (topN Rs r0 : Int) (-1) ((topN Rs r0 : Int) - 0).toNat = (List.range (topN Rs r0)).map fun (k : Nat) => PyData.int ((topN Rs r0 : Int) + (k : Int) * (-1)) := by
    rw [show ((topN Rs r0 : Int) - 0).toNat = topN Rs r0 by omega]; rfl
  rw [er]
  have kf := @keptF_first Rs r0 ro ne
  have kl := @keptF_later Rs r0 ro ne
  have hx3 : ∀ z ∈ keptL Rs (lensL Rs r0), z ∈ r0 := (kept_chain ro ne).2.2
  have nd := lens_nd (Rs := Rs) ro.nd
  have hs : ∀ x ∈ r0, ∃ n, (x, n) ∈ lensL Rs r0 := fun x hx => lens_has hx
  have okr : ∀ r ∈ Rs, ∀ x ∈ r, okS x := fun r hr x hx => (ro.isl x ((ro.all r hr).mem_iff.mp hx)).ok
  have e0 : Rs = r0 :: Rs.tail := by
    have := ro.hd
    cases Rs with
    | nil => cases this
    | cons a b => injection this with h; subst h; rfl
  have ix : oIx (folkD Rs) (.int 0) = some (tupL r0) := by rw [e0]; exact ixl0
  generalize hM : topN Rs r0 = m at *
  generalize hK : keptL Rs (lensL Rs r0) = KK at *
  generalize lensL Rs r0 = P at *
  refine forD_go (fun (k : Nat) => PyData.int ((m : Int) + (k : Int) * (-1))) (fun ls ρ => ∃ (L R : List Str) (b3 b4 b5 : Sl), KK = L ++ R ∧ ls = List.range' L.length R.length ∧ ρ = [.sh (folkD Rs), .sh (lenD P), .sh (tupL L), b3, b4, b5, .no, .no]) ?_ ?_ (List.range m) _ ⟨[], KK, .no, .no, .no, rfl, by rw [c2, List.range_eq_range']; rfl, rfl⟩
  rotate_left
  · rintro ρ ⟨L, R, b3, b4, b5, eL, el, rfl⟩
    have : R = [] := by
      have := congrArg List.length el
      rw [List.length_range'] at this
      exact List.length_eq_zero_iff.mp this.symm
    subst this
    rw [List.append_nil] at eL
    rw [← eL]
    (simp only [TN.dCallO, TN.dCallOI, TN.dCallNO, TN.oVar, TN.sCut, TN.tgLst, TN.iK, TN.iV, TN.iLT, TN.pNew, TN.dCallN, TN.dCompI2, TN.dLAddE, TN.oD, TN.sDNew, TN.sPutD, TN.fGetO, TN.fGetO2, TN.fInO, TN.fNinO, TN.dVarD, TN.dExtS, TN.mOwn, TN.dCallM, TN.mVar, TN.sRetV, TN.dAug, TN.dCallNT, TN.dCallNL, TN.fIxTs, TN.sForI, TN.dCompI, TN.dCompL, TN.dCompT, TN.dCompR, TN.iL, TN.iT, TN.iR1, TN.iR2, TN.iR3, TN.iS, TN.iE, TN.iRv, TN.iZ, TN.dKeepT, TN.dCallT, TN.pTup, TN.pCons, TN.pOwn, TN.sAsgT, TN.sRetT, TN.tpL, TN.fIxT, TN.fTp, TN.dAppendT, TN.dReverseT, TN.dClearT, TN.dVarT, TN.dReverse, TN.dClear, TN.dPop, Pt.d, Sl.tp.injEq, TN.startF, TN.dCallV, Sl.fn.injEq, TN.dCallF, TN.dLRev, TN.dLAdd, TN.dLSlP, TN.dLSlice, TN.dSliceE, TN.dNo, TN.dEnd, TN.fNo, TN.sSeq, TN.sNext, TN.sDrop, TN.sRet, TN.sRetL, TN.sRetN, TN.sIf, TN.sAsg, TN.sAsgL, TN.sStore, TN.sForL, TN.sForT, TN.sForR, TN.sForR2, TN.tgN, TN.tgTup, TN.tgCons, TN.tgNil, TN.dP, TN.dB, TN.dCall, TN.dCallL, TN.dCallB, TN.dCallBL, TN.dCons, TN.dNil, TN.dTup, TN.dLst, TN.dKeep, TN.dVar, TN.fVar, TN.fPeek, TN.fC, TN.f2, TN.d2, TN.d2V, TN.f1, TN.d1, TN.fCB, TN.dCB, TN.dCBL, TN.fNil, TN.fCons, TN.asBool, TN.dTest, TN.bAnd, TN.bOr, TN.bNot, TN.dAnd, TN.dOr, TN.dNot, TN.fAndV, TN.fOrV, TN.fNotV, TN.dAndV, TN.dOrV, TN.dNotV, TN.dIfE, TN.dIfL, TN.fIfE, TN.fChain, TN.fSlice, TN.dSlice, TN.fNo, TN.fEnd, TN.dAppend, TN.dInsert, TN.dPopAt, TN.ownL, TN.start0, TN.begB, TN.backD, TN.wipeD, TN.dYes, TN.sNever, List.getElem?_cons_zero, List.getElem?_cons_succ, List.set_cons_zero, List.set_cons_succ, List.map_cons, List.map_nil, List.length_cons, List.length_nil, List.cons_append, List.nil_append, List.replicate_succ, List.replicate_zero, Option.map_some, Option.map_none, Nat.add_one_sub_one, Nat.sub_zero, Nat.sub_self, Nat.zero_add, reduceCtorEq, Option.some.injEq, PyData.int.injEq, PyData.str.injEq, PyData.bool.injEq, PyData.list.injEq, PyData.tuple.injEq, Sl.sh.injEq, Sl.ow.injEq, List.cons.injEq, exists_eq_left', exists_eq_left, true_implies, false_implies, and_true, true_and, forall_const, Option.isSome_some, TN.imp_ff, TN.imp_tf, TN.imp_tt, exists_eq_left, exists_eq_left', exists_eq])
    exact q
  rintro k ls ρ E' ⟨L, R, b3, b4, b5, eL, el, rfl⟩ nx _ _ _
  cases R with
  | nil => cases el
  | cons y R =>
    rw [List.length_cons, List.range'_succ] at el
    injection el with e1 e2
    subst e1 e2
    have lL := congrArg List.length eL
    rw [c2, List.length_append, List.length_cons] at lL
    (simp only [TN.dCallO, TN.dCallOI, TN.dCallNO, TN.oVar, TN.sCut, TN.tgLst, TN.iK, TN.iV, TN.iLT, TN.pNew, TN.dCallN, TN.dCompI2, TN.dLAddE, TN.oD, TN.sDNew, TN.sPutD, TN.fGetO, TN.fGetO2, TN.fInO, TN.fNinO, TN.dVarD, TN.dExtS, TN.mOwn, TN.dCallM, TN.mVar, TN.sRetV, TN.dAug, TN.dCallNT, TN.dCallNL, TN.fIxTs, TN.sForI, TN.dCompI, TN.dCompL, TN.dCompT, TN.dCompR, TN.iL, TN.iT, TN.iR1, TN.iR2, TN.iR3, TN.iS, TN.iE, TN.iRv, TN.iZ, TN.dKeepT, TN.dCallT, TN.pTup, TN.pCons, TN.pOwn, TN.sAsgT, TN.sRetT, TN.tpL, TN.fIxT, TN.fTp, TN.dAppendT, TN.dReverseT, TN.dClearT, TN.dVarT, TN.dReverse, TN.dClear, TN.dPop, Pt.d, Sl.tp.injEq, TN.startF, TN.dCallV, Sl.fn.injEq, TN.dCallF, TN.dLRev, TN.dLAdd, TN.dLSlP, TN.dLSlice, TN.dSliceE, TN.dNo, TN.dEnd, TN.fNo, TN.sSeq, TN.sNext, TN.sDrop, TN.sRet, TN.sRetL, TN.sRetN, TN.sIf, TN.sAsg, TN.sAsgL, TN.sStore, TN.sForL, TN.sForT, TN.sForR, TN.sForR2, TN.tgN, TN.tgTup, TN.tgCons, TN.tgNil, TN.dP, TN.dB, TN.dCall, TN.dCallL, TN.dCallB, TN.dCallBL, TN.dCons, TN.dNil, TN.dTup, TN.dLst, TN.dKeep, TN.dVar, TN.fVar, TN.fPeek, TN.fC, TN.f2, TN.d2, TN.d2V, TN.f1, TN.d1, TN.fCB, TN.dCB, TN.dCBL, TN.fNil, TN.fCons, TN.asBool, TN.dTest, TN.bAnd, TN.bOr, TN.bNot, TN.dAnd, TN.dOr, TN.dNot, TN.fAndV, TN.fOrV, TN.fNotV, TN.dAndV, TN.dOrV, TN.dNotV, TN.dIfE, TN.dIfL, TN.fIfE, TN.fChain, TN.fSlice, TN.dSlice, TN.fNo, TN.fEnd, TN.dAppend, TN.dInsert, TN.dPopAt, TN.ownL, TN.start0, TN.begB, TN.backD, TN.wipeD, TN.dYes, TN.sNever, List.getElem?_cons_zero, List.getElem?_cons_succ, List.set_cons_zero, List.set_cons_succ, List.map_cons, List.map_nil, List.length_cons, List.length_nil, List.cons_append, List.nil_append, List.replicate_succ, List.replicate_zero, Option.map_some, Option.map_none, Nat.add_one_sub_one, Nat.sub_zero, Nat.sub_self, Nat.zero_add, reduceCtorEq, Option.some.injEq, PyData.int.injEq, PyData.str.injEq, PyData.bool.injEq, PyData.list.injEq, PyData.tuple.injEq, Sl.sh.injEq, Sl.ow.injEq, List.cons.injEq, exists_eq_left', exists_eq_left, true_implies, false_implies, and_true, true_and, forall_const, Option.isSome_some, TN.imp_ff, TN.imp_tf, TN.imp_tt, exists_eq_left, exists_eq_left', exists_eq])
    refine ⟨_, ix, _, rfl, ?_⟩
    refine comp_fil PyData.str PyData.str (fun x => decide ((x, m - L.length) ∈ P)) (fun x => x ∈ r0) rfl (fun _ => rfl) ?_ ?_ r0 [] (fun _ h => h) (by simp; omega) ?_
    · intro x S hx kk
      (simp only [TN.dCallO, TN.dCallOI, TN.dCallNO, TN.oVar, TN.sCut, TN.tgLst, TN.iK, TN.iV, TN.iLT, TN.pNew, TN.dCallN, TN.dCompI2, TN.dLAddE, TN.oD, TN.sDNew, TN.sPutD, TN.fGetO, TN.fGetO2, TN.fInO, TN.fNinO, TN.dVarD, TN.dExtS, TN.mOwn, TN.dCallM, TN.mVar, TN.sRetV, TN.dAug, TN.dCallNT, TN.dCallNL, TN.fIxTs, TN.sForI, TN.dCompI, TN.dCompL, TN.dCompT, TN.dCompR, TN.iL, TN.iT, TN.iR1, TN.iR2, TN.iR3, TN.iS, TN.iE, TN.iRv, TN.iZ, TN.dKeepT, TN.dCallT, TN.pTup, TN.pCons, TN.pOwn, TN.sAsgT, TN.sRetT, TN.tpL, TN.fIxT, TN.fTp, TN.dAppendT, TN.dReverseT, TN.dClearT, TN.dVarT, TN.dReverse, TN.dClear, TN.dPop, Pt.d, Sl.tp.injEq, TN.startF, TN.dCallV, Sl.fn.injEq, TN.dCallF, TN.dLRev, TN.dLAdd, TN.dLSlP, TN.dLSlice, TN.dSliceE, TN.dNo, TN.dEnd, TN.fNo, TN.sSeq, TN.sNext, TN.sDrop, TN.sRet, TN.sRetL, TN.sRetN, TN.sIf, TN.sAsg, TN.sAsgL, TN.sStore, TN.sForL, TN.sForT, TN.sForR, TN.sForR2, TN.tgN, TN.tgTup, TN.tgCons, TN.tgNil, TN.dP, TN.dB, TN.dCall, TN.dCallL, TN.dCallB, TN.dCallBL, TN.dCons, TN.dNil, TN.dTup, TN.dLst, TN.dKeep, TN.dVar, TN.fVar, TN.fPeek, TN.fC, TN.f2, TN.d2, TN.d2V, TN.f1, TN.d1, TN.fCB, TN.dCB, TN.dCBL, TN.fNil, TN.fCons, TN.asBool, TN.dTest, TN.bAnd, TN.bOr, TN.bNot, TN.dAnd, TN.dOr, TN.dNot, TN.fAndV, TN.fOrV, TN.fNotV, TN.dAndV, TN.dOrV, TN.dNotV, TN.dIfE, TN.dIfL, TN.fIfE, TN.fChain, TN.fSlice, TN.dSlice, TN.fNo, TN.fEnd, TN.dAppend, TN.dInsert, TN.dPopAt, TN.ownL, TN.start0, TN.begB, TN.backD, TN.wipeD, TN.dYes, TN.sNever, List.getElem?_cons_zero, List.getElem?_cons_succ, List.set_cons_zero, List.set_cons_succ, List.map_cons, List.map_nil, List.length_cons, List.length_nil, List.cons_append, List.nil_append, List.replicate_succ, List.replicate_zero, Option.map_some, Option.map_none, Nat.add_one_sub_one, Nat.sub_zero, Nat.sub_self, Nat.zero_add, reduceCtorEq, Option.some.injEq, PyData.int.injEq, PyData.str.injEq, PyData.bool.injEq, PyData.list.injEq, PyData.tuple.injEq, Sl.sh.injEq, Sl.ow.injEq, List.cons.injEq, exists_eq_left', exists_eq_left, true_implies, false_implies, and_true, true_and, forall_const, Option.isSome_some, TN.imp_ff, TN.imp_tf, TN.imp_tt, exists_eq_left, exists_eq_left', exists_eq])
      obtain ⟨n, hn⟩ := hs x hx
      have eg : oGet (lenD P) (.str x) = some (.int (n : Nat)) := len_get nd hn
      simp only [eg, oEq_int]
      have e : decide ((n : Int) = (m : Int) + (L.length : Int) * (-1)) = decide ((x, m - L.length) ∈ P) := decide_eq_decide.mpr ⟨fun z => by
        have : n = m - L.length := by omega
        subst this; exact hn, fun z => by
        have := len_one nd hn z
        omega⟩
      rw [e]
      exact ⟨_, rfl, kk⟩
    · intro x S _ kk
      (simp only [TN.dCallO, TN.dCallOI, TN.dCallNO, TN.oVar, TN.sCut, TN.tgLst, TN.iK, TN.iV, TN.iLT, TN.pNew, TN.dCallN, TN.dCompI2, TN.dLAddE, TN.oD, TN.sDNew, TN.sPutD, TN.fGetO, TN.fGetO2, TN.fInO, TN.fNinO, TN.dVarD, TN.dExtS, TN.mOwn, TN.dCallM, TN.mVar, TN.sRetV, TN.dAug, TN.dCallNT, TN.dCallNL, TN.fIxTs, TN.sForI, TN.dCompI, TN.dCompL, TN.dCompT, TN.dCompR, TN.iL, TN.iT, TN.iR1, TN.iR2, TN.iR3, TN.iS, TN.iE, TN.iRv, TN.iZ, TN.dKeepT, TN.dCallT, TN.pTup, TN.pCons, TN.pOwn, TN.sAsgT, TN.sRetT, TN.tpL, TN.fIxT, TN.fTp, TN.dAppendT, TN.dReverseT, TN.dClearT, TN.dVarT, TN.dReverse, TN.dClear, TN.dPop, Pt.d, Sl.tp.injEq, TN.startF, TN.dCallV, Sl.fn.injEq, TN.dCallF, TN.dLRev, TN.dLAdd, TN.dLSlP, TN.dLSlice, TN.dSliceE, TN.dNo, TN.dEnd, TN.fNo, TN.sSeq, TN.sNext, TN.sDrop, TN.sRet, TN.sRetL, TN.sRetN, TN.sIf, TN.sAsg, TN.sAsgL, TN.sStore, TN.sForL, TN.sForT, TN.sForR, TN.sForR2, TN.tgN, TN.tgTup, TN.tgCons, TN.tgNil, TN.dP, TN.dB, TN.dCall, TN.dCallL, TN.dCallB, TN.dCallBL, TN.dCons, TN.dNil, TN.dTup, TN.dLst, TN.dKeep, TN.dVar, TN.fVar, TN.fPeek, TN.fC, TN.f2, TN.d2, TN.d2V, TN.f1, TN.d1, TN.fCB, TN.dCB, TN.dCBL, TN.fNil, TN.fCons, TN.asBool, TN.dTest, TN.bAnd, TN.bOr, TN.bNot, TN.dAnd, TN.dOr, TN.dNot, TN.fAndV, TN.fOrV, TN.fNotV, TN.dAndV, TN.dOrV, TN.dNotV, TN.dIfE, TN.dIfL, TN.fIfE, TN.fChain, TN.fSlice, TN.dSlice, TN.fNo, TN.fEnd, TN.dAppend, TN.dInsert, TN.dPopAt, TN.ownL, TN.start0, TN.begB, TN.backD, TN.wipeD, TN.dYes, TN.sNever, List.getElem?_cons_zero, List.getElem?_cons_succ, List.set_cons_zero, List.set_cons_succ, List.map_cons, List.map_nil, List.length_cons, List.length_nil, List.cons_append, List.nil_append, List.replicate_succ, List.replicate_zero, Option.map_some, Option.map_none, Nat.add_one_sub_one, Nat.sub_zero, Nat.sub_self, Nat.zero_add, reduceCtorEq, Option.some.injEq, PyData.int.injEq, PyData.str.injEq, PyData.bool.injEq, PyData.list.injEq, PyData.tuple.injEq, Sl.sh.injEq, Sl.ow.injEq, List.cons.injEq, exists_eq_left', exists_eq_left, true_implies, false_implies, and_true, true_and, forall_const, Option.isSome_some, TN.imp_ff, TN.imp_tf, TN.imp_tt, exists_eq_left, exists_eq_left', exists_eq])
      exact kk
    rw [List.nil_append]
    (simp only [TN.dCallO, TN.dCallOI, TN.dCallNO, TN.oVar, TN.sCut, TN.tgLst, TN.iK, TN.iV, TN.iLT, TN.pNew, TN.dCallN, TN.dCompI2, TN.dLAddE, TN.oD, TN.sDNew, TN.sPutD, TN.fGetO, TN.fGetO2, TN.fInO, TN.fNinO, TN.dVarD, TN.dExtS, TN.mOwn, TN.dCallM, TN.mVar, TN.sRetV, TN.dAug, TN.dCallNT, TN.dCallNL, TN.fIxTs, TN.sForI, TN.dCompI, TN.dCompL, TN.dCompT, TN.dCompR, TN.iL, TN.iT, TN.iR1, TN.iR2, TN.iR3, TN.iS, TN.iE, TN.iRv, TN.iZ, TN.dKeepT, TN.dCallT, TN.pTup, TN.pCons, TN.pOwn, TN.sAsgT, TN.sRetT, TN.tpL, TN.fIxT, TN.fTp, TN.dAppendT, TN.dReverseT, TN.dClearT, TN.dVarT, TN.dReverse, TN.dClear, TN.dPop, Pt.d, Sl.tp.injEq, TN.startF, TN.dCallV, Sl.fn.injEq, TN.dCallF, TN.dLRev, TN.dLAdd, TN.dLSlP, TN.dLSlice, TN.dSliceE, TN.dNo, TN.dEnd, TN.fNo, TN.sSeq, TN.sNext, TN.sDrop, TN.sRet, TN.sRetL, TN.sRetN, TN.sIf, TN.sAsg, TN.sAsgL, TN.sStore, TN.sForL, TN.sForT, TN.sForR, TN.sForR2, TN.tgN, TN.tgTup, TN.tgCons, TN.tgNil, TN.dP, TN.dB, TN.dCall, TN.dCallL, TN.dCallB, TN.dCallBL, TN.dCons, TN.dNil, TN.dTup, TN.dLst, TN.dKeep, TN.dVar, TN.fVar, TN.fPeek, TN.fC, TN.f2, TN.d2, TN.d2V, TN.f1, TN.d1, TN.fCB, TN.dCB, TN.dCBL, TN.fNil, TN.fCons, TN.asBool, TN.dTest, TN.bAnd, TN.bOr, TN.bNot, TN.dAnd, TN.dOr, TN.dNot, TN.fAndV, TN.fOrV, TN.fNotV, TN.dAndV, TN.dOrV, TN.dNotV, TN.dIfE, TN.dIfL, TN.fIfE, TN.fChain, TN.fSlice, TN.dSlice, TN.fNo, TN.fEnd, TN.dAppend, TN.dInsert, TN.dPopAt, TN.ownL, TN.start0, TN.begB, TN.backD, TN.wipeD, TN.dYes, TN.sNever, List.getElem?_cons_zero, List.getElem?_cons_succ, List.set_cons_zero, List.set_cons_succ, List.map_cons, List.map_nil, List.length_cons, List.length_nil, List.cons_append, List.nil_append, List.replicate_succ, List.replicate_zero, Option.map_some, Option.map_none, Nat.add_one_sub_one, Nat.sub_zero, Nat.sub_self, Nat.zero_add, reduceCtorEq, Option.some.injEq, PyData.int.injEq, PyData.str.injEq, PyData.bool.injEq, PyData.list.injEq, PyData.tuple.injEq, Sl.sh.injEq, Sl.ow.injEq, List.cons.injEq, exists_eq_left', exists_eq_left, true_implies, false_implies, and_true, true_and, forall_const, Option.isSome_some, TN.imp_ff, TN.imp_tf, TN.imp_tt, exists_eq_left, exists_eq_left', exists_eq])
    have on : oNeg (.int 1) = some (.int (-1)) := rfl
    have fin : ∀ (S : List Str) (b3 b5 : Sl), minS S = some y → oMinS [.list (S.map PyData.str)] = some (.str y) ∧ oAdd (tupL L) (.tuple [.str y]) = some (tupL (L ++ [y])) := fun S b3 b5 e => ⟨oMinS_lst e, oAdd_tup (b := [y]) (by simp; omega)⟩
    rcases List.eq_nil_or_concat L with rfl | ⟨A, x, rfl⟩
    · simp only [on, oSl_back_nil]
      refine ⟨_, rfl, _, rfl, ?_⟩
      simp only [List.map_nil, forD]
      (simp only [TN.dCallO, TN.dCallOI, TN.dCallNO, TN.oVar, TN.sCut, TN.tgLst, TN.iK, TN.iV, TN.iLT, TN.pNew, TN.dCallN, TN.dCompI2, TN.dLAddE, TN.oD, TN.sDNew, TN.sPutD, TN.fGetO, TN.fGetO2, TN.fInO, TN.fNinO, TN.dVarD, TN.dExtS, TN.mOwn, TN.dCallM, TN.mVar, TN.sRetV, TN.dAug, TN.dCallNT, TN.dCallNL, TN.fIxTs, TN.sForI, TN.dCompI, TN.dCompL, TN.dCompT, TN.dCompR, TN.iL, TN.iT, TN.iR1, TN.iR2, TN.iR3, TN.iS, TN.iE, TN.iRv, TN.iZ, TN.dKeepT, TN.dCallT, TN.pTup, TN.pCons, TN.pOwn, TN.sAsgT, TN.sRetT, TN.tpL, TN.fIxT, TN.fTp, TN.dAppendT, TN.dReverseT, TN.dClearT, TN.dVarT, TN.dReverse, TN.dClear, TN.dPop, Pt.d, Sl.tp.injEq, TN.startF, TN.dCallV, Sl.fn.injEq, TN.dCallF, TN.dLRev, TN.dLAdd, TN.dLSlP, TN.dLSlice, TN.dSliceE, TN.dNo, TN.dEnd, TN.fNo, TN.sSeq, TN.sNext, TN.sDrop, TN.sRet, TN.sRetL, TN.sRetN, TN.sIf, TN.sAsg, TN.sAsgL, TN.sStore, TN.sForL, TN.sForT, TN.sForR, TN.sForR2, TN.tgN, TN.tgTup, TN.tgCons, TN.tgNil, TN.dP, TN.dB, TN.dCall, TN.dCallL, TN.dCallB, TN.dCallBL, TN.dCons, TN.dNil, TN.dTup, TN.dLst, TN.dKeep, TN.dVar, TN.fVar, TN.fPeek, TN.fC, TN.f2, TN.d2, TN.d2V, TN.f1, TN.d1, TN.fCB, TN.dCB, TN.dCBL, TN.fNil, TN.fCons, TN.asBool, TN.dTest, TN.bAnd, TN.bOr, TN.bNot, TN.dAnd, TN.dOr, TN.dNot, TN.fAndV, TN.fOrV, TN.fNotV, TN.dAndV, TN.dOrV, TN.dNotV, TN.dIfE, TN.dIfL, TN.fIfE, TN.fChain, TN.fSlice, TN.dSlice, TN.fNo, TN.fEnd, TN.dAppend, TN.dInsert, TN.dPopAt, TN.ownL, TN.start0, TN.begB, TN.backD, TN.wipeD, TN.dYes, TN.sNever, List.getElem?_cons_zero, List.getElem?_cons_succ, List.set_cons_zero, List.set_cons_succ, List.map_cons, List.map_nil, List.length_cons, List.length_nil, List.cons_append, List.nil_append, List.replicate_succ, List.replicate_zero, Option.map_some, Option.map_none, Nat.add_one_sub_one, Nat.sub_zero, Nat.sub_self, Nat.zero_add, reduceCtorEq, Option.some.injEq, PyData.int.injEq, PyData.str.injEq, PyData.bool.injEq, PyData.list.injEq, PyData.tuple.injEq, Sl.sh.injEq, Sl.ow.injEq, List.cons.injEq, exists_eq_left', exists_eq_left, true_implies, false_implies, and_true, true_and, forall_const, Option.isSome_some, TN.imp_ff, TN.imp_tf, TN.imp_tt, exists_eq_left, exists_eq_left', exists_eq])
      have e0 := kf (y := y) (R := R) eL
      obtain ⟨f1, f2⟩ := fin _ .no .no e0
      try simp only [List.length_nil, Nat.sub_zero] at f1 ⊢
      exact ⟨_, f1, by omega, _, f2, nx _ ⟨[y], R, _, _, _, eL, rfl, rfl⟩⟩
    · rw [List.concat_eq_append] at *
      simp only [on, oSl_back]
      refine ⟨_, rfl, _, rfl, ?_⟩
      have e0 := kl (A := A) (x := x) (y := y) (R := R) (by rw [eL]; simp)
      have lA : (A ++ [x]).length = A.length + 1 := by simp
      rw [lA] at *
      simp only [List.map_cons, List.map_nil, forD]
      (simp only [TN.dCallO, TN.dCallOI, TN.dCallNO, TN.oVar, TN.sCut, TN.tgLst, TN.iK, TN.iV, TN.iLT, TN.pNew, TN.dCallN, TN.dCompI2, TN.dLAddE, TN.oD, TN.sDNew, TN.sPutD, TN.fGetO, TN.fGetO2, TN.fInO, TN.fNinO, TN.dVarD, TN.dExtS, TN.mOwn, TN.dCallM, TN.mVar, TN.sRetV, TN.dAug, TN.dCallNT, TN.dCallNL, TN.fIxTs, TN.sForI, TN.dCompI, TN.dCompL, TN.dCompT, TN.dCompR, TN.iL, TN.iT, TN.iR1, TN.iR2, TN.iR3, TN.iS, TN.iE, TN.iRv, TN.iZ, TN.dKeepT, TN.dCallT, TN.pTup, TN.pCons, TN.pOwn, TN.sAsgT, TN.sRetT, TN.tpL, TN.fIxT, TN.fTp, TN.dAppendT, TN.dReverseT, TN.dClearT, TN.dVarT, TN.dReverse, TN.dClear, TN.dPop, Pt.d, Sl.tp.injEq, TN.startF, TN.dCallV, Sl.fn.injEq, TN.dCallF, TN.dLRev, TN.dLAdd, TN.dLSlP, TN.dLSlice, TN.dSliceE, TN.dNo, TN.dEnd, TN.fNo, TN.sSeq, TN.sNext, TN.sDrop, TN.sRet, TN.sRetL, TN.sRetN, TN.sIf, TN.sAsg, TN.sAsgL, TN.sStore, TN.sForL, TN.sForT, TN.sForR, TN.sForR2, TN.tgN, TN.tgTup, TN.tgCons, TN.tgNil, TN.dP, TN.dB, TN.dCall, TN.dCallL, TN.dCallB, TN.dCallBL, TN.dCons, TN.dNil, TN.dTup, TN.dLst, TN.dKeep, TN.dVar, TN.fVar, TN.fPeek, TN.fC, TN.f2, TN.d2, TN.d2V, TN.f1, TN.d1, TN.fCB, TN.dCB, TN.dCBL, TN.fNil, TN.fCons, TN.asBool, TN.dTest, TN.bAnd, TN.bOr, TN.bNot, TN.dAnd, TN.dOr, TN.dNot, TN.fAndV, TN.fOrV, TN.fNotV, TN.dAndV, TN.dOrV, TN.dNotV, TN.dIfE, TN.dIfL, TN.fIfE, TN.fChain, TN.fSlice, TN.dSlice, TN.fNo, TN.fEnd, TN.dAppend, TN.dInsert, TN.dPopAt, TN.ownL, TN.start0, TN.begB, TN.backD, TN.wipeD, TN.dYes, TN.sNever, List.getElem?_cons_zero, List.getElem?_cons_succ, List.set_cons_zero, List.set_cons_succ, List.map_cons, List.map_nil, List.length_cons, List.length_nil, List.cons_append, List.nil_append, List.replicate_succ, List.replicate_zero, Option.map_some, Option.map_none, Nat.add_one_sub_one, Nat.sub_zero, Nat.sub_self, Nat.zero_add, reduceCtorEq, Option.some.injEq, PyData.int.injEq, PyData.str.injEq, PyData.bool.injEq, PyData.list.injEq, PyData.tuple.injEq, Sl.sh.injEq, Sl.ow.injEq, List.cons.injEq, exists_eq_left', exists_eq_left, true_implies, false_implies, and_true, true_and, forall_const, Option.isSome_some, TN.imp_ff, TN.imp_tf, TN.imp_tt, exists_eq_left, exists_eq_left', exists_eq])
      have xm : x ∈ r0 := hx3 x (by rw [eL]; simp)
      have fl1 : (r0.filter fun z => decide ((z, m - (A.length + 1)) ∈ P)).length ≤ r0.length := List.length_filter_le _ _
      refine comp_fil PyData.str PyData.str (fun z => wrongR Rs x z) (fun z => z ∈ r0) rfl (fun _ => rfl) ?_ ?_ _ [] (fun z hz => (List.mem_filter.mp hz).1) (by simp only [List.length_nil]; omega) ?_
      · intro z S hz kk
        (simp only [TN.dCallO, TN.dCallOI, TN.dCallNO, TN.oVar, TN.sCut, TN.tgLst, TN.iK, TN.iV, TN.iLT, TN.pNew, TN.dCallN, TN.dCompI2, TN.dLAddE, TN.oD, TN.sDNew, TN.sPutD, TN.fGetO, TN.fGetO2, TN.fInO, TN.fNinO, TN.dVarD, TN.dExtS, TN.mOwn, TN.dCallM, TN.mVar, TN.sRetV, TN.dAug, TN.dCallNT, TN.dCallNL, TN.fIxTs, TN.sForI, TN.dCompI, TN.dCompL, TN.dCompT, TN.dCompR, TN.iL, TN.iT, TN.iR1, TN.iR2, TN.iR3, TN.iS, TN.iE, TN.iRv, TN.iZ, TN.dKeepT, TN.dCallT, TN.pTup, TN.pCons, TN.pOwn, TN.sAsgT, TN.sRetT, TN.tpL, TN.fIxT, TN.fTp, TN.dAppendT, TN.dReverseT, TN.dClearT, TN.dVarT, TN.dReverse, TN.dClear, TN.dPop, Pt.d, Sl.tp.injEq, TN.startF, TN.dCallV, Sl.fn.injEq, TN.dCallF, TN.dLRev, TN.dLAdd, TN.dLSlP, TN.dLSlice, TN.dSliceE, TN.dNo, TN.dEnd, TN.fNo, TN.sSeq, TN.sNext, TN.sDrop, TN.sRet, TN.sRetL, TN.sRetN, TN.sIf, TN.sAsg, TN.sAsgL, TN.sStore, TN.sForL, TN.sForT, TN.sForR, TN.sForR2, TN.tgN, TN.tgTup, TN.tgCons, TN.tgNil, TN.dP, TN.dB, TN.dCall, TN.dCallL, TN.dCallB, TN.dCallBL, TN.dCons, TN.dNil, TN.dTup, TN.dLst, TN.dKeep, TN.dVar, TN.fVar, TN.fPeek, TN.fC, TN.f2, TN.d2, TN.d2V, TN.f1, TN.d1, TN.fCB, TN.dCB, TN.dCBL, TN.fNil, TN.fCons, TN.asBool, TN.dTest, TN.bAnd, TN.bOr, TN.bNot, TN.dAnd, TN.dOr, TN.dNot, TN.fAndV, TN.fOrV, TN.fNotV, TN.dAndV, TN.dOrV, TN.dNotV, TN.dIfE, TN.dIfL, TN.fIfE, TN.fChain, TN.fSlice, TN.dSlice, TN.fNo, TN.fEnd, TN.dAppend, TN.dInsert, TN.dPopAt, TN.ownL, TN.start0, TN.begB, TN.backD, TN.wipeD, TN.dYes, TN.sNever, List.getElem?_cons_zero, List.getElem?_cons_succ, List.set_cons_zero, List.set_cons_succ, List.map_cons, List.map_nil, List.length_cons, List.length_nil, List.cons_append, List.nil_append, List.replicate_succ, List.replicate_zero, Option.map_some, Option.map_none, Nat.add_one_sub_one, Nat.sub_zero, Nat.sub_self, Nat.zero_add, reduceCtorEq, Option.some.injEq, PyData.int.injEq, PyData.str.injEq, PyData.bool.injEq, PyData.list.injEq, PyData.tuple.injEq, Sl.sh.injEq, Sl.ow.injEq, List.cons.injEq, exists_eq_left', exists_eq_left, true_implies, false_implies, and_true, true_and, forall_const, Option.isSome_some, TN.imp_ff, TN.imp_tf, TN.imp_tt, exists_eq_left, exists_eq_left', exists_eq])
        refine comp_fil tupL tupL (fun r => decide (ixS z r < ixS x r)) (fun r => r ∈ Rs) rfl (fun _ => rfl) ?_ ?_ Rs [] (fun _ h => h) (by simp; omega) ?_
        · intro r R2 hr k2
          (simp only [TN.dCallO, TN.dCallOI, TN.dCallNO, TN.oVar, TN.sCut, TN.tgLst, TN.iK, TN.iV, TN.iLT, TN.pNew, TN.dCallN, TN.dCompI2, TN.dLAddE, TN.oD, TN.sDNew, TN.sPutD, TN.fGetO, TN.fGetO2, TN.fInO, TN.fNinO, TN.dVarD, TN.dExtS, TN.mOwn, TN.dCallM, TN.mVar, TN.sRetV, TN.dAug, TN.dCallNT, TN.dCallNL, TN.fIxTs, TN.sForI, TN.dCompI, TN.dCompL, TN.dCompT, TN.dCompR, TN.iL, TN.iT, TN.iR1, TN.iR2, TN.iR3, TN.iS, TN.iE, TN.iRv, TN.iZ, TN.dKeepT, TN.dCallT, TN.pTup, TN.pCons, TN.pOwn, TN.sAsgT, TN.sRetT, TN.tpL, TN.fIxT, TN.fTp, TN.dAppendT, TN.dReverseT, TN.dClearT, TN.dVarT, TN.dReverse, TN.dClear, TN.dPop, Pt.d, Sl.tp.injEq, TN.startF, TN.dCallV, Sl.fn.injEq, TN.dCallF, TN.dLRev, TN.dLAdd, TN.dLSlP, TN.dLSlice, TN.dSliceE, TN.dNo, TN.dEnd, TN.fNo, TN.sSeq, TN.sNext, TN.sDrop, TN.sRet, TN.sRetL, TN.sRetN, TN.sIf, TN.sAsg, TN.sAsgL, TN.sStore, TN.sForL, TN.sForT, TN.sForR, TN.sForR2, TN.tgN, TN.tgTup, TN.tgCons, TN.tgNil, TN.dP, TN.dB, TN.dCall, TN.dCallL, TN.dCallB, TN.dCallBL, TN.dCons, TN.dNil, TN.dTup, TN.dLst, TN.dKeep, TN.dVar, TN.fVar, TN.fPeek, TN.fC, TN.f2, TN.d2, TN.d2V, TN.f1, TN.d1, TN.fCB, TN.dCB, TN.dCBL, TN.fNil, TN.fCons, TN.asBool, TN.dTest, TN.bAnd, TN.bOr, TN.bNot, TN.dAnd, TN.dOr, TN.dNot, TN.fAndV, TN.fOrV, TN.fNotV, TN.dAndV, TN.dOrV, TN.dNotV, TN.dIfE, TN.dIfL, TN.fIfE, TN.fChain, TN.fSlice, TN.dSlice, TN.fNo, TN.fEnd, TN.dAppend, TN.dInsert, TN.dPopAt, TN.ownL, TN.start0, TN.begB, TN.backD, TN.wipeD, TN.dYes, TN.sNever, List.getElem?_cons_zero, List.getElem?_cons_succ, List.set_cons_zero, List.set_cons_succ, List.map_cons, List.map_nil, List.length_cons, List.length_nil, List.cons_append, List.nil_append, List.replicate_succ, List.replicate_zero, Option.map_some, Option.map_none, Nat.add_one_sub_one, Nat.sub_zero, Nat.sub_self, Nat.zero_add, reduceCtorEq, Option.some.injEq, PyData.int.injEq, PyData.str.injEq, PyData.bool.injEq, PyData.list.injEq, PyData.tuple.injEq, Sl.sh.injEq, Sl.ow.injEq, List.cons.injEq, exists_eq_left', exists_eq_left, true_implies, false_implies, and_true, true_and, forall_const, Option.isSome_some, TN.imp_ff, TN.imp_tf, TN.imp_tt, exists_eq_left, exists_eq_left', exists_eq])
          have rp := ro.all r hr
          simp only [oTIx (rp.mem_iff.mpr xm), oTIx (rp.mem_iff.mpr hz), oU_int]
          have e : decide ((ixS z r : Int) < (ixS x r : Int)) = decide (ixS z r < ixS x r) := decide_eq_decide.mpr (by omega)
          rw [e]
          exact ⟨_, rfl, k2⟩
        · intro r R2 hr k2
          (simp only [TN.dCallO, TN.dCallOI, TN.dCallNO, TN.oVar, TN.sCut, TN.tgLst, TN.iK, TN.iV, TN.iLT, TN.pNew, TN.dCallN, TN.dCompI2, TN.dLAddE, TN.oD, TN.sDNew, TN.sPutD, TN.fGetO, TN.fGetO2, TN.fInO, TN.fNinO, TN.dVarD, TN.dExtS, TN.mOwn, TN.dCallM, TN.mVar, TN.sRetV, TN.dAug, TN.dCallNT, TN.dCallNL, TN.fIxTs, TN.sForI, TN.dCompI, TN.dCompL, TN.dCompT, TN.dCompR, TN.iL, TN.iT, TN.iR1, TN.iR2, TN.iR3, TN.iS, TN.iE, TN.iRv, TN.iZ, TN.dKeepT, TN.dCallT, TN.pTup, TN.pCons, TN.pOwn, TN.sAsgT, TN.sRetT, TN.tpL, TN.fIxT, TN.fTp, TN.dAppendT, TN.dReverseT, TN.dClearT, TN.dVarT, TN.dReverse, TN.dClear, TN.dPop, Pt.d, Sl.tp.injEq, TN.startF, TN.dCallV, Sl.fn.injEq, TN.dCallF, TN.dLRev, TN.dLAdd, TN.dLSlP, TN.dLSlice, TN.dSliceE, TN.dNo, TN.dEnd, TN.fNo, TN.sSeq, TN.sNext, TN.sDrop, TN.sRet, TN.sRetL, TN.sRetN, TN.sIf, TN.sAsg, TN.sAsgL, TN.sStore, TN.sForL, TN.sForT, TN.sForR, TN.sForR2, TN.tgN, TN.tgTup, TN.tgCons, TN.tgNil, TN.dP, TN.dB, TN.dCall, TN.dCallL, TN.dCallB, TN.dCallBL, TN.dCons, TN.dNil, TN.dTup, TN.dLst, TN.dKeep, TN.dVar, TN.fVar, TN.fPeek, TN.fC, TN.f2, TN.d2, TN.d2V, TN.f1, TN.d1, TN.fCB, TN.dCB, TN.dCBL, TN.fNil, TN.fCons, TN.asBool, TN.dTest, TN.bAnd, TN.bOr, TN.bNot, TN.dAnd, TN.dOr, TN.dNot, TN.fAndV, TN.fOrV, TN.fNotV, TN.dAndV, TN.dOrV, TN.dNotV, TN.dIfE, TN.dIfL, TN.fIfE, TN.fChain, TN.fSlice, TN.dSlice, TN.fNo, TN.fEnd, TN.dAppend, TN.dInsert, TN.dPopAt, TN.ownL, TN.start0, TN.begB, TN.backD, TN.wipeD, TN.dYes, TN.sNever, List.getElem?_cons_zero, List.getElem?_cons_succ, List.set_cons_zero, List.set_cons_succ, List.map_cons, List.map_nil, List.length_cons, List.length_nil, List.cons_append, List.nil_append, List.replicate_succ, List.replicate_zero, Option.map_some, Option.map_none, Nat.add_one_sub_one, Nat.sub_zero, Nat.sub_self, Nat.zero_add, reduceCtorEq, Option.some.injEq, PyData.int.injEq, PyData.str.injEq, PyData.bool.injEq, PyData.list.injEq, PyData.tuple.injEq, Sl.sh.injEq, Sl.ow.injEq, List.cons.injEq, exists_eq_left', exists_eq_left, true_implies, false_implies, and_true, true_and, forall_const, Option.isSome_some, TN.imp_ff, TN.imp_tf, TN.imp_tt, exists_eq_left, exists_eq_left', exists_eq])
          exact k2
        rw [List.nil_append]
        exact ⟨by omega, _, oEq_nilT (fun r hr => okr r (List.mem_filter.mp hr).1), _, rfl, kk⟩
      · intro z S _ kk
        (simp only [TN.dCallO, TN.dCallOI, TN.dCallNO, TN.oVar, TN.sCut, TN.tgLst, TN.iK, TN.iV, TN.iLT, TN.pNew, TN.dCallN, TN.dCompI2, TN.dLAddE, TN.oD, TN.sDNew, TN.sPutD, TN.fGetO, TN.fGetO2, TN.fInO, TN.fNinO, TN.dVarD, TN.dExtS, TN.mOwn, TN.dCallM, TN.mVar, TN.sRetV, TN.dAug, TN.dCallNT, TN.dCallNL, TN.fIxTs, TN.sForI, TN.dCompI, TN.dCompL, TN.dCompT, TN.dCompR, TN.iL, TN.iT, TN.iR1, TN.iR2, TN.iR3, TN.iS, TN.iE, TN.iRv, TN.iZ, TN.dKeepT, TN.dCallT, TN.pTup, TN.pCons, TN.pOwn, TN.sAsgT, TN.sRetT, TN.tpL, TN.fIxT, TN.fTp, TN.dAppendT, TN.dReverseT, TN.dClearT, TN.dVarT, TN.dReverse, TN.dClear, TN.dPop, Pt.d, Sl.tp.injEq, TN.startF, TN.dCallV, Sl.fn.injEq, TN.dCallF, TN.dLRev, TN.dLAdd, TN.dLSlP, TN.dLSlice, TN.dSliceE, TN.dNo, TN.dEnd, TN.fNo, TN.sSeq, TN.sNext, TN.sDrop, TN.sRet, TN.sRetL, TN.sRetN, TN.sIf, TN.sAsg, TN.sAsgL, TN.sStore, TN.sForL, TN.sForT, TN.sForR, TN.sForR2, TN.tgN, TN.tgTup, TN.tgCons, TN.tgNil, TN.dP, TN.dB, TN.dCall, TN.dCallL, TN.dCallB, TN.dCallBL, TN.dCons, TN.dNil, TN.dTup, TN.dLst, TN.dKeep, TN.dVar, TN.fVar, TN.fPeek, TN.fC, TN.f2, TN.d2, TN.d2V, TN.f1, TN.d1, TN.fCB, TN.dCB, TN.dCBL, TN.fNil, TN.fCons, TN.asBool, TN.dTest, TN.bAnd, TN.bOr, TN.bNot, TN.dAnd, TN.dOr, TN.dNot, TN.fAndV, TN.fOrV, TN.fNotV, TN.dAndV, TN.dOrV, TN.dNotV, TN.dIfE, TN.dIfL, TN.fIfE, TN.fChain, TN.fSlice, TN.dSlice, TN.fNo, TN.fEnd, TN.dAppend, TN.dInsert, TN.dPopAt, TN.ownL, TN.start0, TN.begB, TN.backD, TN.wipeD, TN.dYes, TN.sNever, List.getElem?_cons_zero, List.getElem?_cons_succ, List.set_cons_zero, List.set_cons_succ, List.map_cons, List.map_nil, List.length_cons, List.length_nil, List.cons_append, List.nil_append, List.replicate_succ, List.replicate_zero, Option.map_some, Option.map_none, Nat.add_one_sub_one, Nat.sub_zero, Nat.sub_self, Nat.zero_add, reduceCtorEq, Option.some.injEq, PyData.int.injEq, PyData.str.injEq, PyData.bool.injEq, PyData.list.injEq, PyData.tuple.injEq, Sl.sh.injEq, Sl.ow.injEq, List.cons.injEq, exists_eq_left', exists_eq_left, true_implies, false_implies, and_true, true_and, forall_const, Option.isSome_some, TN.imp_ff, TN.imp_tf, TN.imp_tt, exists_eq_left, exists_eq_left', exists_eq])
        exact kk
      rw [List.nil_append]
      (simp only [TN.dCallO, TN.dCallOI, TN.dCallNO, TN.oVar, TN.sCut, TN.tgLst, TN.iK, TN.iV, TN.iLT, TN.pNew, TN.dCallN, TN.dCompI2, TN.dLAddE, TN.oD, TN.sDNew, TN.sPutD, TN.fGetO, TN.fGetO2, TN.fInO, TN.fNinO, TN.dVarD, TN.dExtS, TN.mOwn, TN.dCallM, TN.mVar, TN.sRetV, TN.dAug, TN.dCallNT, TN.dCallNL, TN.fIxTs, TN.sForI, TN.dCompI, TN.dCompL, TN.dCompT, TN.dCompR, TN.iL, TN.iT, TN.iR1, TN.iR2, TN.iR3, TN.iS, TN.iE, TN.iRv, TN.iZ, TN.dKeepT, TN.dCallT, TN.pTup, TN.pCons, TN.pOwn, TN.sAsgT, TN.sRetT, TN.tpL, TN.fIxT, TN.fTp, TN.dAppendT, TN.dReverseT, TN.dClearT, TN.dVarT, TN.dReverse, TN.dClear, TN.dPop, Pt.d, Sl.tp.injEq, TN.startF, TN.dCallV, Sl.fn.injEq, TN.dCallF, TN.dLRev, TN.dLAdd, TN.dLSlP, TN.dLSlice, TN.dSliceE, TN.dNo, TN.dEnd, TN.fNo, TN.sSeq, TN.sNext, TN.sDrop, TN.sRet, TN.sRetL, TN.sRetN, TN.sIf, TN.sAsg, TN.sAsgL, TN.sStore, TN.sForL, TN.sForT, TN.sForR, TN.sForR2, TN.tgN, TN.tgTup, TN.tgCons, TN.tgNil, TN.dP, TN.dB, TN.dCall, TN.dCallL, TN.dCallB, TN.dCallBL, TN.dCons, TN.dNil, TN.dTup, TN.dLst, TN.dKeep, TN.dVar, TN.fVar, TN.fPeek, TN.fC, TN.f2, TN.d2, TN.d2V, TN.f1, TN.d1, TN.fCB, TN.dCB, TN.dCBL, TN.fNil, TN.fCons, TN.asBool, TN.dTest, TN.bAnd, TN.bOr, TN.bNot, TN.dAnd, TN.dOr, TN.dNot, TN.fAndV, TN.fOrV, TN.fNotV, TN.dAndV, TN.dOrV, TN.dNotV, TN.dIfE, TN.dIfL, TN.fIfE, TN.fChain, TN.fSlice, TN.dSlice, TN.fNo, TN.fEnd, TN.dAppend, TN.dInsert, TN.dPopAt, TN.ownL, TN.start0, TN.begB, TN.backD, TN.wipeD, TN.dYes, TN.sNever, List.getElem?_cons_zero, List.getElem?_cons_succ, List.set_cons_zero, List.set_cons_succ, List.map_cons, List.map_nil, List.length_cons, List.length_nil, List.cons_append, List.nil_append, List.replicate_succ, List.replicate_zero, Option.map_some, Option.map_none, Nat.add_one_sub_one, Nat.sub_zero, Nat.sub_self, Nat.zero_add, reduceCtorEq, Option.some.injEq, PyData.int.injEq, PyData.str.injEq, PyData.bool.injEq, PyData.list.injEq, PyData.tuple.injEq, Sl.sh.injEq, Sl.ow.injEq, List.cons.injEq, exists_eq_left', exists_eq_left, true_implies, false_implies, and_true, true_and, forall_const, Option.isSome_some, TN.imp_ff, TN.imp_tf, TN.imp_tt, exists_eq_left, exists_eq_left', exists_eq])
      obtain ⟨f1, f2⟩ := fin _ .no .no e0
      refine ⟨_, f1, by omega, _, f2, nx _ ⟨A ++ [x] ++ [y], R, _, _, _, by rw [eL]; simp, by simp, rfl⟩⟩

abbrev s__law_great_right : Stmt := topS 35
theorem sc__law_great_right : FnScope ["bag", "line", "folk", "named", "stays", "k", "one"] ["bag"] (defScope s__law_great_right) := ⟨rfl, rfl, rfl, by decide +kernel, rfl, by decide +kernel, by decide +kernel⟩
theorem ok__law_great_right (b : Blt mg) (h__law_line : Has P w K mg base "_law_line" 3 ["bag", "many"] (spB K semLine)) (h__law_take : Has P w K mg base "_law_take" 1 ["bag", "size"] (spB K semWind)) (h__law_heard : Has P w K mg base "_law_heard" 3 ["bag", "line"] (spB K semHear)) (h_all_alone : Has P w K mg base "all_alone" 6 ["row", "hearers"] (sp0 K semAllAlone)) (h__law_least : Has P w K mg base "_law_least" 2 ["lines"] (sp0 K semLeastF)) (h__law_alike : Has P w K mg base "_law_alike" 5 ["found", "due"] (sp0 K (semAlike 5))) {f : Addr} {fd : FuncData} (F : Fun K "_law_great_right" "_law_great_right" s__law_great_right f fd) : FnG P w K mg base CX0 7 f fd ["bag"] (spB K semOwnBag) := by
  refine fnB (k := 6) F sc__law_great_right (fun xs ds Q h => by obtain ⟨n, _, _, rfl, _⟩ := h; rfl) (fun cdv A outer s H E hg hr =>
    have nd := sc__law_great_right.nd
    have hu := hr.units
    have hu1 := hu_of hr
    (pss_cons (ps_set (i := 1) nd rfl (by first | exact Or.inl rfl | exact Or.inr rfl) (pe_has (h__law_line.up (by decide)) hg hr (by rfl) (pa_cons (pv 0) (pa_cons pe_int pa_nil))))
 (pss_cons (ps_setLc (i := 2) (own := [("k", 5)]) (g := gName 5) (tt := tYes) rfl nd rfl rfl (sw_true rfl rfl rfl (by decide +kernel)) (pi_range1 (by rfl) b.range (pa_cons (pe_op op_addU pe_int (pe_has (h__law_take.up (by decide)) hg hr (by rfl) (pa_cons (pv 0) (pa_cons pe_int pa_nil)))) pa_nil)) (blkOk_by (own := [("k", 5)]) (N := ["bag", "line", "folk", "named", "stays", "k", "one"]) (sc := defScope s__law_great_right) (by decide +kernel)) (fun _ _ _ _ _ => pg_name (i := 5) nd rfl (by first | exact Or.inl rfl | exact Or.inr rfl)) (fun _ _ _ _ _ => by exact pts_nil) (fun _ _ _ _ _ => by exact (pe_has (h__law_heard.up (by decide)) hg hr (by rfl) (pa_cons (pv 0) (pa_cons (pv 1) pa_nil)))))
 (pss_cons (ps_set (i := 3) nd rfl (by first | exact Or.inl rfl | exact Or.inr rfl) (pe_has (h_all_alone.up (by decide)) hg hr (by rfl) (pa_cons (pv 1) (pa_cons (pv 2) pa_nil))))
 (pss_cons (ps_set (i := 4) nd rfl (by first | exact Or.inl rfl | exact Or.inr rfl) (pe_has (h__law_least.up (by decide)) hg hr (by rfl) (pa_cons (pe_op op_addU (pe_lst (pa_cons (pv 1) pa_nil)) (pv 2)) pa_nil)))
 (pss_one (ps_ret (pe_has (h__law_alike.up (by decide)) hg hr (by rfl) (pa_cons (pv 3) (pa_cons (pe_callB call_sortedA (by rfl) b.sorted (by decide +kernel) (pa_cons (pe_lc (own := [("one", 6)]) (g := gName 6) rfl nd (pi_tup (pv 1)) (blkOk_by (own := [("one", 6)]) (N := ["bag", "line", "folk", "named", "stays", "k", "one"]) (sc := defScope s__law_great_right) (by decide +kernel)) (fun _ _ _ _ _ => pg_name (i := 6) nd rfl (by first | exact Or.inl rfl | exact Or.inr rfl)) (fun _ _ _ _ _ => by exact (pts_one (pt_cmpR op_notIn_seq (pv 6) (pv 4) rfl))) (fun _ _ _ _ _ => by exact (pv 6))) pa_nil)) pa_nil))))))))))
    (ls_seq (ls_asg (le_callB (j := 0) (les_cons (LP.e lp_int) les_nil)) (lg_name (i := 1) (by decide)))
 (ls_seq (ls_asg (LL.e (ll_compR (j := 5) (vs := [5]) (by decide) (by decide) (les_cons (le_op (LP.e lp_int) (le_callB (j := 0) (les_cons (LP.e lp_int) les_nil)) rb_add) les_nil) lt_yes (le_callB (j := 0) (les_cons (LP.e (lp_var (i := 1))) les_nil)))) (lg_name (i := 2) (by decide)))
 (ls_seq (ls_asg (LL.e (ll_call (les_cons (LP.e (lp_var (i := 1))) (les_cons (LP.e (lp_var (i := 2))) les_nil)))) (lg_name (i := 3) (by decide)))
 (ls_seq (ls_asg (le_call (les_cons (le_op (LL.e (ll_lst (les_cons (LP.e (lp_var (i := 1))) les_nil))) (LP.e (lp_var (i := 2))) rb_add) les_nil)) (lg_name (i := 4) (by decide)))
 (ls_ret (le_call (les_cons (LP.e (lp_var (i := 3))) (les_cons (LL.e (ll_cb (les_cons (LL.e (ll_compT (j := 6) (vs := [6]) (by decide) (by decide) (LP.e (lp_var (i := 1))) (LB.g (lb_test (LP.m (lp_op (LP.m (lp_var (i := 6))) (LP.m (lp_var (i := 4))) rb_in)))) (LP.e (lp_var (i := 6))))) les_nil) rc_sorted)) les_nil)))))))) ?_
  rintro xs ds Q ⟨n, sp, hn, rfl, q⟩
  have hb : n + 1000000 ≤ 1000000000000 := hn
  (simp only [TN.dCallO, TN.dCallOI, TN.dCallNO, TN.oVar, TN.sCut, TN.tgLst, TN.iK, TN.iV, TN.iLT, TN.pNew, TN.dCallN, TN.dCompI2, TN.dLAddE, TN.oD, TN.sDNew, TN.sPutD, TN.fGetO, TN.fGetO2, TN.fInO, TN.fNinO, TN.dVarD, TN.dExtS, TN.mOwn, TN.dCallM, TN.mVar, TN.sRetV, TN.dAug, TN.dCallNT, TN.dCallNL, TN.fIxTs, TN.sForI, TN.dCompI, TN.dCompL, TN.dCompT, TN.dCompR, TN.iL, TN.iT, TN.iR1, TN.iR2, TN.iR3, TN.iS, TN.iE, TN.iRv, TN.iZ, TN.dKeepT, TN.dCallT, TN.pTup, TN.pCons, TN.pOwn, TN.sAsgT, TN.sRetT, TN.tpL, TN.fIxT, TN.fTp, TN.dAppendT, TN.dReverseT, TN.dClearT, TN.dVarT, TN.dReverse, TN.dClear, TN.dPop, Pt.d, Sl.tp.injEq, TN.startF, TN.dCallV, Sl.fn.injEq, TN.dCallF, TN.dLRev, TN.dLAdd, TN.dLSlP, TN.dLSlice, TN.dSliceE, TN.dNo, TN.dEnd, TN.fNo, TN.sSeq, TN.sNext, TN.sDrop, TN.sRet, TN.sRetL, TN.sRetN, TN.sIf, TN.sAsg, TN.sAsgL, TN.sStore, TN.sForL, TN.sForT, TN.sForR, TN.sForR2, TN.tgN, TN.tgTup, TN.tgCons, TN.tgNil, TN.dP, TN.dB, TN.dCall, TN.dCallL, TN.dCallB, TN.dCallBL, TN.dCons, TN.dNil, TN.dTup, TN.dLst, TN.dKeep, TN.dVar, TN.fVar, TN.fPeek, TN.fC, TN.f2, TN.d2, TN.d2V, TN.f1, TN.d1, TN.fCB, TN.dCB, TN.dCBL, TN.fNil, TN.fCons, TN.asBool, TN.dTest, TN.bAnd, TN.bOr, TN.bNot, TN.dAnd, TN.dOr, TN.dNot, TN.fAndV, TN.fOrV, TN.fNotV, TN.dAndV, TN.dOrV, TN.dNotV, TN.dIfE, TN.dIfL, TN.fIfE, TN.fChain, TN.fSlice, TN.dSlice, TN.fNo, TN.fEnd, TN.dAppend, TN.dInsert, TN.dPopAt, TN.ownL, TN.start0, TN.begB, TN.backD, TN.wipeD, TN.dYes, TN.sNever, List.getElem?_cons_zero, List.getElem?_cons_succ, List.set_cons_zero, List.set_cons_succ, List.map_cons, List.map_nil, List.length_cons, List.length_nil, List.cons_append, List.nil_append, List.replicate_succ, List.replicate_zero, Option.map_some, Option.map_none, Nat.add_one_sub_one, Nat.sub_zero, Nat.sub_self, Nat.zero_add, reduceCtorEq, Option.some.injEq, PyData.int.injEq, PyData.str.injEq, PyData.bool.injEq, PyData.list.injEq, PyData.tuple.injEq, Sl.sh.injEq, Sl.ow.injEq, List.cons.injEq, exists_eq_left', exists_eq_left, true_implies, false_implies, and_true, true_and, forall_const, Option.isSome_some, TN.imp_ff, TN.imp_tf, TN.imp_tt, exists_eq_left, exists_eq_left', exists_eq])
  refine ⟨n, 16, sp, by show n + 200 ≤ (1000000000000 : Int); omega, rfl, by omega, by omega, fun r ys2 gr rl sp2 => ⟨_, rfl, ?_⟩⟩
  refine windN sp2 (by show _ ≤ (1000000000000 : Int); omega) (by omega) (by omega) fun j ys3 hj sp3 => ⟨_, rfl, _, rfl, _, rfl, by omega, by omega, ?_⟩
  have er : rangeD 0 (1 + (j : Int)).toNat = (List.range (1 + j)).map fun (k : Nat) => PyData.int k := by
    rw [show (1 + (j : Int)).toNat = ((1 + j : Nat) : Int).toNat by omega, rangeD_nat]
  rw [er]
  refine compD_go (fun (k : Nat) => PyData.int k) (fun ls acc ρ => ∃ (hs : List (List Str)) (zs : List D), hs.length + ls.length = 1 + j ∧ acc = hs.map tupL ∧ (∀ h ∈ hs, GPair r h) ∧ Spl (n + 202 + 500 * hs.length) zs ∧ ρ = [.ow zs, .sh (tupL r), .no, .no, .no, .no, .no]) ?_ ?_ _ _ _ ⟨[], ys3, by simp, rfl, fun _ h => (by cases h), sp3.up (by simp; omega), rfl⟩
  · rintro x ls acc ρ K ⟨hs, zs, el, rfl, all, spz, rfl⟩ nx
    rw [List.length_cons] at el
    refine ⟨rfl, ?_⟩
    (simp only [TN.dCallO, TN.dCallOI, TN.dCallNO, TN.oVar, TN.sCut, TN.tgLst, TN.iK, TN.iV, TN.iLT, TN.pNew, TN.dCallN, TN.dCompI2, TN.dLAddE, TN.oD, TN.sDNew, TN.sPutD, TN.fGetO, TN.fGetO2, TN.fInO, TN.fNinO, TN.dVarD, TN.dExtS, TN.mOwn, TN.dCallM, TN.mVar, TN.sRetV, TN.dAug, TN.dCallNT, TN.dCallNL, TN.fIxTs, TN.sForI, TN.dCompI, TN.dCompL, TN.dCompT, TN.dCompR, TN.iL, TN.iT, TN.iR1, TN.iR2, TN.iR3, TN.iS, TN.iE, TN.iRv, TN.iZ, TN.dKeepT, TN.dCallT, TN.pTup, TN.pCons, TN.pOwn, TN.sAsgT, TN.sRetT, TN.tpL, TN.fIxT, TN.fTp, TN.dAppendT, TN.dReverseT, TN.dClearT, TN.dVarT, TN.dReverse, TN.dClear, TN.dPop, Pt.d, Sl.tp.injEq, TN.startF, TN.dCallV, Sl.fn.injEq, TN.dCallF, TN.dLRev, TN.dLAdd, TN.dLSlP, TN.dLSlice, TN.dSliceE, TN.dNo, TN.dEnd, TN.fNo, TN.sSeq, TN.sNext, TN.sDrop, TN.sRet, TN.sRetL, TN.sRetN, TN.sIf, TN.sAsg, TN.sAsgL, TN.sStore, TN.sForL, TN.sForT, TN.sForR, TN.sForR2, TN.tgN, TN.tgTup, TN.tgCons, TN.tgNil, TN.dP, TN.dB, TN.dCall, TN.dCallL, TN.dCallB, TN.dCallBL, TN.dCons, TN.dNil, TN.dTup, TN.dLst, TN.dKeep, TN.dVar, TN.fVar, TN.fPeek, TN.fC, TN.f2, TN.d2, TN.d2V, TN.f1, TN.d1, TN.fCB, TN.dCB, TN.dCBL, TN.fNil, TN.fCons, TN.asBool, TN.dTest, TN.bAnd, TN.bOr, TN.bNot, TN.dAnd, TN.dOr, TN.dNot, TN.fAndV, TN.fOrV, TN.fNotV, TN.dAndV, TN.dOrV, TN.dNotV, TN.dIfE, TN.dIfL, TN.fIfE, TN.fChain, TN.fSlice, TN.dSlice, TN.fNo, TN.fEnd, TN.dAppend, TN.dInsert, TN.dPopAt, TN.ownL, TN.start0, TN.begB, TN.backD, TN.wipeD, TN.dYes, TN.sNever, List.getElem?_cons_zero, List.getElem?_cons_succ, List.set_cons_zero, List.set_cons_succ, List.map_cons, List.map_nil, List.length_cons, List.length_nil, List.cons_append, List.nil_append, List.replicate_succ, List.replicate_zero, Option.map_some, Option.map_none, Nat.add_one_sub_one, Nat.sub_zero, Nat.sub_self, Nat.zero_add, reduceCtorEq, Option.some.injEq, PyData.int.injEq, PyData.str.injEq, PyData.bool.injEq, PyData.list.injEq, PyData.tuple.injEq, Sl.sh.injEq, Sl.ow.injEq, List.cons.injEq, exists_eq_left', exists_eq_left, true_implies, false_implies, and_true, true_and, forall_const, Option.isSome_some, TN.imp_ff, TN.imp_tf, TN.imp_tt, exists_eq_left, exists_eq_left', exists_eq])
    refine ⟨_, r, spz, by show _ ≤ (1000000000000 : Int); omega, rfl, gr, fun h zs2 ph sp4 => ⟨_, rfl, by rw [List.length_map]; omega, ?_⟩⟩
    refine nx _ _ ⟨hs ++ [h], zs2, by rw [List.length_append, List.length_singleton]; omega, by rw [List.map_append]; rfl, fun g hg => ?_, sp4.up (by rw [List.length_append, List.length_singleton]; omega), rfl⟩
    rcases List.mem_append.mp hg with hg | hg
    · exact all g hg
    · rw [List.mem_singleton] at hg
      subst hg
      exact ⟨gr, gr.perm ph, ph.symm⟩
  rintro acc ρ ⟨hs, zs, el, rfl, all, spz, rfl⟩
  rw [List.length_nil] at el
  have fk : Folk r hs := ⟨gr, fun z => by rw [z] at el; simp at el; omega, by omega, all⟩
  have tf := gr.few
  (simp only [TN.dCallO, TN.dCallOI, TN.dCallNO, TN.oVar, TN.sCut, TN.tgLst, TN.iK, TN.iV, TN.iLT, TN.pNew, TN.dCallN, TN.dCompI2, TN.dLAddE, TN.oD, TN.sDNew, TN.sPutD, TN.fGetO, TN.fGetO2, TN.fInO, TN.fNinO, TN.dVarD, TN.dExtS, TN.mOwn, TN.dCallM, TN.mVar, TN.sRetV, TN.dAug, TN.dCallNT, TN.dCallNL, TN.fIxTs, TN.sForI, TN.dCompI, TN.dCompL, TN.dCompT, TN.dCompR, TN.iL, TN.iT, TN.iR1, TN.iR2, TN.iR3, TN.iS, TN.iE, TN.iRv, TN.iZ, TN.dKeepT, TN.dCallT, TN.pTup, TN.pCons, TN.pOwn, TN.sAsgT, TN.sRetT, TN.tpL, TN.fIxT, TN.fTp, TN.dAppendT, TN.dReverseT, TN.dClearT, TN.dVarT, TN.dReverse, TN.dClear, TN.dPop, Pt.d, Sl.tp.injEq, TN.startF, TN.dCallV, Sl.fn.injEq, TN.dCallF, TN.dLRev, TN.dLAdd, TN.dLSlP, TN.dLSlice, TN.dSliceE, TN.dNo, TN.dEnd, TN.fNo, TN.sSeq, TN.sNext, TN.sDrop, TN.sRet, TN.sRetL, TN.sRetN, TN.sIf, TN.sAsg, TN.sAsgL, TN.sStore, TN.sForL, TN.sForT, TN.sForR, TN.sForR2, TN.tgN, TN.tgTup, TN.tgCons, TN.tgNil, TN.dP, TN.dB, TN.dCall, TN.dCallL, TN.dCallB, TN.dCallBL, TN.dCons, TN.dNil, TN.dTup, TN.dLst, TN.dKeep, TN.dVar, TN.fVar, TN.fPeek, TN.fC, TN.f2, TN.d2, TN.d2V, TN.f1, TN.d1, TN.fCB, TN.dCB, TN.dCBL, TN.fNil, TN.fCons, TN.asBool, TN.dTest, TN.bAnd, TN.bOr, TN.bNot, TN.dAnd, TN.dOr, TN.dNot, TN.fAndV, TN.fOrV, TN.fNotV, TN.dAndV, TN.dOrV, TN.dNotV, TN.dIfE, TN.dIfL, TN.fIfE, TN.fChain, TN.fSlice, TN.dSlice, TN.fNo, TN.fEnd, TN.dAppend, TN.dInsert, TN.dPopAt, TN.ownL, TN.start0, TN.begB, TN.backD, TN.wipeD, TN.dYes, TN.sNever, List.getElem?_cons_zero, List.getElem?_cons_succ, List.set_cons_zero, List.set_cons_succ, List.map_cons, List.map_nil, List.length_cons, List.length_nil, List.cons_append, List.nil_append, List.replicate_succ, List.replicate_zero, Option.map_some, Option.map_none, Nat.add_one_sub_one, Nat.sub_zero, Nat.sub_self, Nat.zero_add, reduceCtorEq, Option.some.injEq, PyData.int.injEq, PyData.str.injEq, PyData.bool.injEq, PyData.list.injEq, PyData.tuple.injEq, Sl.sh.injEq, Sl.ow.injEq, List.cons.injEq, exists_eq_left', exists_eq_left, true_implies, false_implies, and_true, true_and, forall_const, Option.isSome_some, TN.imp_ff, TN.imp_tf, TN.imp_tt, exists_eq_left, exists_eq_left', exists_eq])
  refine ⟨r, hs, rfl, fk, _, rfl, by omega, _, oAdd_lst (by simp; omega), r :: hs, r, rfl, fk.rows, gr.ne, _, rfl, ?_⟩
  refine comp_fil PyData.str PyData.str (fun x => decide (x ∉ kF r hs)) (fun _ => True) rfl (fun _ => rfl) ?_ ?_ r [] (fun _ _ => trivial) (by simp; omega) ?_
  · intro x R _ kk
    (simp only [TN.dCallO, TN.dCallOI, TN.dCallNO, TN.oVar, TN.sCut, TN.tgLst, TN.iK, TN.iV, TN.iLT, TN.pNew, TN.dCallN, TN.dCompI2, TN.dLAddE, TN.oD, TN.sDNew, TN.sPutD, TN.fGetO, TN.fGetO2, TN.fInO, TN.fNinO, TN.dVarD, TN.dExtS, TN.mOwn, TN.dCallM, TN.mVar, TN.sRetV, TN.dAug, TN.dCallNT, TN.dCallNL, TN.fIxTs, TN.sForI, TN.dCompI, TN.dCompL, TN.dCompT, TN.dCompR, TN.iL, TN.iT, TN.iR1, TN.iR2, TN.iR3, TN.iS, TN.iE, TN.iRv, TN.iZ, TN.dKeepT, TN.dCallT, TN.pTup, TN.pCons, TN.pOwn, TN.sAsgT, TN.sRetT, TN.tpL, TN.fIxT, TN.fTp, TN.dAppendT, TN.dReverseT, TN.dClearT, TN.dVarT, TN.dReverse, TN.dClear, TN.dPop, Pt.d, Sl.tp.injEq, TN.startF, TN.dCallV, Sl.fn.injEq, TN.dCallF, TN.dLRev, TN.dLAdd, TN.dLSlP, TN.dLSlice, TN.dSliceE, TN.dNo, TN.dEnd, TN.fNo, TN.sSeq, TN.sNext, TN.sDrop, TN.sRet, TN.sRetL, TN.sRetN, TN.sIf, TN.sAsg, TN.sAsgL, TN.sStore, TN.sForL, TN.sForT, TN.sForR, TN.sForR2, TN.tgN, TN.tgTup, TN.tgCons, TN.tgNil, TN.dP, TN.dB, TN.dCall, TN.dCallL, TN.dCallB, TN.dCallBL, TN.dCons, TN.dNil, TN.dTup, TN.dLst, TN.dKeep, TN.dVar, TN.fVar, TN.fPeek, TN.fC, TN.f2, TN.d2, TN.d2V, TN.f1, TN.d1, TN.fCB, TN.dCB, TN.dCBL, TN.fNil, TN.fCons, TN.asBool, TN.dTest, TN.bAnd, TN.bOr, TN.bNot, TN.dAnd, TN.dOr, TN.dNot, TN.fAndV, TN.fOrV, TN.fNotV, TN.dAndV, TN.dOrV, TN.dNotV, TN.dIfE, TN.dIfL, TN.fIfE, TN.fChain, TN.fSlice, TN.dSlice, TN.fNo, TN.fEnd, TN.dAppend, TN.dInsert, TN.dPopAt, TN.ownL, TN.start0, TN.begB, TN.backD, TN.wipeD, TN.dYes, TN.sNever, List.getElem?_cons_zero, List.getElem?_cons_succ, List.set_cons_zero, List.set_cons_succ, List.map_cons, List.map_nil, List.length_cons, List.length_nil, List.cons_append, List.nil_append, List.replicate_succ, List.replicate_zero, Option.map_some, Option.map_none, Nat.add_one_sub_one, Nat.sub_zero, Nat.sub_self, Nat.zero_add, reduceCtorEq, Option.some.injEq, PyData.int.injEq, PyData.str.injEq, PyData.bool.injEq, PyData.list.injEq, PyData.tuple.injEq, Sl.sh.injEq, Sl.ow.injEq, List.cons.injEq, exists_eq_left', exists_eq_left, true_implies, false_implies, and_true, true_and, forall_const, Option.isSome_some, TN.imp_ff, TN.imp_tf, TN.imp_tt, exists_eq_left, exists_eq_left', exists_eq])
    rw [oNin_tup]
    exact ⟨_, rfl, kk⟩
  · intro x R _ kk
    (simp only [TN.dCallO, TN.dCallOI, TN.dCallNO, TN.oVar, TN.sCut, TN.tgLst, TN.iK, TN.iV, TN.iLT, TN.pNew, TN.dCallN, TN.dCompI2, TN.dLAddE, TN.oD, TN.sDNew, TN.sPutD, TN.fGetO, TN.fGetO2, TN.fInO, TN.fNinO, TN.dVarD, TN.dExtS, TN.mOwn, TN.dCallM, TN.mVar, TN.sRetV, TN.dAug, TN.dCallNT, TN.dCallNL, TN.fIxTs, TN.sForI, TN.dCompI, TN.dCompL, TN.dCompT, TN.dCompR, TN.iL, TN.iT, TN.iR1, TN.iR2, TN.iR3, TN.iS, TN.iE, TN.iRv, TN.iZ, TN.dKeepT, TN.dCallT, TN.pTup, TN.pCons, TN.pOwn, TN.sAsgT, TN.sRetT, TN.tpL, TN.fIxT, TN.fTp, TN.dAppendT, TN.dReverseT, TN.dClearT, TN.dVarT, TN.dReverse, TN.dClear, TN.dPop, Pt.d, Sl.tp.injEq, TN.startF, TN.dCallV, Sl.fn.injEq, TN.dCallF, TN.dLRev, TN.dLAdd, TN.dLSlP, TN.dLSlice, TN.dSliceE, TN.dNo, TN.dEnd, TN.fNo, TN.sSeq, TN.sNext, TN.sDrop, TN.sRet, TN.sRetL, TN.sRetN, TN.sIf, TN.sAsg, TN.sAsgL, TN.sStore, TN.sForL, TN.sForT, TN.sForR, TN.sForR2, TN.tgN, TN.tgTup, TN.tgCons, TN.tgNil, TN.dP, TN.dB, TN.dCall, TN.dCallL, TN.dCallB, TN.dCallBL, TN.dCons, TN.dNil, TN.dTup, TN.dLst, TN.dKeep, TN.dVar, TN.fVar, TN.fPeek, TN.fC, TN.f2, TN.d2, TN.d2V, TN.f1, TN.d1, TN.fCB, TN.dCB, TN.dCBL, TN.fNil, TN.fCons, TN.asBool, TN.dTest, TN.bAnd, TN.bOr, TN.bNot, TN.dAnd, TN.dOr, TN.dNot, TN.fAndV, TN.fOrV, TN.fNotV, TN.dAndV, TN.dOrV, TN.dNotV, TN.dIfE, TN.dIfL, TN.fIfE, TN.fChain, TN.fSlice, TN.dSlice, TN.fNo, TN.fEnd, TN.dAppend, TN.dInsert, TN.dPopAt, TN.ownL, TN.start0, TN.begB, TN.backD, TN.wipeD, TN.dYes, TN.sNever, List.getElem?_cons_zero, List.getElem?_cons_succ, List.set_cons_zero, List.set_cons_succ, List.map_cons, List.map_nil, List.length_cons, List.length_nil, List.cons_append, List.nil_append, List.replicate_succ, List.replicate_zero, Option.map_some, Option.map_none, Nat.add_one_sub_one, Nat.sub_zero, Nat.sub_self, Nat.zero_add, reduceCtorEq, Option.some.injEq, PyData.int.injEq, PyData.str.injEq, PyData.bool.injEq, PyData.list.injEq, PyData.tuple.injEq, Sl.sh.injEq, Sl.ow.injEq, List.cons.injEq, exists_eq_left', exists_eq_left, true_implies, false_implies, and_true, true_and, forall_const, Option.isSome_some, TN.imp_ff, TN.imp_tf, TN.imp_tt, exists_eq_left, exists_eq_left', exists_eq])
    exact kk
  rw [List.nil_append]
  have fl : (r.filter fun x => decide (x ∉ kF r hs)).length ≤ r.length := List.length_filter_le _ _
  have ln : (nF r hs).length ≤ 16 := by unfold nF; rw [(sortS_perm _).length_eq]; omega
  refine ⟨_, oSorted_lstL (by omega), ?_⟩
  (simp only [TN.dCallO, TN.dCallOI, TN.dCallNO, TN.oVar, TN.sCut, TN.tgLst, TN.iK, TN.iV, TN.iLT, TN.pNew, TN.dCallN, TN.dCompI2, TN.dLAddE, TN.oD, TN.sDNew, TN.sPutD, TN.fGetO, TN.fGetO2, TN.fInO, TN.fNinO, TN.dVarD, TN.dExtS, TN.mOwn, TN.dCallM, TN.mVar, TN.sRetV, TN.dAug, TN.dCallNT, TN.dCallNL, TN.fIxTs, TN.sForI, TN.dCompI, TN.dCompL, TN.dCompT, TN.dCompR, TN.iL, TN.iT, TN.iR1, TN.iR2, TN.iR3, TN.iS, TN.iE, TN.iRv, TN.iZ, TN.dKeepT, TN.dCallT, TN.pTup, TN.pCons, TN.pOwn, TN.sAsgT, TN.sRetT, TN.tpL, TN.fIxT, TN.fTp, TN.dAppendT, TN.dReverseT, TN.dClearT, TN.dVarT, TN.dReverse, TN.dClear, TN.dPop, Pt.d, Sl.tp.injEq, TN.startF, TN.dCallV, Sl.fn.injEq, TN.dCallF, TN.dLRev, TN.dLAdd, TN.dLSlP, TN.dLSlice, TN.dSliceE, TN.dNo, TN.dEnd, TN.fNo, TN.sSeq, TN.sNext, TN.sDrop, TN.sRet, TN.sRetL, TN.sRetN, TN.sIf, TN.sAsg, TN.sAsgL, TN.sStore, TN.sForL, TN.sForT, TN.sForR, TN.sForR2, TN.tgN, TN.tgTup, TN.tgCons, TN.tgNil, TN.dP, TN.dB, TN.dCall, TN.dCallL, TN.dCallB, TN.dCallBL, TN.dCons, TN.dNil, TN.dTup, TN.dLst, TN.dKeep, TN.dVar, TN.fVar, TN.fPeek, TN.fC, TN.f2, TN.d2, TN.d2V, TN.f1, TN.d1, TN.fCB, TN.dCB, TN.dCBL, TN.fNil, TN.fCons, TN.asBool, TN.dTest, TN.bAnd, TN.bOr, TN.bNot, TN.dAnd, TN.dOr, TN.dNot, TN.fAndV, TN.fOrV, TN.fNotV, TN.dAndV, TN.dOrV, TN.dNotV, TN.dIfE, TN.dIfL, TN.fIfE, TN.fChain, TN.fSlice, TN.dSlice, TN.fNo, TN.fEnd, TN.dAppend, TN.dInsert, TN.dPopAt, TN.ownL, TN.start0, TN.begB, TN.backD, TN.wipeD, TN.dYes, TN.sNever, List.getElem?_cons_zero, List.getElem?_cons_succ, List.set_cons_zero, List.set_cons_succ, List.map_cons, List.map_nil, List.length_cons, List.length_nil, List.cons_append, List.nil_append, List.replicate_succ, List.replicate_zero, Option.map_some, Option.map_none, Nat.add_one_sub_one, Nat.sub_zero, Nat.sub_self, Nat.zero_add, reduceCtorEq, Option.some.injEq, PyData.int.injEq, PyData.str.injEq, PyData.bool.injEq, PyData.list.injEq, PyData.tuple.injEq, Sl.sh.injEq, Sl.ow.injEq, List.cons.injEq, exists_eq_left', exists_eq_left, true_implies, false_implies, and_true, true_and, forall_const, Option.isSome_some, TN.imp_ff, TN.imp_tf, TN.imp_tt, exists_eq_left, exists_eq_left', exists_eq])
  have okn : ∀ x ∈ nF r hs, okS x := fun x hx => gr.oks x (nF_mem.mp hx).1
  exact ⟨_, rfl, alk_lstL okn (by omega), _, rfl, q _⟩

abbrev s_law : Stmt := topS 36
theorem sc_law : FnScope ["script", "k", "bag"] ["script"] (defScope s_law) := ⟨rfl, rfl, rfl, by decide +kernel, rfl, by decide +kernel, by decide +kernel⟩
theorem ok_law (b : Blt mg) (h__law_bag : Has P w K mg base "_law_bag" 1 ["cell", "k"] (sp0 K semBag)) (h__law_cell_at : Has P w K mg base "_law_cell_at" 1 ["script", "k"] (sp0 K semCell)) (h__law_small_right : Has P w K mg base "_law_small_right" 7 ["bag"] (spB K semSmall42)) (h__law_great_right : Has P w K mg base "_law_great_right" 7 ["bag"] (spB K semOwnBag)) {f : Addr} {fd : FuncData} (F : Fun K "law" "law" s_law f fd) : FnG P w K mg base CX0 8 f fd ["script"] (sp0 K semLaw) := by
  refine fn0 (k := 7) F sc_law (fun ds Q h => by obtain ⟨ns, rfl, _⟩ := h; rfl) (fun cdv A outer s H E hg hr =>
    have nd := sc_law.nd
    have hu := hr.units
    have hu1 := hu_of hr
    (pss_cons (ps_for PassesOwn.never rfl (pi_range1 (by rfl) b.range (pa_cons pe_int pa_nil)) (pg_name (i := 1) nd rfl (by first | exact Or.inl rfl | exact Or.inr rfl)) (pss_cons (ps_set (i := 2) nd rfl (by first | exact Or.inl rfl | exact Or.inr rfl) (pe_has (h__law_bag.up (by decide)) hg hr (by rfl) (pa_cons (pe_has (h__law_cell_at.up (by decide)) hg hr (by rfl) (pa_cons (pv 0) (pa_cons (pv 1) pa_nil))) (pa_cons (pv 1) pa_nil))))
 (pss_one (ps_if (PW.pt (pw_or (pt_not (pt_val (pe_has (h__law_small_right.up (by decide)) hg hr (by rfl) (pa_cons (pv 2) pa_nil)))) (pw_or1 (pt_not (pt_val (pe_has (h__law_great_right.up (by decide)) hg hr (by rfl) (pa_cons (pv 2) pa_nil))))))) (pss_one (ps_ret pe_bl)) pss_nil))))
 (pss_one (ps_ret pe_bl))))
    (ls_seq (ls_forR (les_cons (LP.e lp_int) les_nil) (lg_name (i := 1) (by decide)) (ls_seq (ls_asgL (i := 2) (by decide) (ll_call (les_cons (le_call (les_cons (LP.e (lp_var (i := 0))) (les_cons (LP.e (lp_var (i := 1))) les_nil))) (les_cons (LP.e (lp_var (i := 1))) les_nil))))
 (ls_if (lt_or (lt_not (lt_B (le_callB (j := 2) les_nil))) (lt_not (lt_B (le_callB (j := 2) les_nil)))) (ls_ret (LP.e lp_bl)) ls_next)))
 (ls_ret (LP.e lp_bl))) ?_
  rintro ds Q ⟨ns, rfl, few, q⟩
  (simp only [TN.dCallO, TN.dCallOI, TN.dCallNO, TN.oVar, TN.sCut, TN.tgLst, TN.iK, TN.iV, TN.iLT, TN.pNew, TN.dCallN, TN.dCompI2, TN.dLAddE, TN.oD, TN.sDNew, TN.sPutD, TN.fGetO, TN.fGetO2, TN.fInO, TN.fNinO, TN.dVarD, TN.dExtS, TN.mOwn, TN.dCallM, TN.mVar, TN.sRetV, TN.dAug, TN.dCallNT, TN.dCallNL, TN.fIxTs, TN.sForI, TN.dCompI, TN.dCompL, TN.dCompT, TN.dCompR, TN.iL, TN.iT, TN.iR1, TN.iR2, TN.iR3, TN.iS, TN.iE, TN.iRv, TN.iZ, TN.dKeepT, TN.dCallT, TN.pTup, TN.pCons, TN.pOwn, TN.sAsgT, TN.sRetT, TN.tpL, TN.fIxT, TN.fTp, TN.dAppendT, TN.dReverseT, TN.dClearT, TN.dVarT, TN.dReverse, TN.dClear, TN.dPop, Pt.d, Sl.tp.injEq, TN.startF, TN.dCallV, Sl.fn.injEq, TN.dCallF, TN.dLRev, TN.dLAdd, TN.dLSlP, TN.dLSlice, TN.dSliceE, TN.dNo, TN.dEnd, TN.fNo, TN.sSeq, TN.sNext, TN.sDrop, TN.sRet, TN.sRetL, TN.sRetN, TN.sIf, TN.sAsg, TN.sAsgL, TN.sStore, TN.sForL, TN.sForT, TN.sForR, TN.sForR2, TN.tgN, TN.tgTup, TN.tgCons, TN.tgNil, TN.dP, TN.dB, TN.dCall, TN.dCallL, TN.dCallB, TN.dCallBL, TN.dCons, TN.dNil, TN.dTup, TN.dLst, TN.dKeep, TN.dVar, TN.fVar, TN.fPeek, TN.fC, TN.f2, TN.d2, TN.d2V, TN.f1, TN.d1, TN.fCB, TN.dCB, TN.dCBL, TN.fNil, TN.fCons, TN.asBool, TN.dTest, TN.bAnd, TN.bOr, TN.bNot, TN.dAnd, TN.dOr, TN.dNot, TN.fAndV, TN.fOrV, TN.fNotV, TN.dAndV, TN.dOrV, TN.dNotV, TN.dIfE, TN.dIfL, TN.fIfE, TN.fChain, TN.fSlice, TN.dSlice, TN.fNo, TN.fEnd, TN.dAppend, TN.dInsert, TN.dPopAt, TN.ownL, TN.start0, TN.begB, TN.backD, TN.wipeD, TN.dYes, TN.sNever, List.getElem?_cons_zero, List.getElem?_cons_succ, List.set_cons_zero, List.set_cons_succ, List.map_cons, List.map_nil, List.length_cons, List.length_nil, List.cons_append, List.nil_append, List.replicate_succ, List.replicate_zero, Option.map_some, Option.map_none, Nat.add_one_sub_one, Nat.sub_zero, Nat.sub_self, Nat.zero_add, reduceCtorEq, Option.some.injEq, PyData.int.injEq, PyData.str.injEq, PyData.bool.injEq, PyData.list.injEq, PyData.tuple.injEq, Sl.sh.injEq, Sl.ow.injEq, List.cons.injEq, exists_eq_left', exists_eq_left, true_implies, false_implies, and_true, true_and, forall_const, Option.isSome_some, TN.imp_ff, TN.imp_tf, TN.imp_tt, exists_eq_left, exists_eq_left', exists_eq])
  refine ⟨by decide, by decide, ?_⟩
  rw [show rangeD 0 (Int.toNat 3) = (List.range 3).map fun (k : Nat) => PyData.int k from rangeD_nat]
  refine forD_go (fun (k : Nat) => PyData.int k) (fun ls ρ => ∃ (b1 b2 : Sl), (∀ k ∈ ls, k < 3) ∧ ρ = [.sh (.list (ns.map PyData.int)), b1, b2]) ?_ ?_ _ _ ⟨.no, .no, fun k hk => List.mem_range.mp hk, rfl⟩
  · rintro p ls ρ E' ⟨b1, b2, hp, rfl⟩ nx _ _ _
    have p3 := hp p List.mem_cons_self
    (simp only [TN.dCallO, TN.dCallOI, TN.dCallNO, TN.oVar, TN.sCut, TN.tgLst, TN.iK, TN.iV, TN.iLT, TN.pNew, TN.dCallN, TN.dCompI2, TN.dLAddE, TN.oD, TN.sDNew, TN.sPutD, TN.fGetO, TN.fGetO2, TN.fInO, TN.fNinO, TN.dVarD, TN.dExtS, TN.mOwn, TN.dCallM, TN.mVar, TN.sRetV, TN.dAug, TN.dCallNT, TN.dCallNL, TN.fIxTs, TN.sForI, TN.dCompI, TN.dCompL, TN.dCompT, TN.dCompR, TN.iL, TN.iT, TN.iR1, TN.iR2, TN.iR3, TN.iS, TN.iE, TN.iRv, TN.iZ, TN.dKeepT, TN.dCallT, TN.pTup, TN.pCons, TN.pOwn, TN.sAsgT, TN.sRetT, TN.tpL, TN.fIxT, TN.fTp, TN.dAppendT, TN.dReverseT, TN.dClearT, TN.dVarT, TN.dReverse, TN.dClear, TN.dPop, Pt.d, Sl.tp.injEq, TN.startF, TN.dCallV, Sl.fn.injEq, TN.dCallF, TN.dLRev, TN.dLAdd, TN.dLSlP, TN.dLSlice, TN.dSliceE, TN.dNo, TN.dEnd, TN.fNo, TN.sSeq, TN.sNext, TN.sDrop, TN.sRet, TN.sRetL, TN.sRetN, TN.sIf, TN.sAsg, TN.sAsgL, TN.sStore, TN.sForL, TN.sForT, TN.sForR, TN.sForR2, TN.tgN, TN.tgTup, TN.tgCons, TN.tgNil, TN.dP, TN.dB, TN.dCall, TN.dCallL, TN.dCallB, TN.dCallBL, TN.dCons, TN.dNil, TN.dTup, TN.dLst, TN.dKeep, TN.dVar, TN.fVar, TN.fPeek, TN.fC, TN.f2, TN.d2, TN.d2V, TN.f1, TN.d1, TN.fCB, TN.dCB, TN.dCBL, TN.fNil, TN.fCons, TN.asBool, TN.dTest, TN.bAnd, TN.bOr, TN.bNot, TN.dAnd, TN.dOr, TN.dNot, TN.fAndV, TN.fOrV, TN.fNotV, TN.dAndV, TN.dOrV, TN.dNotV, TN.dIfE, TN.dIfL, TN.fIfE, TN.fChain, TN.fSlice, TN.dSlice, TN.fNo, TN.fEnd, TN.dAppend, TN.dInsert, TN.dPopAt, TN.ownL, TN.start0, TN.begB, TN.backD, TN.wipeD, TN.dYes, TN.sNever, List.getElem?_cons_zero, List.getElem?_cons_succ, List.set_cons_zero, List.set_cons_succ, List.map_cons, List.map_nil, List.length_cons, List.length_nil, List.cons_append, List.nil_append, List.replicate_succ, List.replicate_zero, Option.map_some, Option.map_none, Nat.add_one_sub_one, Nat.sub_zero, Nat.sub_self, Nat.zero_add, reduceCtorEq, Option.some.injEq, PyData.int.injEq, PyData.str.injEq, PyData.bool.injEq, PyData.list.injEq, PyData.tuple.injEq, Sl.sh.injEq, Sl.ow.injEq, List.cons.injEq, exists_eq_left', exists_eq_left, true_implies, false_implies, and_true, true_and, forall_const, Option.isSome_some, TN.imp_ff, TN.imp_tf, TN.imp_tt, exists_eq_left, exists_eq_left', exists_eq])
    refine ⟨ns, p, rfl, fun c => ⟨_, rfl, c, p, rfl, by omega, fun xs sp => ?_⟩⟩
    refine ⟨_, rfl, 0, sp, by decide, rfl, fun ys sp2 => ⟨_, rfl, true, rfl, (fun z => by cases z), fun _ => ?_⟩⟩
    refine ⟨0 + 5000, sp2, by decide, rfl, fun ys => ⟨_, rfl, true, rfl, (fun z => by cases z), fun _ => nx _ ⟨_, _, fun k hk => hp k (List.mem_cons_of_mem _ hk), rfl⟩⟩⟩
  · rintro ρ ⟨b1, b2, _, rfl⟩
    (simp only [TN.dCallO, TN.dCallOI, TN.dCallNO, TN.oVar, TN.sCut, TN.tgLst, TN.iK, TN.iV, TN.iLT, TN.pNew, TN.dCallN, TN.dCompI2, TN.dLAddE, TN.oD, TN.sDNew, TN.sPutD, TN.fGetO, TN.fGetO2, TN.fInO, TN.fNinO, TN.dVarD, TN.dExtS, TN.mOwn, TN.dCallM, TN.mVar, TN.sRetV, TN.dAug, TN.dCallNT, TN.dCallNL, TN.fIxTs, TN.sForI, TN.dCompI, TN.dCompL, TN.dCompT, TN.dCompR, TN.iL, TN.iT, TN.iR1, TN.iR2, TN.iR3, TN.iS, TN.iE, TN.iRv, TN.iZ, TN.dKeepT, TN.dCallT, TN.pTup, TN.pCons, TN.pOwn, TN.sAsgT, TN.sRetT, TN.tpL, TN.fIxT, TN.fTp, TN.dAppendT, TN.dReverseT, TN.dClearT, TN.dVarT, TN.dReverse, TN.dClear, TN.dPop, Pt.d, Sl.tp.injEq, TN.startF, TN.dCallV, Sl.fn.injEq, TN.dCallF, TN.dLRev, TN.dLAdd, TN.dLSlP, TN.dLSlice, TN.dSliceE, TN.dNo, TN.dEnd, TN.fNo, TN.sSeq, TN.sNext, TN.sDrop, TN.sRet, TN.sRetL, TN.sRetN, TN.sIf, TN.sAsg, TN.sAsgL, TN.sStore, TN.sForL, TN.sForT, TN.sForR, TN.sForR2, TN.tgN, TN.tgTup, TN.tgCons, TN.tgNil, TN.dP, TN.dB, TN.dCall, TN.dCallL, TN.dCallB, TN.dCallBL, TN.dCons, TN.dNil, TN.dTup, TN.dLst, TN.dKeep, TN.dVar, TN.fVar, TN.fPeek, TN.fC, TN.f2, TN.d2, TN.d2V, TN.f1, TN.d1, TN.fCB, TN.dCB, TN.dCBL, TN.fNil, TN.fCons, TN.asBool, TN.dTest, TN.bAnd, TN.bOr, TN.bNot, TN.dAnd, TN.dOr, TN.dNot, TN.fAndV, TN.fOrV, TN.fNotV, TN.dAndV, TN.dOrV, TN.dNotV, TN.dIfE, TN.dIfL, TN.fIfE, TN.fChain, TN.fSlice, TN.dSlice, TN.fNo, TN.fEnd, TN.dAppend, TN.dInsert, TN.dPopAt, TN.ownL, TN.start0, TN.begB, TN.backD, TN.wipeD, TN.dYes, TN.sNever, List.getElem?_cons_zero, List.getElem?_cons_succ, List.set_cons_zero, List.set_cons_succ, List.map_cons, List.map_nil, List.length_cons, List.length_nil, List.cons_append, List.nil_append, List.replicate_succ, List.replicate_zero, Option.map_some, Option.map_none, Nat.add_one_sub_one, Nat.sub_zero, Nat.sub_self, Nat.zero_add, reduceCtorEq, Option.some.injEq, PyData.int.injEq, PyData.str.injEq, PyData.bool.injEq, PyData.list.injEq, PyData.tuple.injEq, Sl.sh.injEq, Sl.ow.injEq, List.cons.injEq, exists_eq_left', exists_eq_left, true_implies, false_implies, and_true, true_and, forall_const, Option.isSome_some, TN.imp_ff, TN.imp_tf, TN.imp_tt, exists_eq_left, exists_eq_left', exists_eq])
    exact q
end
/-! ### what the top left -/
theorem all_mk {P : Program} {w : World} {K : PySem.W.Frag} {h : Heap} {mg : Str → Option Value} {fa : Addr} (X : K.In h) (G : h.Ns mainGlobals mg) (hfa : mg "law" = some (.ref fa))
    {f0 : Addr} {od0 an0 : Option Addr} {sl0 : Array (Option Value)} {oc0 kv0 dc0 pm0 cd0 ct0 : Value}
    {f1 : Addr} {od1 an1 : Option Addr} {sl1 : Array (Option Value)} {oc1 kv1 dc1 pm1 cd1 ct1 : Value}
    {f2 : Addr} {od2 an2 : Option Addr} {sl2 : Array (Option Value)} {oc2 kv2 dc2 pm2 cd2 ct2 : Value}
    {f3 : Addr} {od3 an3 : Option Addr} {sl3 : Array (Option Value)} {oc3 kv3 dc3 pm3 cd3 ct3 : Value}
    {f4 : Addr} {od4 an4 : Option Addr} {sl4 : Array (Option Value)} {oc4 kv4 dc4 pm4 cd4 ct4 : Value}
    {f5 : Addr} {od5 an5 : Option Addr} {sl5 : Array (Option Value)} {oc5 kv5 dc5 pm5 cd5 ct5 : Value}
    {f6 : Addr} {od6 an6 : Option Addr} {sl6 : Array (Option Value)} {oc6 kv6 dc6 pm6 cd6 ct6 : Value}
    {f7 : Addr} {od7 an7 : Option Addr} {sl7 : Array (Option Value)} {oc7 kv7 dc7 pm7 cd7 ct7 : Value}
    {f8 : Addr} {od8 an8 : Option Addr} {sl8 : Array (Option Value)} {oc8 kv8 dc8 pm8 cd8 ct8 : Value}
    {f9 : Addr} {od9 an9 : Option Addr} {sl9 : Array (Option Value)} {oc9 kv9 dc9 pm9 cd9 ct9 : Value}
    {f10 : Addr} {od10 an10 : Option Addr} {sl10 : Array (Option Value)} {oc10 kv10 dc10 pm10 cd10 ct10 : Value}
    {f11 : Addr} {od11 an11 : Option Addr} {sl11 : Array (Option Value)} {oc11 kv11 dc11 pm11 cd11 ct11 : Value}
    {f12 : Addr} {od12 an12 : Option Addr} {sl12 : Array (Option Value)} {oc12 kv12 dc12 pm12 cd12 ct12 : Value}
    {f13 : Addr} {od13 an13 : Option Addr} {sl13 : Array (Option Value)} {oc13 kv13 dc13 pm13 cd13 ct13 : Value}
    {f14 : Addr} {od14 an14 : Option Addr} {sl14 : Array (Option Value)} {oc14 kv14 dc14 pm14 cd14 ct14 : Value}
    {f15 : Addr} {od15 an15 : Option Addr} {sl15 : Array (Option Value)} {oc15 kv15 dc15 pm15 cd15 ct15 : Value}
    {f16 : Addr} {od16 an16 : Option Addr} {sl16 : Array (Option Value)} {oc16 kv16 dc16 pm16 cd16 ct16 : Value}
    {f17 : Addr} {od17 an17 : Option Addr} {sl17 : Array (Option Value)} {oc17 kv17 dc17 pm17 cd17 ct17 : Value}
    {f18 : Addr} {od18 an18 : Option Addr} {sl18 : Array (Option Value)} {oc18 kv18 dc18 pm18 cd18 ct18 : Value}
    {f19 : Addr} {od19 an19 : Option Addr} {sl19 : Array (Option Value)} {oc19 kv19 dc19 pm19 cd19 ct19 : Value}
    {f20 : Addr} {od20 an20 : Option Addr} {sl20 : Array (Option Value)} {oc20 kv20 dc20 pm20 cd20 ct20 : Value}
    {f21 : Addr} {od21 an21 : Option Addr} {sl21 : Array (Option Value)} {oc21 kv21 dc21 pm21 cd21 ct21 : Value}
    {f22 : Addr} {od22 an22 : Option Addr} {sl22 : Array (Option Value)} {oc22 kv22 dc22 pm22 cd22 ct22 : Value}
    {f23 : Addr} {od23 an23 : Option Addr} {sl23 : Array (Option Value)} {oc23 kv23 dc23 pm23 cd23 ct23 : Value}
    {f24 : Addr} {od24 an24 : Option Addr} {sl24 : Array (Option Value)} {oc24 kv24 dc24 pm24 cd24 ct24 : Value}
    {f25 : Addr} {od25 an25 : Option Addr} {sl25 : Array (Option Value)} {oc25 kv25 dc25 pm25 cd25 ct25 : Value}
    {tk_MOST_HEARERS : Tok}
    {tkM : Tok}
    (a0 : PySem.W.nsIn K mainGlobals "is_letter" = some (some (.ref f0)))
    (l0 : K.lookup f0 = some ⟨oc0, od0, .func (PySem.W.fnOf "is_letter" "is_letter" (defArgs s_is_letter) (defBody s_is_letter) (defScope s_is_letter) .none kv0 dc0 pm0 an0 cd0 ct0), sl0⟩)
    (c0 : PySem.W.codeIn K cd0 "is_letter" = true)
    (k0 : PySem.W.keepIn K (.ref f0) = true)
    (a1 : PySem.W.nsIn K mainGlobals "is_row" = some (some (.ref f1)))
    (l1 : K.lookup f1 = some ⟨oc1, od1, .func (PySem.W.fnOf "is_row" "is_row" (defArgs s_is_row) (defBody s_is_row) (defScope s_is_row) .none kv1 dc1 pm1 an1 cd1 ct1), sl1⟩)
    (c1 : PySem.W.codeIn K cd1 "is_row" = true)
    (k1 : PySem.W.keepIn K (.ref f1) = true)
    (a2 : PySem.W.nsIn K mainGlobals "are_unlike_letters" = some (some (.ref f2)))
    (l2 : K.lookup f2 = some ⟨oc2, od2, .func (PySem.W.fnOf "are_unlike_letters" "are_unlike_letters" (defArgs s_are_unlike_letters) (defBody s_are_unlike_letters) (defScope s_are_unlike_letters) .none kv2 dc2 pm2 an2 cd2 ct2), sl2⟩)
    (c2 : PySem.W.codeIn K cd2 "are_unlike_letters" = true)
    (k2 : PySem.W.keepIn K (.ref f2) = true)
    (a3 : PySem.W.nsIn K mainGlobals "is_pair" = some (some (.ref f3)))
    (l3 : K.lookup f3 = some ⟨oc3, od3, .func (PySem.W.fnOf "is_pair" "is_pair" (defArgs s_is_pair) (defBody s_is_pair) (defScope s_is_pair) .none kv3 dc3 pm3 an3 cd3 ct3), sl3⟩)
    (c3 : PySem.W.codeIn K cd3 "is_pair" = true)
    (k3 : PySem.W.keepIn K (.ref f3) = true)
    (a4 : PySem.W.nsIn K mainGlobals "need_row" = some (some (.ref f4)))
    (l4 : K.lookup f4 = some ⟨oc4, od4, .func (PySem.W.fnOf "need_row" "need_row" (defArgs s_need_row) (defBody s_need_row) (defScope s_need_row) .none kv4 dc4 pm4 an4 cd4 ct4), sl4⟩)
    (c4 : PySem.W.codeIn K cd4 "need_row" = true)
    (k4 : PySem.W.keepIn K (.ref f4) = true)
    (a5 : PySem.W.nsIn K mainGlobals "is_ahead" = some (some (.ref f5)))
    (l5 : K.lookup f5 = some ⟨oc5, od5, .func (PySem.W.fnOf "is_ahead" "is_ahead" (defArgs s_is_ahead) (defBody s_is_ahead) (defScope s_is_ahead) .none kv5 dc5 pm5 an5 cd5 ct5), sl5⟩)
    (c5 : PySem.W.codeIn K cd5 "is_ahead" = true)
    (k5 : PySem.W.keepIn K (.ref f5) = true)
    (a6 : PySem.W.nsIn K mainGlobals "lengths_from" = some (some (.ref f6)))
    (l6 : K.lookup f6 = some ⟨oc6, od6, .func (PySem.W.fnOf "lengths_from" "lengths_from" (defArgs s_lengths_from) (defBody s_lengths_from) (defScope s_lengths_from) .none kv6 dc6 pm6 an6 cd6 ct6), sl6⟩)
    (c6 : PySem.W.codeIn K cd6 "lengths_from" = true)
    (k6 : PySem.W.keepIn K (.ref f6) = true)
    (a7 : PySem.W.nsIn K mainGlobals "least_longest" = some (some (.ref f7)))
    (l7 : K.lookup f7 = some ⟨oc7, od7, .func (PySem.W.fnOf "least_longest" "least_longest" (defArgs s_least_longest) (defBody s_least_longest) (defScope s_least_longest) .none kv7 dc7 pm7 an7 cd7 ct7), sl7⟩)
    (c7 : PySem.W.codeIn K cd7 "least_longest" = true)
    (k7 : PySem.W.keepIn K (.ref f7) = true)
    (a8 : PySem.W.nsIn K mainGlobals "letters_of_length" = some (some (.ref f8)))
    (l8 : K.lookup f8 = some ⟨oc8, od8, .func (PySem.W.fnOf "letters_of_length" "letters_of_length" (defArgs s_letters_of_length) (defBody s_letters_of_length) (defScope s_letters_of_length) .none kv8 dc8 pm8 an8 cd8 ct8), sl8⟩)
    (c8 : PySem.W.codeIn K cd8 "letters_of_length" = true)
    (k8 : PySem.W.keepIn K (.ref f8) = true)
    (a9 : PySem.W.nsIn K mainGlobals "need_hearers" = some (some (.ref f9)))
    (l9 : K.lookup f9 = some ⟨oc9, od9, .func (PySem.W.fnOf "need_hearers" "need_hearers" (defArgs s_need_hearers) (defBody s_need_hearers) (defScope s_need_hearers) .none kv9 dc9 pm9 an9 cd9 ct9), sl9⟩)
    (c9 : PySem.W.codeIn K cd9 "need_hearers" = true)
    (k9 : PySem.W.keepIn K (.ref f9) = true)
    (a10 : PySem.W.nsIn K mainGlobals "all_alone" = some (some (.ref f10)))
    (l10 : K.lookup f10 = some ⟨oc10, od10, .func (PySem.W.fnOf "all_alone" "all_alone" (defArgs s_all_alone) (defBody s_all_alone) (defScope s_all_alone) .none kv10 dc10 pm10 an10 cd10 ct10), sl10⟩)
    (c10 : PySem.W.codeIn K cd10 "all_alone" = true)
    (k10 : PySem.W.keepIn K (.ref f10) = true)
    (a11 : PySem.W.nsIn K mainGlobals "_law_cell_at" = some (some (.ref f11)))
    (l11 : K.lookup f11 = some ⟨oc11, od11, .func (PySem.W.fnOf "_law_cell_at" "_law_cell_at" (defArgs s__law_cell_at) (defBody s__law_cell_at) (defScope s__law_cell_at) .none kv11 dc11 pm11 an11 cd11 ct11), sl11⟩)
    (c11 : PySem.W.codeIn K cd11 "_law_cell_at" = true)
    (k11 : PySem.W.keepIn K (.ref f11) = true)
    (a12 : PySem.W.nsIn K mainGlobals "_law_bag" = some (some (.ref f12)))
    (l12 : K.lookup f12 = some ⟨oc12, od12, .func (PySem.W.fnOf "_law_bag" "_law_bag" (defArgs s__law_bag) (defBody s__law_bag) (defScope s__law_bag) .none kv12 dc12 pm12 an12 cd12 ct12), sl12⟩)
    (c12 : PySem.W.codeIn K cd12 "_law_bag" = true)
    (k12 : PySem.W.keepIn K (.ref f12) = true)
    (a13 : PySem.W.nsIn K mainGlobals "_law_take" = some (some (.ref f13)))
    (l13 : K.lookup f13 = some ⟨oc13, od13, .func (PySem.W.fnOf "_law_take" "_law_take" (defArgs s__law_take) (defBody s__law_take) (defScope s__law_take) .none kv13 dc13 pm13 an13 cd13 ct13), sl13⟩)
    (c13 : PySem.W.codeIn K cd13 "_law_take" = true)
    (k13 : PySem.W.keepIn K (.ref f13) = true)
    (a14 : PySem.W.nsIn K mainGlobals "_law_alike" = some (some (.ref f14)))
    (l14 : K.lookup f14 = some ⟨oc14, od14, .func (PySem.W.fnOf "_law_alike" "_law_alike" (defArgs s__law_alike) (defBody s__law_alike) (defScope s__law_alike) .none kv14 dc14 pm14 an14 cd14 ct14), sl14⟩)
    (c14 : PySem.W.codeIn K cd14 "_law_alike" = true)
    (k14 : PySem.W.keepIn K (.ref f14) = true)
    (a15 : PySem.W.nsIn K mainGlobals "_law_mixed" = some (some (.ref f15)))
    (l15 : K.lookup f15 = some ⟨oc15, od15, .func (PySem.W.fnOf "_law_mixed" "_law_mixed" (defArgs s__law_mixed) (defBody s__law_mixed) (defScope s__law_mixed) .none kv15 dc15 pm15 an15 cd15 ct15), sl15⟩)
    (c15 : PySem.W.codeIn K cd15 "_law_mixed" = true)
    (k15 : PySem.W.keepIn K (.ref f15) = true)
    (a16 : PySem.W.nsIn K mainGlobals "_law_line" = some (some (.ref f16)))
    (l16 : K.lookup f16 = some ⟨oc16, od16, .func (PySem.W.fnOf "_law_line" "_law_line" (defArgs s__law_line) (defBody s__law_line) (defScope s__law_line) .none kv16 dc16 pm16 an16 cd16 ct16), sl16⟩)
    (c16 : PySem.W.codeIn K cd16 "_law_line" = true)
    (k16 : PySem.W.keepIn K (.ref f16) = true)
    (a17 : PySem.W.nsIn K mainGlobals "_law_heard" = some (some (.ref f17)))
    (l17 : K.lookup f17 = some ⟨oc17, od17, .func (PySem.W.fnOf "_law_heard" "_law_heard" (defArgs s__law_heard) (defBody s__law_heard) (defScope s__law_heard) .none kv17 dc17 pm17 an17 cd17 ct17), sl17⟩)
    (c17 : PySem.W.codeIn K cd17 "_law_heard" = true)
    (k17 : PySem.W.keepIn K (.ref f17) = true)
    (a18 : PySem.W.nsIn K mainGlobals "_law_all_parts" = some (some (.ref f18)))
    (l18 : K.lookup f18 = some ⟨oc18, od18, .func (PySem.W.fnOf "_law_all_parts" "_law_all_parts" (defArgs s__law_all_parts) (defBody s__law_all_parts) (defScope s__law_all_parts) .none kv18 dc18 pm18 an18 cd18 ct18), sl18⟩)
    (c18 : PySem.W.codeIn K cd18 "_law_all_parts" = true)
    (k18 : PySem.W.keepIn K (.ref f18) = true)
    (a19 : PySem.W.nsIn K mainGlobals "_law_in_order" = some (some (.ref f19)))
    (l19 : K.lookup f19 = some ⟨oc19, od19, .func (PySem.W.fnOf "_law_in_order" "_law_in_order" (defArgs s__law_in_order) (defBody s__law_in_order) (defScope s__law_in_order) .none kv19 dc19 pm19 an19 cd19 ct19), sl19⟩)
    (c19 : PySem.W.codeIn K cd19 "_law_in_order" = true)
    (k19 : PySem.W.keepIn K (.ref f19) = true)
    (a20 : PySem.W.nsIn K mainGlobals "_law_folk" = some (some (.ref f20)))
    (l20 : K.lookup f20 = some ⟨oc20, od20, .func (PySem.W.fnOf "_law_folk" "_law_folk" (defArgs s__law_folk) (defBody s__law_folk) (defScope s__law_folk) .none kv20 dc20 pm20 an20 cd20 ct20), sl20⟩)
    (c20 : PySem.W.codeIn K cd20 "_law_folk" = true)
    (k20 : PySem.W.keepIn K (.ref f20) = true)
    (a21 : PySem.W.nsIn K mainGlobals "_law_small_right" = some (some (.ref f21)))
    (l21 : K.lookup f21 = some ⟨oc21, od21, .func (PySem.W.fnOf "_law_small_right" "_law_small_right" (defArgs s__law_small_right) (defBody s__law_small_right) (defScope s__law_small_right) .none kv21 dc21 pm21 an21 cd21 ct21), sl21⟩)
    (c21 : PySem.W.codeIn K cd21 "_law_small_right" = true)
    (k21 : PySem.W.keepIn K (.ref f21) = true)
    (a22 : PySem.W.nsIn K mainGlobals "_law_heights" = some (some (.ref f22)))
    (l22 : K.lookup f22 = some ⟨oc22, od22, .func (PySem.W.fnOf "_law_heights" "_law_heights" (defArgs s__law_heights) (defBody s__law_heights) (defScope s__law_heights) .none kv22 dc22 pm22 an22 cd22 ct22), sl22⟩)
    (c22 : PySem.W.codeIn K cd22 "_law_heights" = true)
    (k22 : PySem.W.keepIn K (.ref f22) = true)
    (a23 : PySem.W.nsIn K mainGlobals "_law_least" = some (some (.ref f23)))
    (l23 : K.lookup f23 = some ⟨oc23, od23, .func (PySem.W.fnOf "_law_least" "_law_least" (defArgs s__law_least) (defBody s__law_least) (defScope s__law_least) .none kv23 dc23 pm23 an23 cd23 ct23), sl23⟩)
    (c23 : PySem.W.codeIn K cd23 "_law_least" = true)
    (k23 : PySem.W.keepIn K (.ref f23) = true)
    (a24 : PySem.W.nsIn K mainGlobals "_law_great_right" = some (some (.ref f24)))
    (l24 : K.lookup f24 = some ⟨oc24, od24, .func (PySem.W.fnOf "_law_great_right" "_law_great_right" (defArgs s__law_great_right) (defBody s__law_great_right) (defScope s__law_great_right) .none kv24 dc24 pm24 an24 cd24 ct24), sl24⟩)
    (c24 : PySem.W.codeIn K cd24 "_law_great_right" = true)
    (k24 : PySem.W.keepIn K (.ref f24) = true)
    (a25 : PySem.W.nsIn K mainGlobals "law" = some (some (.ref f25)))
    (l25 : K.lookup f25 = some ⟨oc25, od25, .func (PySem.W.fnOf "law" "law" (defArgs s_law) (defBody s_law) (defScope s_law) .none kv25 dc25 pm25 an25 cd25 ct25), sl25⟩)
    (c25 : PySem.W.codeIn K cd25 "law" = true)
    (k25 : PySem.W.keepIn K (.ref f25) = true)
    (z_all : PySem.W.nsIn K mainGlobals "all" = some none)
    (z_bool : PySem.W.nsIn K mainGlobals "bool" = some none)
    (z_enumerate : PySem.W.nsIn K mainGlobals "enumerate" = some none)
    (z_isinstance : PySem.W.nsIn K mainGlobals "isinstance" = some none)
    (z_len : PySem.W.nsIn K mainGlobals "len" = some none)
    (z_list : PySem.W.nsIn K mainGlobals "list" = some none)
    (z_max : PySem.W.nsIn K mainGlobals "max" = some none)
    (z_min : PySem.W.nsIn K mainGlobals "min" = some none)
    (z_range : PySem.W.nsIn K mainGlobals "range" = some none)
    (z_reversed : PySem.W.nsIn K mainGlobals "reversed" = some none)
    (z_set : PySem.W.nsIn K mainGlobals "set" = some none)
    (z_sorted : PySem.W.nsIn K mainGlobals "sorted" = some none)
    (z_str : PySem.W.nsIn K mainGlobals "str" = some none)
    (z_tuple : PySem.W.nsIn K mainGlobals "tuple" = some none)
    (z_type : PySem.W.nsIn K mainGlobals "type" = some none)
    (k_MOST_HEARERS : PySem.W.nsIn K mainGlobals "MOST_HEARERS" = some (some (.int 4 tk_MOST_HEARERS)))
    (cM : PySem.W.nsIn K mainGlobals "MOST_LETTERS" = some (some (.int 16 tkM))) :
    ∃ fd : FuncData, (∀ (s : Shared) (u : Value), BindsTo s fd ⟨[u], []⟩ [("script", u)]) ∧ ∀ base : Heap, K.In base → base.Ns mainGlobals mg → FnG P w K mg base CX0 8 fa fd ["script"] (sp0 K semLaw) := by
  have e := hfa.symm.trans (PySem.W.mg_of X G a25)
  cases e
  have b : Blt mg := ⟨PySem.W.mg_none_of X G z_all, PySem.W.mg_none_of X G z_bool, PySem.W.mg_none_of X G z_enumerate, PySem.W.mg_none_of X G z_isinstance, PySem.W.mg_none_of X G z_len, PySem.W.mg_none_of X G z_list, PySem.W.mg_none_of X G z_max, PySem.W.mg_none_of X G z_min, PySem.W.mg_none_of X G z_range, PySem.W.mg_none_of X G z_reversed, PySem.W.mg_none_of X G z_set, PySem.W.mg_none_of X G z_sorted, PySem.W.mg_none_of X G z_str, PySem.W.mg_none_of X G z_tuple, PySem.W.mg_none_of X G z_type⟩
  have F0 := fun_mk (st := s_is_letter) l0 c0 k0
  have F1 := fun_mk (st := s_is_row) l1 c1 k1
  have F2 := fun_mk (st := s_are_unlike_letters) l2 c2 k2
  have F3 := fun_mk (st := s_is_pair) l3 c3 k3
  have F4 := fun_mk (st := s_need_row) l4 c4 k4
  have F5 := fun_mk (st := s_is_ahead) l5 c5 k5
  have F6 := fun_mk (st := s_lengths_from) l6 c6 k6
  have F7 := fun_mk (st := s_least_longest) l7 c7 k7
  have F8 := fun_mk (st := s_letters_of_length) l8 c8 k8
  have F9 := fun_mk (st := s_need_hearers) l9 c9 k9
  have F10 := fun_mk (st := s_all_alone) l10 c10 k10
  have F11 := fun_mk (st := s__law_cell_at) l11 c11 k11
  have F12 := fun_mk (st := s__law_bag) l12 c12 k12
  have F13 := fun_mk (st := s__law_take) l13 c13 k13
  have F14 := fun_mk (st := s__law_alike) l14 c14 k14
  have F15 := fun_mk (st := s__law_mixed) l15 c15 k15
  have F16 := fun_mk (st := s__law_line) l16 c16 k16
  have F17 := fun_mk (st := s__law_heard) l17 c17 k17
  have F18 := fun_mk (st := s__law_all_parts) l18 c18 k18
  have F19 := fun_mk (st := s__law_in_order) l19 c19 k19
  have F20 := fun_mk (st := s__law_folk) l20 c20 k20
  have F21 := fun_mk (st := s__law_small_right) l21 c21 k21
  have F22 := fun_mk (st := s__law_heights) l22 c22 k22
  have F23 := fun_mk (st := s__law_least) l23 c23 k23
  have F24 := fun_mk (st := s__law_great_right) l24 c24 k24
  have F25 := fun_mk (st := s_law) l25 c25 k25
  have c1_MOST_HEARERS := PySem.W.mg_of X G k_MOST_HEARERS
  have cM1 := PySem.W.mg_of X G cM
  refine ⟨PySem.W.fnOf "law" "law" (defArgs s_law) (defBody s_law) (defScope s_law) .none kv25 dc25 pm25 an25 cd25 ct25, fun s v => .of_eq rfl, fun base _ _ => ?_⟩
  have H_is_letter := has_of (ok_is_letter (P := P) (w := w) (K := K) (mg := mg) (base := base) b (F := F0)) (PySem.W.mg_of X G a0) F0 fun _ _ _ _ _ _ us hl => match us, hl with | [_], _ => rfl
  have H_is_ahead := has_of (ok_is_ahead (P := P) (w := w) (K := K) (mg := mg) (base := base) b (F := F5)) (PySem.W.mg_of X G a5) F5 fun _ _ _ _ _ _ us hl => match us, hl with | [_, _, _], _ => rfl
  have H_letters_of_length := has_of (ok_letters_of_length (P := P) (w := w) (K := K) (mg := mg) (base := base) b (F := F8)) (PySem.W.mg_of X G a8) F8 fun _ _ _ _ _ _ us hl => match us, hl with | [_, _], _ => rfl
  have H__law_cell_at := has_of (ok__law_cell_at (P := P) (w := w) (K := K) (mg := mg) (base := base) b (F := F11)) (PySem.W.mg_of X G a11) F11 fun _ _ _ _ _ _ us hl => match us, hl with | [_, _], _ => rfl
  have H__law_bag := has_of (ok__law_bag (P := P) (w := w) (K := K) (mg := mg) (base := base) b (F := F12)) (PySem.W.mg_of X G a12) F12 fun _ _ _ _ _ _ us hl => match us, hl with | [_, _], _ => rfl
  have H__law_take := has_of (ok__law_take (P := P) (w := w) (K := K) (mg := mg) (base := base) b (F := F13)) (PySem.W.mg_of X G a13) F13 fun _ _ _ _ _ _ us hl => match us, hl with | [_, _], _ => rfl
  have H__law_all_parts := has_of (ok__law_all_parts (P := P) (w := w) (K := K) (mg := mg) (base := base) b (F := F18)) (PySem.W.mg_of X G a18) F18 fun _ _ _ _ _ _ us hl => match us, hl with | [_], _ => rfl
  have H__law_in_order := has_of (ok__law_in_order (P := P) (w := w) (K := K) (mg := mg) (base := base) b (F := F19)) (PySem.W.mg_of X G a19) F19 fun _ _ _ _ _ _ us hl => match us, hl with | [_, _], _ => rfl
  have H__law_heights := has_of (ok__law_heights (P := P) (w := w) (K := K) (mg := mg) (base := base) b (F := F22)) (PySem.W.mg_of X G a22) F22 fun _ _ _ _ _ _ us hl => match us, hl with | [_], _ => rfl
  have H_are_unlike_letters := has_of (ok_are_unlike_letters (P := P) (w := w) (K := K) (mg := mg) (base := base) b (h_is_letter := H_is_letter) (F := F2)) (PySem.W.mg_of X G a2) F2 fun _ _ _ _ _ _ us hl => match us, hl with | [_], _ => rfl
  have H_lengths_from := has_of (ok_lengths_from (P := P) (w := w) (K := K) (mg := mg) (base := base) b (h_is_ahead := H_is_ahead) (F := F6)) (PySem.W.mg_of X G a6) F6 fun _ _ _ _ _ _ us hl => match us, hl with | [_], _ => rfl
  have H_least_longest := has_of (ok_least_longest (P := P) (w := w) (K := K) (mg := mg) (base := base) b (h_letters_of_length := H_letters_of_length) (h_is_ahead := H_is_ahead) (F := F7)) (PySem.W.mg_of X G a7) F7 fun _ _ _ _ _ _ us hl => match us, hl with | [_, _], _ => rfl
  have H__law_mixed := has_of (ok__law_mixed (P := P) (w := w) (K := K) (mg := mg) (base := base) b (h__law_take := H__law_take) (F := F15)) (PySem.W.mg_of X G a15) F15 fun _ _ _ _ _ _ us hl => match us, hl with | [_, _], _ => rfl
  have H__law_least := has_of (ok__law_least (P := P) (w := w) (K := K) (mg := mg) (base := base) b (h__law_heights := H__law_heights) (F := F23)) (PySem.W.mg_of X G a23) F23 fun _ _ _ _ _ _ us hl => match us, hl with | [_], _ => rfl
  have H_is_row := has_of (ok_is_row (P := P) (w := w) (K := K) (mg := mg) (base := base) b (h_are_unlike_letters := H_are_unlike_letters) (c_MOST_LETTERS := cM1) (F := F1)) (PySem.W.mg_of X G a1) F1 fun _ _ _ _ _ _ us hl => match us, hl with | [_], _ => rfl
  have H__law_line := has_of (ok__law_line (P := P) (w := w) (K := K) (mg := mg) (base := base) b (h__law_mixed := H__law_mixed) (F := F16)) (PySem.W.mg_of X G a16) F16 fun _ _ _ _ _ _ us hl => match us, hl with | [_, _], _ => rfl
  have H__law_heard := has_of (ok__law_heard (P := P) (w := w) (K := K) (mg := mg) (base := base) b (h__law_take := H__law_take) (h__law_mixed := H__law_mixed) (F := F17)) (PySem.W.mg_of X G a17) F17 fun _ _ _ _ _ _ us hl => match us, hl with | [_, _], _ => rfl
  have H_is_pair := has_of (ok_is_pair (P := P) (w := w) (K := K) (mg := mg) (base := base) b (h_is_row := H_is_row) (F := F3)) (PySem.W.mg_of X G a3) F3 fun _ _ _ _ _ _ us hl => match us, hl with | [_], _ => rfl
  have H_need_row := has_of (ok_need_row (P := P) (w := w) (K := K) (mg := mg) (base := base) b (h_is_row := H_is_row) (F := F4)) (PySem.W.mg_of X G a4) F4 fun _ _ _ _ _ _ us hl => match us, hl with | [_], _ => rfl
  have H__law_folk := has_of (ok__law_folk (P := P) (w := w) (K := K) (mg := mg) (base := base) b (h__law_line := H__law_line) (h__law_take := H__law_take) (h__law_heard := H__law_heard) (F := F20)) (PySem.W.mg_of X G a20) F20 fun _ _ _ _ _ _ us hl => match us, hl with | [_, _], _ => rfl
  have H_need_hearers := has_of (ok_need_hearers (P := P) (w := w) (K := K) (mg := mg) (base := base) b (h_need_row := H_need_row) (h_is_pair := H_is_pair) (c_MOST_HEARERS := c1_MOST_HEARERS) (F := F9)) (PySem.W.mg_of X G a9) F9 fun _ _ _ _ _ _ us hl => match us, hl with | [_, _], _ => rfl
  have H__law_alike : ∀ n, Has P w K mg base "_law_alike" n ["found", "due"] (sp0 K (semAlike n)) := fun n => by
    induction n with
    | zero => exact (has_zero (PySem.W.mg_of X G a14) F14 fun _ _ _ _ _ _ us hl => match us, hl with | [_, _], _ => rfl).up (by omega)
    | succ n ih => exact has_of (ok__law_alike (P := P) (w := w) (K := K) (mg := mg) (base := base) b (h__law_alike := ih) (F := F14)) (PySem.W.mg_of X G a14) F14 fun _ _ _ _ _ _ us hl => match us, hl with | [_, _], _ => rfl
  have H_all_alone__hearers_row : HasK P w K mg base "all_alone" 6 _ ["hearers", "row"] [1, 0] _ := hasK_of (ok_all_alone (P := P) (w := w) (K := K) (mg := mg) (base := base) b (h_need_hearers := H_need_hearers) (h_least_longest := H_least_longest) (h_lengths_from := H_lengths_from) (F := F10)) (PySem.W.mg_of X G a10) F10 fun _ _ _ _ _ _ us hl => match us, hl with | _ :: _ :: _, _ => rfl
  have H_all_alone := has_of (ok_all_alone (P := P) (w := w) (K := K) (mg := mg) (base := base) b (h_need_hearers := H_need_hearers) (h_least_longest := H_least_longest) (h_lengths_from := H_lengths_from) (F := F10)) (PySem.W.mg_of X G a10) F10 fun _ _ _ _ _ _ us hl => match us, hl with | [_, _], _ => rfl
  have H__law_small_right := has_of (ok__law_small_right (P := P) (w := w) (K := K) (mg := mg) (base := base) b (h__law_folk := H__law_folk) (h__law_all_parts := H__law_all_parts) (h__law_in_order := H__law_in_order) (h_all_alone := H_all_alone) (h__law_alike := H__law_alike 5) (h_all_alone__hearers_row := H_all_alone__hearers_row) (F := F21)) (PySem.W.mg_of X G a21) F21 fun _ _ _ _ _ _ us hl => match us, hl with | [_], _ => rfl
  have H__law_great_right := has_of (ok__law_great_right (P := P) (w := w) (K := K) (mg := mg) (base := base) b (h__law_line := H__law_line) (h__law_take := H__law_take) (h__law_heard := H__law_heard) (h_all_alone := H_all_alone) (h__law_least := H__law_least) (h__law_alike := H__law_alike 5) (F := F24)) (PySem.W.mg_of X G a24) F24 fun _ _ _ _ _ _ us hl => match us, hl with | [_], _ => rfl
  exact ok_law (P := P) (w := w) (K := K) (mg := mg) (base := base) b (h__law_bag := H__law_bag) (h__law_cell_at := H__law_cell_at) (h__law_small_right := H__law_small_right) (h__law_great_right := H__law_great_right) (F := F25)
end K42
open PySem PySem.W PyProof.Rows
set_option maxHeartbeats 0 in
theorem PySem.Challenge.cw_twonames_k42_all_alone_of_all_parts_holds : PySem.Challenge.rw_twonames_k42_all_alone_of_all_parts.Holds := by
  w_on; o_law; k_head; (case hw => w_witness2)
  k_fill
  refine TN.law_by (l := PySem.Challenge.rw_twonames_k42_all_alone_of_all_parts) (n := 63) (k := 8) (x := "script") (sem := TN.semLaw) rfl (by decide) rfl ⟨rfl, by decide, by decide⟩ (fun w h Y => PySem.W.kIn_of Y) ?F (fun ns Q len q => ⟨ns, rfl, len, q⟩)
  case F =>
    intro w mg fa h KX G hmg
    refine' K42.all_mk KX G hmg ?a0 ?l0 ?c0 ?k0 ?a1 ?l1 ?c1 ?k1 ?a2 ?l2 ?c2 ?k2 ?a3 ?l3 ?c3 ?k3 ?a4 ?l4 ?c4 ?k4 ?a5 ?l5 ?c5 ?k5 ?a6 ?l6 ?c6 ?k6 ?a7 ?l7 ?c7 ?k7 ?a8 ?l8 ?c8 ?k8 ?a9 ?l9 ?c9 ?k9 ?a10 ?l10 ?c10 ?k10 ?a11 ?l11 ?c11 ?k11 ?a12 ?l12 ?c12 ?k12 ?a13 ?l13 ?c13 ?k13 ?a14 ?l14 ?c14 ?k14 ?a15 ?l15 ?c15 ?k15 ?a16 ?l16 ?c16 ?k16 ?a17 ?l17 ?c17 ?k17 ?a18 ?l18 ?c18 ?k18 ?a19 ?l19 ?c19 ?k19 ?a20 ?l20 ?c20 ?k20 ?a21 ?l21 ?c21 ?k21 ?a22 ?l22 ?c22 ?k22 ?a23 ?l23 ?c23 ?k23 ?a24 ?l24 ?c24 ?k24 ?a25 ?l25 ?c25 ?k25 ?z_all ?z_bool ?z_enumerate ?z_isinstance ?z_len ?z_list ?z_max ?z_min ?z_range ?z_reversed ?z_set ?z_sorted ?z_str ?z_tuple ?z_type ?k_MOST_HEARERS ?cM
    (case a0 => k_is); (case l0 => k_is); (case c0 => k_is); (case k0 => k_is); (case a1 => k_is); (case l1 => k_is)
    (case c1 => k_is); (case k1 => k_is); (case a2 => k_is); (case l2 => k_is); (case c2 => k_is); (case k2 => k_is)
    (case a3 => k_is); (case l3 => k_is); (case c3 => k_is); (case k3 => k_is); (case a4 => k_is); (case l4 => k_is)
    (case c4 => k_is); (case k4 => k_is); (case a5 => k_is); (case l5 => k_is); (case c5 => k_is); (case k5 => k_is)
    (case a6 => k_is); (case l6 => k_is); (case c6 => k_is); (case k6 => k_is); (case a7 => k_is); (case l7 => k_is)
    (case c7 => k_is); (case k7 => k_is); (case a8 => k_is); (case l8 => k_is); (case c8 => k_is); (case k8 => k_is)
    (case a9 => k_is); (case l9 => k_is); (case c9 => k_is); (case k9 => k_is); (case a10 => k_is); (case l10 => k_is)
    (case c10 => k_is); (case k10 => k_is); (case a11 => k_is); (case l11 => k_is); (case c11 => k_is); (case k11 => k_is)
    (case a12 => k_is); (case l12 => k_is); (case c12 => k_is); (case k12 => k_is); (case a13 => k_is); (case l13 => k_is)
    (case c13 => k_is); (case k13 => k_is); (case a14 => k_is); (case l14 => k_is); (case c14 => k_is); (case k14 => k_is)
    (case a15 => k_is); (case l15 => k_is); (case c15 => k_is); (case k15 => k_is); (case a16 => k_is); (case l16 => k_is)
    (case c16 => k_is); (case k16 => k_is); (case a17 => k_is); (case l17 => k_is); (case c17 => k_is); (case k17 => k_is)
    (case a18 => k_is); (case l18 => k_is); (case c18 => k_is); (case k18 => k_is); (case a19 => k_is); (case l19 => k_is)
    (case c19 => k_is); (case k19 => k_is); (case a20 => k_is); (case l20 => k_is); (case c20 => k_is); (case k20 => k_is)
    (case a21 => k_is); (case l21 => k_is); (case c21 => k_is); (case k21 => k_is); (case a22 => k_is); (case l22 => k_is)
    (case c22 => k_is); (case k22 => k_is); (case a23 => k_is); (case l23 => k_is); (case c23 => k_is); (case k23 => k_is)
    (case a24 => k_is); (case l24 => k_is); (case c24 => k_is); (case k24 => k_is); (case a25 => k_is); (case l25 => k_is)
    (case c25 => k_is); (case k25 => k_is); (case z_all => k_is); (case z_bool => k_is); (case z_enumerate => k_is); (case z_isinstance => k_is)
    (case z_len => k_is); (case z_list => k_is); (case z_max => k_is); (case z_min => k_is); (case z_range => k_is); (case z_reversed => k_is)
    (case z_set => k_is); (case z_sorted => k_is); (case z_str => k_is); (case z_tuple => k_is); (case z_type => k_is); (case k_MOST_HEARERS => k_is)
    (case cM => k_is)
