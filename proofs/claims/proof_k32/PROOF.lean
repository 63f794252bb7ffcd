import PyProof.Rows.All
import Wide.All
import OpenK.AllK
import Wide.FinOn
import HandS.ForMost
import HandS.ForExc
import HandS.Zip
import HandS.IsInst
import HandS.Wide
import HandS.Flow
import HandS.More
import HandS.Deep
import HandS.TupAny
import HandS.Conv
import HandS.Style
import HandS.Strs
import KE.GoesMore
import KE.KDictZip
import KE.KDictSum
import HandS.SortOrd
import KE.GoesEnum
import KE.KRevSl
import HandS.Ends
import HandS.Steps
import HandS.CallLocal
import HandS.DictComp
import HandS.Walk
import HandS.Rev
import PyProof.CollectStr
import PyProof.AutoSeq1
import HandS.SortKw
import PyProof.WalkInts
import PyProof.MinMaxWalk
import HandS.SortRule
import PyProof.SumWalk
import KE.LtSeq
import HandS.Small
import HandS.TupMul
import KE.KDictList
import PyProof.FactsAll.NoneType_1
import PyProof.EqKinds
import PySem.Challenge.RW_twonames_k32_rounds_without_names
set_option Elab.async false
set_option linter.all false
set_option maxRecDepth 100000
set_option maxHeartbeats 1000000
set_option autoImplicit false
namespace TN
open PySem PySem.Spec PyProof.Rows L2
abbrev D := PyData



def TupX (K : PySem.W.Frag) (H : Hp) (a : Addr) (xs : List V) : Prop := (∃ o : Obj, H a = some (.frz o (.tup xs)) ∧ o.dict = none) ∨
  ∃ (o : Obj) (its : Array Value) (n : Nat), K.lookup a = some o ∧ o.cls = .type "tuple" ∧ o.dict = none ∧ o.data = .seq its n ∧ its.size ≤ sizeLine ∧ Vals xs its.toList
theorem TupX.sq {K : PySem.W.Frag} {H : Hp} {a : Addr} {xs : List V} (h : TupX K H a xs) : SqT K H a xs := by
  rcases h with ⟨o, h, _⟩ | ⟨o, its, n, h1, h2, _, h3, h4, h5⟩
  · exact .inl (.inr ⟨o, h⟩)
  · exact .inr ⟨o, its, n, h1, h2, h3, h4, h5⟩
theorem tupS {K : PySem.W.Frag} {G G' : Hp} {a : Addr} {xs : List V} (e : Same G G') (h : TupX K G a xs) : TupX K G' a xs := by
  rcases h with ⟨o, h, d⟩ | h
  · exact .inl ⟨o, e _ _ h, d⟩
  · exact .inr h
def keyD : Key → D
  | .inl i => .int i
  | .inr x => .str x
mutual

inductive Dq (K : PySem.W.Frag) (H : Hp) : V → D → Prop
  | non : Dq K H .non .none
  | bl (b : Bool) : Dq K H (.bl b) (.bool b)
  | int (i : Int) : Dq K H (.int i) (.int i)
  | str (x : Str) : Dq K H (.str x) (.str x)
  | lst {a : Addr} {xs : List V} {ds : List D} : SqL K H a xs → DqAll K H xs ds → Dq K H (.ref a) (.list ds)
  | tup {a : Addr} {xs : List V} {ds : List D} : TupX K H a xs → DqAll K H xs ds → Dq K H (.ref a) (.tuple ds)
  | dct {a : Addr} {u : Obj} {ks : List (Key × V)} {kvs : List (D × D)} : H a = some (.frz u (.dK ks)) → DqKs K H ks kvs → Dq K H (.ref a) (.dict kvs)
inductive DqAll (K : PySem.W.Frag) (H : Hp) : List V → List D → Prop
  | nil : DqAll K H [] []
  | cons {v : V} {vs : List V} {d : D} {ds : List D} : Dq K H v d → DqAll K H vs ds → DqAll K H (v :: vs) (d :: ds)
inductive DqKs (K : PySem.W.Frag) (H : Hp) : List (Key × V) → List (D × D) → Prop
  | nil : DqKs K H [] []
  | cons {k : Key} {v : V} {vs : List (Key × V)} {d : D} {ds : List (D × D)} : Dq K H v d → DqKs K H vs ds → DqKs K H ((k, v) :: vs) ((keyD k, d) :: ds)
end
mutual
theorem Dq.dp {K : PySem.W.Frag} {H : Hp} : ∀ {d : D} {v : V}, Dq K H v d → d.hasDict = false → Dp K H v d
  | .none, _, h, _ => by cases h; exact .non
  | .bool _, _, h, _ => by cases h; exact .bl _
  | .int _, _, h, _ => by cases h; exact .int _
  | .str _, _, h, _ => by cases h; exact .str _
  | .list ds, _, h, n => by
    cases h with
    | lst s a => exact .lst s (DqAll.dp a (by simpa only [PyData.hasDict] using n))
  | .tuple ds, _, h, n => by
    cases h with
    | tup s a => exact .tup s.sq (DqAll.dp a (by simpa only [PyData.hasDict] using n))
  | .dict _, _, h, n => by simp only [PyData.hasDict] at n; cases n
theorem DqAll.dp {K : PySem.W.Frag} {H : Hp} : ∀ {ds : List D} {vs : List V}, DqAll K H vs ds → PyData.hasDictAll ds = false → DpAll K H vs ds
  | [], _, h, _ => by cases h; exact .nil
  | d :: ds, _, h, n => by
    have n : (d.hasDict || PyData.hasDictAll ds) = false := by simpa only [PyData.hasDictAll] using n
    rw [Bool.or_eq_false_iff] at n
    cases h with
    | cons a b => exact .cons (Dq.dp a n.1) (DqAll.dp b n.2)
end
theorem noDict_shaped {d : D} (h : SeqAt.shaped d = true) : d.hasDict = false := PyData.hasDict_of_canLay d (SeqAt.canLay_of_shaped h)
theorem rdS {K : PySem.W.Frag} {G G' : Hp} {a : Addr} {xs : List V} (e : Same G G') (h : SqL K G a xs) : SqL K G' a xs := by
  rcases h with (h | ⟨u, h⟩) | h
  · exact .inl (.inl (e _ _ h))
  · exact .inl (.inr ⟨u, e _ _ h⟩)
  · exact .inr h
theorem sqU {K : PySem.W.Frag} {G : Hp} {a : Addr} {xs : List V} (h : G a = some (.lst xs)) : SqL K G a xs := .inl (.inl h)
mutual
theorem dpS {K : PySem.W.Frag} {G G' : Hp} (e : Same G G') : ∀ {d : D} {v : V}, Dq K G v d → Dq K G' v d
  | _, _, .non => .non
  | _, _, .bl _ => .bl _
  | _, _, .int _ => .int _
  | _, _, .str _ => .str _
  | _, _, .lst s a => .lst (rdS e s) (dpsS e a)
  | _, _, .tup s a => .tup (tupS e s) (dpsS e a)
  | _, _, .dct s a => .dct (e _ _ s) (dpkS e a)
theorem dpsS {K : PySem.W.Frag} {G G' : Hp} (e : Same G G') : ∀ {ds : List D} {vs : List V}, DqAll K G vs ds → DqAll K G' vs ds
  | _, _, .nil => .nil
  | _, _, .cons a b => .cons (dpS e a) (dpsS e b)
theorem dpkS {K : PySem.W.Frag} {G G' : Hp} (e : Same G G') : ∀ {ds : List (D × D)} {vs : List (Key × V)}, DqKs K G vs ds → DqKs K G' vs ds
  | _, _, .nil => .nil
  | _, _, .cons a b => .cons (dpS e a) (dpkS e b)
end
theorem dps_len {K : PySem.W.Frag} {G : Hp} : ∀ {ds : List D} {vs : List V}, DqAll K G vs ds → vs.length = ds.length
  | [], _, h => by cases h; rfl
  | d :: ds, _, h => by
    cases h with
    | cons a b => simp [dps_len b]
theorem dps_get {K : PySem.W.Frag} {G : Hp} : ∀ {ds : List D} {vs : List V} {i : Nat} {v : V}, DqAll K G vs ds → vs[i]? = some v → ∃ d, ds[i]? = some d ∧ Dq K G v d
  | [], _, i, v, h, e => by cases h; simp at e
  | d :: ds, _, i, v, h, e => by
    cases h with
    | cons a b =>
      cases i with
      | zero => simp at e; subst e; exact ⟨d, rfl, a⟩
      | succ i => simp at e; obtain ⟨d', h1, h2⟩ := dps_get b e; exact ⟨d', by simpa using h1, h2⟩
theorem dps_of {K : PySem.W.Frag} {G : Hp} : ∀ {ds : List D} {vs : List V} {i : Nat} {d : D}, DqAll K G vs ds → ds[i]? = some d → ∃ v, vs[i]? = some v ∧ Dq K G v d
  | [], _, i, v, h, e => by simp at e
  | d :: ds, _, i, v, h, e => by
    cases h with
    | cons a b =>
      cases i with
      | zero => simp at e; subst e; exact ⟨_, rfl, a⟩
      | succ i => simp at e; obtain ⟨d', h1, h2⟩ := dps_of b e; exact ⟨d', by simpa using h1, h2⟩
theorem dps_app {K : PySem.W.Frag} {G : Hp} : ∀ {ds es : List D} {vs ws : List V}, DqAll K G vs ds → DqAll K G ws es → DqAll K G (vs ++ ws) (ds ++ es)
  | [], _, _, _, h, k => by cases h; exact k
  | d :: ds, _, _, _, h, k => by
    cases h with
    | cons a b => exact .cons a (dps_app b k)
theorem dps_take {K : PySem.W.Frag} {G : Hp} : ∀ {ds : List D} {vs : List V} (n : Nat), DqAll K G vs ds → DqAll K G (vs.take n) (ds.take n)
  | _, _, 0, _ => by simpa using DqAll.nil
  | [], _, n + 1, h => by cases h; exact .nil
  | d :: ds, _, n + 1, h => by
    cases h with
    | cons a b => exact .cons a (dps_take n b)
theorem dps_drop {K : PySem.W.Frag} {G : Hp} : ∀ {ds : List D} {vs : List V} (n : Nat), DqAll K G vs ds → DqAll K G (vs.drop n) (ds.drop n)
  | _, _, 0, h => by simpa using h
  | [], _, n + 1, h => by cases h; exact .nil
  | d :: ds, _, n + 1, h => by
    cases h with
    | cons a b => exact dps_drop n b
theorem dps_set {K : PySem.W.Frag} {G : Hp} {v : V} {d : D} (h : Dq K G v d) : ∀ {ds : List D} {vs : List V} (i : Nat), DqAll K G vs ds → DqAll K G (vs.set i v) (ds.set i d)
  | [], _, i, k => by cases k; simpa using DqAll.nil
  | e :: ds, _, i, k => by
    cases k with
    | cons a b =>
      cases i with
      | zero => exact .cons h b
      | succ i => exact .cons a (dps_set h i b)
theorem same_upd {H : Hp} {p : Addr} {o : HO} (free : H p = none) : Same H (upd H p o) := fun b x e => by
  rw [upd_ne (ne_of_none e free)]; exact e



inductive Pt where
  | sh (d : D)
  | ow (xs : List D)
inductive Sl where
  | no
  | sh (d : D)
  | ow (xs : List D)
  | fn (f : Addr)
  | od (kvs : List (Key × D))
  | lk (a : Addr) (u : Obj) (ks : List (Key × V)) (kvs : List (Key × D))
  | tp (ps : List Pt)


structure C0 where
  H : Hp
  G : Hp
  B : List (Nat × Addr)
  bor : List Nat

inductive KsQ (K : PySem.W.Frag) (G : Hp) : List (Key × V) → List (Key × D) → Prop
  | nil : KsQ K G [] []
  | cons {k : Key} {v : V} {d : D} {ks : List (Key × V)} {kvs : List (Key × D)} : Dq K G v d → KsQ K G ks kvs → KsQ K G ((k, v) :: ks) ((k, d) :: kvs)
theorem ksS {K : PySem.W.Frag} {G G' : Hp} (e : Same G G') : ∀ {ks : List (Key × V)} {kvs : List (Key × D)}, KsQ K G ks kvs → KsQ K G' ks kvs
  | _, _, .nil => .nil
  | _, _, .cons a b => .cons (dpS e a) (ksS e b)
def PtOk (K : PySem.W.Frag) (c : C0) (G H : Hp) (v : V) : Pt → Prop
  | .sh d => Dq K G v d
  | .ow xs => ∃ a vs, v = .ref a ∧ H a = some (.lst vs) ∧ DqAll K G vs xs ∧ G a = none ∧ c.H a = none
def PtsOk (K : PySem.W.Frag) (c : C0) (G H : Hp) (vs : List V) (ps : List Pt) : Prop := vs.length = ps.length ∧ ∀ (k : Nat) (v : V) (p : Pt), vs[k]? = some v → ps[k]? = some p → PtOk K c G H v p
def OwAt (vs : List V) (ps : List Pt) (k : Nat) (b : Addr) : Prop := vs[k]? = some (.ref b) ∧ ∃ xs, ps[k]? = some (.ow xs)
def Apart (vs : List V) (ps : List Pt) : Prop := ∀ j k b, j ≠ k → OwAt vs ps j b → OwAt vs ps k b → False

def SlOk (K : PySem.W.Frag) (c : C0) (G H : Hp) (i : Nat) (o : Option (Option V)) : Sl → Prop
  | .no => True
  | .fn f => o = some (some (.ref f))
  | .sh d => ∃ v, o = some (some v) ∧ Dq K G v d
  | .ow xs => ∃ a vs, o = some (some (.ref a)) ∧ H a = some (.lst vs) ∧ DqAll K G vs xs ∧ G a = none ∧ (c.H a = none ∨ (i, a) ∈ c.B)
  | .od kvs => ∃ a ks, o = some (some (.ref a)) ∧ H a = some (.dK ks) ∧ KsQ K G ks kvs ∧ G a = none ∧ c.H a = none
  | .lk a u ks kvs => o = some (some (.ref a)) ∧ H a = some (.frz u (.dK ks)) ∧ KsQ K G ks kvs ∧ G a = none ∧ c.H a = none
  | .tp ps => ∃ a u vs, o = some (some (.ref a)) ∧ G a = some (.frz u (.tup vs)) ∧ u.dict = none ∧ PtsOk K c G H vs ps ∧ Apart vs ps

def Owns (G : Hp) (s : Sl) (o : Option (Option V)) (b : Addr) : Prop := match s with
  | .ow _ => o = some (some (.ref b))
  | .od _ => o = some (some (.ref b))
  | .lk _ _ _ _ => o = some (some (.ref b))
  | .tp ps => ∃ a u vs k, o = some (some (.ref a)) ∧ G a = some (.frz u (.tup vs)) ∧ OwAt vs ps k b
  | _ => False
theorem refI {a b : Addr} {o : Option (Option V)} (h : o = some (some (.ref a))) (h' : o = some (some (.ref b))) : a = b := by
  rw [h] at h'
  injection h' with h'; injection h' with h'; injection h'
section
variable {K : PySem.W.Frag} {c c' : C0} {G G' H H' : Hp} {i : Nat} {o : Option (Option V)} {s : Sl} {b : Addr}
theorem own_at (ok : SlOk K c G H i o s) (h : Owns G s o b) : (∃ u, H b = some u) ∧ G b = none ∧ (c.H b = none ∨ (i, b) ∈ c.B) := by
  cases s with
  | no => exact h.elim
  | sh d => exact h.elim
  | fn f => exact h.elim
  | ow xs =>
    obtain ⟨a, vs, e1, e2, _, e4, e5⟩ := ok
    cases refI e1 h
    exact ⟨⟨_, e2⟩, e4, e5⟩
  | od kvs =>
    obtain ⟨a, vs, e1, e2, _, e4, e5⟩ := ok
    cases refI e1 h
    exact ⟨⟨_, e2⟩, e4, .inl e5⟩
  | lk a u ks kvs =>
    obtain ⟨e1, e2, _, e4, e5⟩ := ok
    cases refI e1 h
    exact ⟨⟨_, e2⟩, e4, .inl e5⟩
  | tp ps =>
    obtain ⟨a, u, vs, e1, e2, _, ⟨el, ep⟩, _⟩ := ok
    obtain ⟨a', u', vs', k, f1, f2, f3, xs, f4⟩ := h
    cases refI e1 f1
    rw [e2] at f2
    injection f2 with f2; injection f2 with _ f2; injection f2 with f2
    subst f2
    obtain ⟨a2, ws, g1, g2, g3, g4, g5⟩ := ep k _ _ f3 f4
    injection g1 with g1
    subst g1
    exact ⟨⟨_, g2⟩, g4, .inl g5⟩
theorem own_back (g : Same G G') (ok : SlOk K c G H i o s) (h : Owns G' s o b) : Owns G s o b := by
  cases s with
  | tp ps =>
    obtain ⟨a, u, vs, e1, e2, _⟩ := ok
    obtain ⟨a', u', vs', k, f1, f2, f3⟩ := h
    cases refI e1 f1
    rw [g _ _ e2] at f2
    injection f2 with f2; injection f2 with f0 f2; injection f2 with f2
    subst f2
    exact ⟨a, u, vs, k, e1, e2, f3⟩
  | _ => exact h
theorem SlOk.move (ok : SlOk K c G H i o s) (g : Same G G') (h : ∀ b u, Owns G s o b → H b = some u → H' b = some u ∧ G' b = none ∧ (c.H b = none → c'.H b = none)) (hB : ∀ b, (i, b) ∈ c.B → (i, b) ∈ c'.B) : SlOk K c' G' H' i o s := by
  cases s with
  | no => trivial
  | sh d => obtain ⟨v, e1, e2⟩ := ok; exact ⟨v, e1, dpS g e2⟩
  | fn f => exact ok
  | ow xs =>
    obtain ⟨a, vs, e1, e2, e3, e4, e5⟩ := ok
    obtain ⟨h1, h2, h3⟩ := h a _ e1 e2
    exact ⟨a, vs, e1, h1, dpsS g e3, h2, e5.imp h3 (hB a)⟩
  | od kvs =>
    obtain ⟨a, vs, e1, e2, e3, e4, e5⟩ := ok
    obtain ⟨h1, h2, h3⟩ := h a _ e1 e2
    exact ⟨a, vs, e1, h1, ksS g e3, h2, h3 e5⟩
  | lk a u ks kvs =>
    obtain ⟨e1, e2, e3, e4, e5⟩ := ok
    obtain ⟨h1, h2, h3⟩ := h a _ e1 e2
    exact ⟨e1, h1, ksS g e3, h2, h3 e5⟩
  | tp ps =>
    obtain ⟨a, u, vs, e1, e2, e3, ⟨e4, e5⟩, e6⟩ := ok
    refine ⟨a, u, vs, e1, g _ _ e2, e3, ⟨e4, fun k v p hv hp => ?_⟩, e6⟩
    have q := e5 k v p hv hp
    cases p with
    | sh d => exact dpS g q
    | ow xs =>
      obtain ⟨a2, ws, g1, g2, g3, g4, g5⟩ := q
      subst g1
      obtain ⟨h1, h2, h3⟩ := h a2 _ ⟨a, u, vs, k, e1, e2, hv, xs, hp⟩ g2
      exact ⟨a2, ws, rfl, h1, dpsS g g3, h2, h3 g5⟩
end
structure Rel (K : PySem.W.Frag) (c : C0) (G : Hp) (σ : L2.St) (H : Hp) (ρ : List Sl) : Prop where
  sub : Same G H
  fr : ∀ a o, c.H a = some o → (∀ i, (i, a) ∉ c.B) → H a = some o
  gh : ∀ a, c.H a ≠ none → c.G a = none → G a = none
  len : σ.length = ρ.length
  sl : ∀ (i : Nat) (s : Sl), ρ[i]? = some s → SlOk K c G H i (σ[i]?) s
  sepO : ∀ (i j : Nat) (s t : Sl) (b : Addr), i ≠ j → ρ[i]? = some s → ρ[j]? = some t → Owns G s (σ[i]?) b → Owns G t (σ[j]?) b → False
  bd : ∀ (i : Nat) (a : Addr), (i, a) ∈ c.B → σ[i]? = some (some (.ref a)) ∧ ∃ xs, ρ[i]? = some (.ow xs)
  bs : ∀ (i : Nat) (a : Addr), (i, a) ∈ c.B → i ∈ c.bor


def MineO (c : C0) (G : Hp) (σ : L2.St) (H : Hp) (ρ : List Sl) (p : Addr) (o : HO) : Prop :=
  H p = some o ∧ G p = none ∧ c.H p = none ∧ ∀ (j : Nat) (s : Sl), ρ[j]? = some s → ¬ Owns G s (σ[j]?) p
abbrev Mine (c : C0) (G : Hp) (σ : L2.St) (H : Hp) (ρ : List Sl) (a : Addr) (vs : List V) : Prop := MineO c G σ H ρ a (.lst vs)

section
variable {K : PySem.W.Frag} {c c' : C0} {G G' : Hp} {σ : L2.St} {H H' : Hp} {ρ : List Sl}
theorem Rel.live (R : Rel K c G σ H ρ) {a : Addr} (h : H a = none) : c.H a = none := by
  cases e : c.H a with
  | none => rfl
  | some o =>
    by_cases q : ∀ i, (i, a) ∉ c.B
    · rw [R.fr a o e q] at h; cases h
    · have ⟨i, hi⟩ : ∃ i, (i, a) ∈ c.B := Classical.byContradiction fun z => q fun i hi => z ⟨i, hi⟩
      obtain ⟨e1, xs, e2⟩ := R.bd i a hi
      obtain ⟨b, vs, e3, e4, _⟩ := R.sl i _ e2
      cases refI e1 e3
      rw [e4] at h; cases h
theorem Rel.owAt (R : Rel K c G σ H ρ) {i : Nat} {xs : List D} (h : ρ[i]? = some (.ow xs)) :
    ∃ a vs, σ[i]? = some (some (.ref a)) ∧ H a = some (.lst vs) ∧ DqAll K G vs xs ∧ G a = none ∧ (c.H a = none ∨ (i, a) ∈ c.B) := R.sl i _ h
theorem Rel.shAt (R : Rel K c G σ H ρ) {i : Nat} {d : D} (h : ρ[i]? = some (.sh d)) : ∃ v, σ[i]? = some (some v) ∧ Dq K G v d := R.sl i _ h
theorem Rel.sep (R : Rel K c G σ H ρ) (i j : Nat) (xs ys : List D) (a : Addr) (n : i ≠ j) (h : ρ[i]? = some (.ow xs)) (h' : ρ[j]? = some (.ow ys)) (e : σ[i]? = some (some (.ref a))) (e' : σ[j]? = some (some (.ref a))) : False :=
  R.sepO i j _ _ a n h h' e e'
theorem Rel.own (R : Rel K c G σ H ρ) {i : Nat} {s : Sl} {b : Addr} (h : ρ[i]? = some s) (o : Owns G s (σ[i]?) b) : (∃ u, H b = some u) ∧ G b = none ∧ (c.H b = none ∨ (i, b) ∈ c.B) := own_at (R.sl i s h) o

theorem Rel.move (R : Rel K c G σ H ρ) (sub : Same G' H') (fr : ∀ a o, c'.H a = some o → (∀ i, (i, a) ∉ c'.B) → H' a = some o) (gh : ∀ a, c'.H a ≠ none → c'.G a = none → G' a = none) (g : Same G G') (hB : c'.B = c.B) (hb : c'.bor = c.bor)
    (h : ∀ (b : Addr) (u : HO) (i : Nat) (s : Sl), ρ[i]? = some s → Owns G s (σ[i]?) b → H b = some u → H' b = some u ∧ G' b = none ∧ (c.H b = none → c'.H b = none)) : Rel K c' G' σ H' ρ :=
  ⟨sub, fr, gh, R.len, fun i s e => (R.sl i s e).move g (fun b u ob eb => h b u i s e ob eb) fun b z => hB ▸ z,
   fun i j s t b n e1 e2 o1 o2 => R.sepO i j s t b n e1 e2 (own_back g (R.sl i s e1) o1) (own_back g (R.sl j t e2) o2), fun i a z => R.bd i a (hB ▸ z), fun i a z => hb ▸ R.bs i a (hB ▸ z)⟩

theorem Rel.ext (R : Rel K c G σ H ρ) (h1 : Same H H') (h2 : Same G G') (h3 : Same G' H') (h4 : ∀ a, H a ≠ none → G a = none → G' a = none) : Rel K c G' σ H' ρ :=
  R.move h3 (fun a o e q => h1 _ _ (R.fr a o e q)) (fun a e q => h4 a (fun z => e (R.live z)) (R.gh a e q)) h2 rfl rfl fun b u i s e ob eb => ⟨h1 _ _ eb, h4 b (by rw [eb]; simp) (R.own e ob).2.1, id⟩

theorem Rel.rewr (R : Rel K c G σ H ρ) {i : Nat} {s s' : Sl} (hs : ρ[i]? = some s) (g : Same G G') (sub : Same G' H') (nG : ∀ b, H b ≠ none → G b = none → G' b = none)
    (far : ∀ b u, ¬ Owns G s (σ[i]?) b → H b = some u → H' b = some u) (ok : SlOk K c G' H' i (σ[i]?) s') (od : ∀ b, Owns G' s' (σ[i]?) b → Owns G s (σ[i]?) b) (bo : (∃ xs, s = .ow xs) → ∃ ys, s' = .ow ys) : Rel K c G' σ H' (ρ.set i s') := by
  have hi : i < ρ.length := (List.getElem?_eq_some_iff.mp hs).1
  have lift : ∀ {m : Nat} {t : Sl} {b : Addr}, (ρ.set i s')[m]? = some t → Owns G' t (σ[m]?) b → ∃ t', ρ[m]? = some t' ∧ Owns G t' (σ[m]?) b := fun {m t b} e ob => by
    by_cases hm : m = i
    · subst hm
      rw [List.getElem?_set_self hi] at e
      injection e with e; subst e
      exact ⟨s, hs, od b ob⟩
    · rw [List.getElem?_set_ne (Ne.symm hm)] at e
      exact ⟨t, e, own_back g (R.sl m t e) ob⟩
  refine ⟨sub, fun a o e q => ?_, fun a e q => nG a (fun z => e (R.live z)) (R.gh a e q), by simpa using R.len, fun j t e => ?_, fun j k t u b n e1 e2 o1 o2 => ?_, fun j a z => ?_, R.bs⟩
  · refine far a o (fun ob => ?_) (R.fr a o e q)
    rcases (R.own hs ob).2.2 with z | z
    · rw [z] at e; cases e
    · exact q i z
  · by_cases hj : j = i
    · subst hj
      rw [List.getElem?_set_self hi] at e
      injection e with e; subst e
      exact ok
    · rw [List.getElem?_set_ne (Ne.symm hj)] at e
      exact (R.sl j t e).move g (fun b u ob eb => ⟨far b u (fun oi => R.sepO j i _ _ b hj e hs ob oi) eb, nG b (by rw [eb]; simp) (R.own e ob).2.1, id⟩) fun _ z => z
  · obtain ⟨t', f1, f2⟩ := lift e1 o1
    obtain ⟨u', f3, f4⟩ := lift e2 o2
    exact R.sepO j k t' u' b n f1 f3 f2 f4
  · obtain ⟨f1, xs, f2⟩ := R.bd j a z
    refine ⟨f1, ?_⟩
    by_cases hj : j = i
    · subst hj
      rw [hs] at f2
      injection f2 with f2
      obtain ⟨ys, ey⟩ := bo ⟨xs, f2⟩
      subst ey
      exact ⟨ys, by rw [List.getElem?_set_self hi]⟩
    · exact ⟨xs, by rw [List.getElem?_set_ne (Ne.symm hj)]; exact f2⟩

theorem Rel.change (R : Rel K c G σ H ρ) {i : Nat} {xs ys : List D} {a : Addr} {ws : List V} (h : ρ[i]? = some (.ow xs)) (ha : σ[i]? = some (some (.ref a))) (hw : DqAll K G ws ys) :
    Rel K c G σ (upd H a (.lst ws)) (ρ.set i (.ow ys)) := by
  obtain ⟨b, vs, e1, e2, e3, e4, e5⟩ := R.owAt h
  cases refI ha e1
  refine R.rewr h (Same.refl _) (fun b o e => by rw [upd_ne (fun z => by subst z; rw [e4] at e; cases e)]; exact R.sub _ _ e) (fun _ _ z => z) (fun b u n e => by rw [upd_ne (fun z => n (by subst z; exact ha))]; exact e)
    ⟨a, ws, ha, upd_same, hw, e4, e5⟩ (fun b z => z) fun _ => ⟨ys, rfl⟩

theorem Rel.put (R : Rel K c G σ H ρ) {i : Nat} {o : Option V} {s : Sl} (hB : ∀ a, (i, a) ∉ c.B) (ok : SlOk K c G H i (some o) s) (fresh : ∀ j t b, j ≠ i → ρ[j]? = some t → Owns G t (σ[j]?) b → Owns G s (some o) b → False) : Rel K c G (σ.set i o) H (ρ.set i s) := by
  refine ⟨R.sub, R.fr, R.gh, by simpa using R.len, fun j t e => ?_, fun j k t u b n e1 e2 o1 o2 => ?_, fun j b hj => ?_, R.bs⟩
  · by_cases hj : j = i
    · subst hj
      by_cases hi : j < ρ.length
      · rw [List.getElem?_set_self hi] at e
        injection e with e; subst e
        rw [List.getElem?_set_self (by rw [R.len]; exact hi)]; exact ok
      · rw [List.getElem?_eq_none (by simp; omega)] at e; cases e
    · rw [List.getElem?_set_ne (Ne.symm hj)] at e ⊢
      exact R.sl j t e
  · have get : ∀ {m : Nat} {t : Sl}, (ρ.set i s)[m]? = some t → Owns G t ((σ.set i o)[m]?) b → (m = i ∧ Owns G s (some o) b) ∨ (m ≠ i ∧ ρ[m]? = some t ∧ Owns G t (σ[m]?) b) := fun {m t} e ob => by
      by_cases hm : m = i
      · subst hm
        by_cases hi : m < ρ.length
        · rw [List.getElem?_set_self hi] at e
          injection e with e; subst e
          rw [List.getElem?_set_self (by rw [R.len]; exact hi)] at ob
          exact .inl ⟨rfl, ob⟩
        · rw [List.getElem?_eq_none (by simp; omega)] at e; cases e
      · rw [List.getElem?_set_ne (Ne.symm hm)] at e ob
        exact .inr ⟨hm, e, ob⟩
    rcases get e1 o1 with ⟨h1, p1⟩ | ⟨h1, p1, p2⟩
    · rcases get e2 o2 with ⟨h2, _⟩ | ⟨h2, q1, q2⟩
      · exact n (h1.trans h2.symm)
      · exact fresh k u b h2 q1 q2 p1
    · rcases get e2 o2 with ⟨h2, q1⟩ | ⟨h2, q1, q2⟩
      · exact fresh j t b h1 p1 p2 q1
      · exact R.sepO j k t u b n p1 q1 p2 q2
  · have : j ≠ i := fun z => by subst z; exact hB b hj
    rw [List.getElem?_set_ne (Ne.symm this), List.getElem?_set_ne (Ne.symm this)]
    exact R.bd j b hj

theorem Rel.store (R : Rel K c G σ H ρ) {i : Nat} {v : V} {d : D} (hB : ∀ a, (i, a) ∉ c.B) (hd : Dq K G v d) : Rel K c G (σ.set i (some v)) H (ρ.set i (.sh d)) :=
  R.put hB ⟨v, rfl, hd⟩ fun _ _ _ _ _ _ z => z.elim

theorem Rel.storeO (R : Rel K c G σ H ρ) {i : Nat} {a : Addr} {vs : List V} {xs : List D} (hB : ∀ a, (i, a) ∉ c.B) (m : Mine c G σ H ρ a vs) (hd : DqAll K G vs xs) : Rel K c G (σ.set i (some (.ref a))) H (ρ.set i (.ow xs)) :=
  R.put hB ⟨a, vs, rfl, m.1, hd, m.2.1, .inl m.2.2.1⟩ fun j t b _ e o1 o2 => by
    cases refI (rfl : some (some (V.ref a)) = _) o2
    exact m.2.2.2 j t e o1

theorem Rel.forget (R : Rel K c G σ H ρ) {i : Nat} (hB : ∀ a, (i, a) ∉ c.B) (o : Option V) : Rel K c G (σ.set i o) H (ρ.set i .no) :=
  R.put hB trivial fun _ _ _ _ _ _ z => z.elim
theorem set_back {α : Type} {l : List α} {i : Nat} {x : α} (h : l[i]? = some x) : l.set i x = l := by
  apply List.ext_getElem?
  intro j
  by_cases hj : j = i
  · subst hj
    rw [List.getElem?_set_self (List.getElem?_eq_some_iff.mp h).1, h]
  · rw [List.getElem?_set_ne (Ne.symm hj)]

theorem Rel.keep (R : Rel K c G σ H ρ) {a : Addr} {o : HO} (m : MineO c G σ H ρ a o) : Same G (upd G a o) ∧ Rel K c (upd G a o) σ H ρ := by
  obtain ⟨m1, m2, m3, m4⟩ := m
  refine ⟨same_upd m2, R.move (fun b u e => ?_) R.fr (fun b q1 q2 => ?_) (same_upd m2) rfl rfl fun b u i s e ob eb => ⟨eb, ?_, id⟩⟩
  · by_cases hb : b = a
    · subst hb; rw [upd_same] at e; injection e with e; rw [← e]; exact m1
    · rw [upd_ne hb] at e; exact R.sub _ _ e
  · rw [upd_ne (fun z => by subst z; exact q1 m3)]; exact R.gh b q1 q2
  · rw [upd_ne (fun z => by subst z; exact m4 i s e ob)]; exact (R.own e ob).2.1

theorem Rel.others (R : Rel K c G σ H ρ) {i : Nat} {s : Sl} {b : Addr} (h : ρ[i]? = some s) (ob : Owns G s (σ[i]?) b) : ∀ (j : Nat) (t : Sl), (ρ.set i .no)[j]? = some t → ¬ Owns G t (σ[j]?) b := fun j t e oj => by
  by_cases hj : j = i
  · subst hj
    rw [List.getElem?_set_self (List.getElem?_eq_some_iff.mp h).1] at e
    injection e with e; subst e; exact oj
  · rw [List.getElem?_set_ne (Ne.symm hj)] at e
    exact R.sepO j i t s b hj e h oj ob
theorem Rel.drop (R : Rel K c G σ H ρ) {i : Nat} {s : Sl} {o : Option V} (h : ρ[i]? = some s) (e : σ[i]? = some o) (hB : ∀ a, (i, a) ∉ c.B) : Rel K c G σ H (ρ.set i .no) := by
  have := R.forget hB o
  rw [set_back e] at this
  exact this

theorem Rel.freeze (R : Rel K c G σ H ρ) {i : Nat} {xs : List D} (h : ρ[i]? = some (.ow xs)) (hB : ∀ a, (i, a) ∉ c.B) :
    ∃ a G', σ[i]? = some (some (.ref a)) ∧ Same G G' ∧ Rel K c G' σ H (ρ.set i (.sh (.list xs))) ∧ Dq K G' (.ref a) (.list xs) := by
  obtain ⟨a, vs, e1, e2, e3, e4, e5⟩ := R.owAt h
  have h0 : c.H a = none := by
    rcases e5 with z | z
    · exact z
    · exact absurd z (hB a)
  obtain ⟨s1, R1⟩ := (R.drop h e1 hB).keep (a := a) (o := .lst vs) ⟨e2, e4, h0, R.others h e1⟩
  have dp : Dq K (upd G a (.lst vs)) (.ref a) (.list xs) := .lst (sqU upd_same) (dpsS s1 e3)
  have R2 := R1.store (i := i) hB dp
  rw [set_back e1, List.set_set] at R2
  exact ⟨a, _, e1, s1, R2, dp⟩
end
end TN
set_option Elab.async false
set_option linter.all false
set_option maxRecDepth 100000
set_option maxHeartbeats 1000000
set_option autoImplicit false
namespace TN
open PySem PySem.Spec PyProof.Rows L2
structure Grow (G H G' H' : Hp) : Prop where
  h : Same H H'
  g : Same G G'
  s : Same G' H'
  n : ∀ a, H a ≠ none → G a = none → G' a = none
theorem Grow.refl {G H : Hp} (s : Same G H) : Grow G H G H := ⟨Same.refl _, Same.refl _, s, fun _ _ h => h⟩
theorem Grow.trans {G H G1 H1 G2 H2 : Hp} (a : Grow G H G1 H1) (b : Grow G1 H1 G2 H2) : Grow G H G2 H2 :=
  ⟨a.h.trans b.h, a.g.trans b.g, b.s, fun x h1 h2 => b.n x (fun z => h1 (a.h.free z)) (a.n x h1 h2)⟩
theorem Rel.grow {K : PySem.W.Frag} {c : C0} {G G' : Hp} {σ : L2.St} {H H' : Hp} {ρ : List Sl} (R : Rel K c G σ H ρ) (g : Grow G H G' H') : Rel K c G' σ H' ρ := R.ext g.h g.g g.s g.n

theorem grow_new {G H : Hp} {p : Addr} {o : HO} (s : Same G H) (hp : H p = none) : Grow G H (upd G p o) (upd H p o) := by
  have gp : G p = none := s.free hp
  refine ⟨same_upd hp, same_upd gp, fun b u e => ?_, fun a h1 h2 => ?_⟩
  · by_cases hb : b = p
    · subst hb; rw [upd_same] at e ⊢; exact e
    · rw [upd_ne hb] at e ⊢; exact s _ _ e
  · rw [upd_ne (fun z : a = p => h1 (by rw [z]; exact hp))]; exact h2

theorem grow_own {G H : Hp} {p : Addr} {o : HO} (s : Same G H) (hp : H p = none) : Grow G H G (upd H p o) :=
  ⟨same_upd hp, Same.refl _, s.trans (same_upd hp), fun _ _ h => h⟩


def DpM (K : PySem.W.Frag) (G H : Hp) (v : V) (d : D) : Prop := Dq K G v d ∨ ∃ a vs ds, v = .ref a ∧ d = .list ds ∧ SqL K H a vs ∧ DqAll K G vs ds
theorem DpM.now {K : PySem.W.Frag} {G H : Hp} {v : V} {d : D} (s : Same G H) (h : DpM K G H v d) : Dq K H v d := by
  rcases h with h | ⟨a, vs, ds, rfl, rfl, h1, h2⟩
  · exact dpS s h
  · exact .lst h1 (dpsS s h2)
theorem DpM.grow {K : PySem.W.Frag} {G H G' H' : Hp} {v : V} {d : D} (g : Grow G H G' H') (h : DpM K G H v d) : DpM K G' H' v d := by
  rcases h with h | ⟨a, vs, ds, rfl, rfl, h1, h2⟩
  · exact .inl (dpS g.g h)
  · exact .inr ⟨a, vs, ds, rfl, rfl, rdS g.h h1, dpsS g.g h2⟩

theorem DpM.list {K : PySem.W.Frag} {G H : Hp} {v : V} {ds : List D} (s : Same G H) (h : DpM K G H v (.list ds)) : ∃ a vs, v = .ref a ∧ SqL K H a vs ∧ DqAll K G vs ds := by
  rcases h with h | ⟨a, vs, es, rfl, e, h1, h2⟩
  · cases h with
    | lst h1 h2 => exact ⟨_, _, rfl, rdS s h1, h2⟩
  · injection e with e; subst e; exact ⟨a, vs, rfl, h1, h2⟩
theorem DpM.tup {K : PySem.W.Frag} {G H : Hp} {v : V} {ds : List D} (s : Same G H) (h : DpM K G H v (.tuple ds)) : ∃ a vs, v = .ref a ∧ SqT K H a vs ∧ DqAll K G vs ds := by
  rcases h with h | ⟨a, vs, es, rfl, e, h1, h2⟩
  · cases h with
    | tup h1 h2 => exact ⟨_, _, rfl, (tupS s h1).sq, h2⟩
  · cases e
theorem DpM.tupX {K : PySem.W.Frag} {G H : Hp} {v : V} {ds : List D} (s : Same G H) (h : DpM K G H v (.tuple ds)) : ∃ a vs, v = .ref a ∧ TupX K H a vs ∧ DqAll K G vs ds := by
  rcases h with h | ⟨a, vs, es, rfl, e, h1, h2⟩
  · cases h with
    | tup h1 h2 => exact ⟨_, _, rfl, tupS s h1, h2⟩
  · cases e
theorem DpM.int {K : PySem.W.Frag} {G H : Hp} {v : V} {i : Int} (h : DpM K G H v (.int i)) : v = .int i := by
  rcases h with h | ⟨_, _, _, _, e, _⟩
  · cases h; rfl
  · cases e
theorem DpM.str {K : PySem.W.Frag} {G H : Hp} {v : V} {x : Str} (h : DpM K G H v (.str x)) : v = .str x := by
  rcases h with h | ⟨_, _, _, _, e, _⟩
  · cases h; rfl
  · cases e
theorem DpM.bl {K : PySem.W.Frag} {G H : Hp} {v : V} {b : Bool} (h : DpM K G H v (.bool b)) : v = .bl b := by
  rcases h with h | ⟨_, _, _, _, e, _⟩
  · cases h; rfl
  · cases e
theorem DpM.non {K : PySem.W.Frag} {G H : Hp} {v : V} (h : DpM K G H v .none) : v = .non := by
  rcases h with h | ⟨_, _, _, _, e, _⟩
  · cases h; rfl
  · cases e



abbrev FE := List Sl → Option D
abbrev TDE := List Sl → (D → List Sl → Prop) → Prop
abbrev TDL := List Sl → (List D → List Sl → Prop) → Prop
abbrev TDT := List Sl → (Bool → List Sl → Prop) → Prop

def LM (K : PySem.W.Frag) (bor : List Nat) (tH : TE) (f : FE) : Prop :=
  ∀ ⦃c : C0⦄ ⦃G : Hp⦄ ⦃σ : L2.St⦄ ⦃H : Hp⦄ ⦃ρ : List Sl⦄ ⦃d : D⦄ ⦃Q : VK⦄, c.bor = bor → Rel K c G σ H ρ → f ρ = some d → (∀ v G' H', Grow G H G' H' → DpM K G' H' v d → Q v H') → tH σ H Q
def LP (K : PySem.W.Frag) (bor : List Nat) (tH : TE) (f : FE) : Prop :=
  ∀ ⦃c : C0⦄ ⦃G : Hp⦄ ⦃σ : L2.St⦄ ⦃H : Hp⦄ ⦃ρ : List Sl⦄ ⦃d : D⦄ ⦃Q : VK⦄, c.bor = bor → Rel K c G σ H ρ → f ρ = some d → (∀ v G' H', Grow G H G' H' → Dq K G' v d → Q v H') → tH σ H Q
def LE (K : PySem.W.Frag) (bor : List Nat) (tH : TE) (t : TDE) : Prop :=
  ∀ ⦃c : C0⦄ ⦃G : Hp⦄ ⦃σ : L2.St⦄ ⦃H : Hp⦄ ⦃ρ : List Sl⦄ ⦃Qd : D → List Sl → Prop⦄ ⦃Q : VK⦄, c.bor = bor → Rel K c G σ H ρ → t ρ Qd →
    (∀ v H' G' ρ' d, Same G G' → Rel K c G' σ H' ρ' → Dq K G' v d → Qd d ρ' → Q v H') → tH σ H Q
def LL (K : PySem.W.Frag) (bor : List Nat) (tH : TE) (t : TDL) : Prop :=
  ∀ ⦃c : C0⦄ ⦃G : Hp⦄ ⦃σ : L2.St⦄ ⦃H : Hp⦄ ⦃ρ : List Sl⦄ ⦃Qd : List D → List Sl → Prop⦄ ⦃Q : VK⦄, c.bor = bor → Rel K c G σ H ρ → t ρ Qd →
    (∀ a vs H' G' ρ' ds, Same G G' → Rel K c G' σ H' ρ' → Mine c G' σ H' ρ' a vs → DqAll K G' vs ds → Qd ds ρ' → Q (.ref a) H') → tH σ H Q
def LT (K : PySem.W.Frag) (bor : List Nat) (tH : TT) (t : TDT) : Prop :=
  ∀ ⦃c : C0⦄ ⦃G : Hp⦄ ⦃σ : L2.St⦄ ⦃H : Hp⦄ ⦃ρ : List Sl⦄ ⦃Qd : Bool → List Sl → Prop⦄ ⦃Q : Bool → Hp → Prop⦄, c.bor = bor → Rel K c G σ H ρ → t ρ Qd →
    (∀ b H' G' ρ', Same G G' → Rel K c G' σ H' ρ' → Qd b ρ' → Q b H') → tH σ H Q

def LB (K : PySem.W.Frag) (bor : List Nat) (tH : TT) (f : List Sl → Option Bool) : Prop :=
  ∀ ⦃c : C0⦄ ⦃G : Hp⦄ ⦃σ : L2.St⦄ ⦃H : Hp⦄ ⦃ρ : List Sl⦄ ⦃b : Bool⦄ ⦃Q : Bool → Hp → Prop⦄, c.bor = bor → Rel K c G σ H ρ → f ρ = some b → (∀ G' H', Grow G H G' H' → Q b H') → tH σ H Q

def dP (f : FE) : TDE := fun ρ Q => ∃ d, f ρ = some d ∧ Q d ρ
def dB (f : List Sl → Option Bool) : TDT := fun ρ Q => ∃ b, f ρ = some b ∧ Q b ρ

section
variable {K : PySem.W.Frag} {bor : List Nat} {tH ta tb : TE} {f g : FE} {A B : TDE}
theorem LP.m (h : LP K bor tH f) : LM K bor tH f := fun {_ _ _ _ _ _ _} hc R e k => h hc R e fun v G' H' g d => k v G' H' g (.inl d)
theorem LP.e (h : LP K bor tH f) : LE K bor tH (dP f) := fun {_ _ _ _ _ _ _} hc R ⟨d, e, q⟩ k => h hc R e fun v G' H' g dp => k v H' G' _ d g.g (R.grow g) dp q
def dKeep (t : TDL) : TDE := fun ρ Q => t ρ fun ds ρ' => Q (.list ds) ρ'

theorem LL.e {t : TDL} (h : LL K bor tH t) : LE K bor tH (dKeep t) := fun {_ _ _ _ _ _ _} hc R q k =>
  h hc R q fun a vs H' G' ρ' ds s R' m dp qd => by
    obtain ⟨sm, R2⟩ := R'.keep m
    exact k _ _ (upd G' a (.lst vs)) ρ' _ (s.trans sm) R2 (.lst (sqU upd_same) (dpsS sm dp)) qd


def fVar (i : Nat) : FE := fun ρ => match ρ[i]? with
  | some (.sh d) => some d
  | _ => none

def fPeek (i : Nat) : FE := fun ρ => match ρ[i]? with
  | some (.sh d) => some d
  | some (.ow xs) => some (.list xs)
  | _ => none

def dVar (i : Nat) : TDE := fun ρ Q => match ρ[i]? with
  | some (.sh d) => Q d ρ
  | some (.ow xs) => Q (.list xs) (ρ.set i (.sh (.list xs)))
  | _ => False
theorem lp_var {i : Nat} : LP K bor (tVar i) (fVar i) := fun {c G σ H ρ d Q} hc R e k => by
  unfold fVar at e
  split at e
  · rename_i d' h
    injection e with e; subst e
    obtain ⟨v, e1, e2⟩ := R.shAt h
    exact ⟨v, e1, k v G H (.refl R.sub) e2⟩
  · cases e
theorem lm_peek {i : Nat} : LM K bor (tVar i) (fPeek i) := fun {c G σ H ρ d Q} hc R e k => by
  unfold fPeek at e
  split at e
  · rename_i d' h
    injection e with e; subst e
    obtain ⟨v, e1, e2⟩ := R.shAt h
    exact ⟨v, e1, k v G H (.refl R.sub) (.inl e2)⟩
  · rename_i xs h
    injection e with e; subst e
    obtain ⟨a, vs, e1, e2, e3, e4, e5⟩ := R.owAt h
    exact ⟨_, e1, k _ G H (.refl R.sub) (.inr ⟨a, vs, xs, rfl, rfl, sqU e2, e3⟩)⟩
  · cases e
theorem le_var {i : Nat} (hi : i ∉ bor) : LE K bor (tVar i) (dVar i) := fun {c G σ H ρ Qd Q} hc R q k => by
  unfold dVar at q
  split at q
  · rename_i d h
    obtain ⟨v, e1, e2⟩ := R.shAt h
    exact ⟨v, e1, k v H G ρ d (Same.refl _) R e2 q⟩
  · rename_i xs h
    obtain ⟨a, G', e1, e2, e3, e4⟩ := R.freeze h fun a z => hi (hc ▸ R.bs _ _ z)
    exact ⟨_, e1, k _ H G' _ _ e2 e3 e4 q⟩
  · exact q.elim
def fC (d : D) : FE := fun _ => some d
theorem lp_int {i : Int} : LP K bor (tC (.int i)) (fC (.int i)) := fun {c G σ H ρ d Q} hc R e k => by
  injection e with e; subst e; exact k _ G H (.refl R.sub) (.int i)
theorem lp_str {i : Str} : LP K bor (tC (.str i)) (fC (.str i)) := fun {c G σ H ρ d Q} hc R e k => by
  injection e with e; subst e; exact k _ G H (.refl R.sub) (.str i)
theorem lp_bl {i : Bool} : LP K bor (tC (.bl i)) (fC (.bool i)) := fun {c G σ H ρ d Q} hc R e k => by
  injection e with e; subst e; exact k _ G H (.refl R.sub) (.bl i)
abbrev F2 := D → D → Option D

def RB (K : PySem.W.Frag) (r : R2) (o : F2) : Prop :=
  ∀ ⦃G H : Hp⦄ ⦃v w : V⦄ ⦃d e z : D⦄ ⦃Q : VK⦄, Same G H → DpM K G H v d → DpM K G H w e → o d e = some z → (∀ u G' H', Grow G H G' H' → Dq K G' u z → Q u H') → r v w H Q
def f2 (o : F2) (f g : FE) : FE := fun ρ => match f ρ, g ρ with
  | some d, some e => o d e
  | _, _ => none
def d2 (o : F2) (A B : TDE) : TDE := fun ρ Q => A ρ fun d ρ1 => B ρ1 fun e ρ2 => ∃ z, o d e = some z ∧ Q z ρ2
theorem lp_op {r : R2} {o : F2} (ha : LM K bor ta f) (hb : LM K bor tb g) (hr : RB K r o) : LP K bor (tOp r ta tb) (f2 o f g) := fun {c G σ H ρ d Q} hc R e k => by
  unfold f2 at e
  split at e
  · rename_i d1 d2 e1 e2
    exact ha hc R e1 fun v G1 H1 g1 p1 => hb hc (R.grow g1) e2 fun w G2 H2 g2 p2 => hr g2.s (p1.grow g2) p2 e fun u G3 H3 g3 p3 => k u G3 H3 (g1.trans (g2.trans g3)) p3
  · cases e
theorem le_op {r : R2} {o : F2} (ha : LE K bor ta A) (hb : LE K bor tb B) (hr : RB K r o) : LE K bor (tOp r ta tb) (d2 o A B) := fun {c G σ H ρ Qd Q} hc R q k =>
  ha hc R q fun v H1 G1 ρ1 d s1 R1 p1 q1 => hb hc R1 q1 fun w H2 G2 ρ2 e s2 R2 p2 ⟨z, e3, q2⟩ => hr R2.sub (.inl (dpS s2 p1)) (.inl p2) e3 fun u G3 H3 g3 p3 =>
    k u H3 G3 ρ2 z (s1.trans (s2.trans g3.g)) (R2.grow g3) p3 q2

def d2V (o : F2) (i : Nat) (B : TDE) : TDE := fun ρ Q => (fPeek i ρ).isSome = true ∧ B ρ fun e ρ2 => ∃ d z, fPeek i ρ2 = some d ∧ o d e = some z ∧ Q z ρ2
abbrev F1 := D → Option D
def RU1 (K : PySem.W.Frag) (r : V → Hp → VK → Prop) (o : F1) : Prop :=
  ∀ ⦃G H : Hp⦄ ⦃v : V⦄ ⦃d z : D⦄ ⦃Q : VK⦄, Same G H → DpM K G H v d → o d = some z → (∀ u G' H', Grow G H G' H' → Dq K G' u z → Q u H') → r v H Q
def f1 (o : F1) (f : FE) : FE := fun ρ => match f ρ with
  | some d => o d
  | _ => none
def d1 (o : F1) (A : TDE) : TDE := fun ρ Q => A ρ fun d ρ1 => ∃ z, o d = some z ∧ Q z ρ1
theorem lp_un {r : V → Hp → VK → Prop} {o : F1} (ha : LM K bor ta f) (hr : RU1 K r o) : LP K bor (tUn r ta) (f1 o f) := fun {c G σ H ρ d Q} hc R e k => by
  unfold f1 at e
  split at e
  · rename_i d1 e1
    exact ha hc R e1 fun v G1 H1 g1 p1 => hr g1.s p1 e fun u G3 H3 g3 p3 => k u G3 H3 (g1.trans g3) p3
  · cases e
abbrev FA := List Sl → Option (List D)
abbrev TDA := List Sl → (List D → List Sl → Prop) → Prop
def LPs (K : PySem.W.Frag) (bor : List Nat) (tH : TA) (f : FA) : Prop :=
  ∀ ⦃c : C0⦄ ⦃G : Hp⦄ ⦃σ : L2.St⦄ ⦃H : Hp⦄ ⦃ρ : List Sl⦄ ⦃ds : List D⦄ ⦃Q : List V → Hp → Prop⦄, c.bor = bor → Rel K c G σ H ρ → f ρ = some ds → (∀ vs G' H', Grow G H G' H' → DqAll K G' vs ds → Q vs H') → tH σ H Q
def LMs (K : PySem.W.Frag) (bor : List Nat) (tH : TA) (f : FA) : Prop :=
  ∀ ⦃c : C0⦄ ⦃G : Hp⦄ ⦃σ : L2.St⦄ ⦃H : Hp⦄ ⦃ρ : List Sl⦄ ⦃ds : List D⦄ ⦃Q : List V → Hp → Prop⦄, c.bor = bor → Rel K c G σ H ρ → f ρ = some ds → (∀ vs G' H', Grow G H G' H' → Paired (DpM K G' H') vs ds → Q vs H') → tH σ H Q
def LEs (K : PySem.W.Frag) (bor : List Nat) (tH : TA) (t : TDA) : Prop :=
  ∀ ⦃c : C0⦄ ⦃G : Hp⦄ ⦃σ : L2.St⦄ ⦃H : Hp⦄ ⦃ρ : List Sl⦄ ⦃Qd : List D → List Sl → Prop⦄ ⦃Q : List V → Hp → Prop⦄, c.bor = bor → Rel K c G σ H ρ → t ρ Qd →
    (∀ vs H' G' ρ' ds, Same G G' → Rel K c G' σ H' ρ' → DqAll K G' vs ds → Qd ds ρ' → Q vs H') → tH σ H Q
def fNil : FA := fun _ => some []
def fCons (f : FE) (r : FA) : FA := fun ρ => match f ρ, r ρ with
  | some d, some ds => some (d :: ds)
  | _, _ => none
def dNil : TDA := fun ρ Q => Q [] ρ
def dCons (A : TDE) (R : TDA) : TDA := fun ρ Q => A ρ fun d ρ1 => R ρ1 fun ds ρ2 => Q (d :: ds) ρ2
theorem lms_nil : LMs K bor tNil fNil := fun {c G σ H ρ ds Q} hc R e k => by
  injection e with e; subst e; exact k _ G H (.refl R.sub) .nil
theorem lms_cons {tr : TA} {r : FA} (h : LM K bor tH f) (hr : LMs K bor tr r) : LMs K bor (tCons tH tr) (fCons f r) := fun {c G σ H ρ ds Q} hc R e k => by
  unfold fCons at e
  split at e
  · rename_i d1 ds1 e1 e2
    injection e with e; subst e
    exact h hc R e1 fun v G1 H1 g1 p1 => hr hc (R.grow g1) e2 fun vs G2 H2 g2 p2 => k _ G2 H2 (g1.trans g2) (.cons (p1.grow g2) p2)
  · cases e
theorem les_nil : LEs K bor tNil dNil := fun {c G σ H ρ Qd Q} hc R q k => k _ H G ρ _ (Same.refl _) R .nil q
theorem les_cons {tr : TA} {r : TDA} (h : LE K bor tH A) (hr : LEs K bor tr r) : LEs K bor (tCons tH tr) (dCons A r) := fun {c G σ H ρ Qd Q} hc R q k =>
  h hc R q fun v H1 G1 ρ1 d s1 R1 p1 q1 => hr hc R1 q1 fun vs H2 G2 ρ2 ds s2 R2 p2 q2 => k _ H2 G2 ρ2 _ (s1.trans s2) R2 (.cons (dpS s2 p1) p2) q2
theorem LPs.e {tr : TA} {r : FA} (h : LPs K bor tr r) : LEs K bor tr (fun ρ Q => ∃ ds, r ρ = some ds ∧ Q ds ρ) := fun {_ _ _ _ _ _ _} hc R ⟨d, e, q⟩ k => h hc R e fun v G' H' g dp => k v H' G' _ d g.g (R.grow g) dp q



def tTupX (t : TA) : TE := fun σ H Q => t σ H fun xs H1 => xs.length ≤ sizeLine ∧ ∀ (p : Addr) (o : Obj), o.dict = none → H1 p = none → Q (.ref p) (upd H1 p (.frz o (.tup xs)))
def dTup (r : TDA) : TDE := fun ρ Q => r ρ fun ds ρ1 => ds.length ≤ 100000 ∧ Q (.tuple ds) ρ1
def dLst (r : TDA) : TDL := fun ρ Q => r ρ fun ds ρ1 => ds.length ≤ 100000 ∧ Q ds ρ1
theorem le_tup {tr : TA} {r : TDA} (h : LEs K bor tr r) : LE K bor (tTupX tr) (dTup r) := fun {c G σ H ρ Qd Q} hc R q k =>
  h hc R q fun vs H1 G1 ρ1 ds s1 R1 p1 ⟨hl, q1⟩ => ⟨by rw [dps_len p1]; exact Nat.le_trans hl (by decide), fun p o hd hp => by
    have g2 := grow_new (o := .frz o (.tup vs)) R1.sub hp
    exact k _ _ _ _ _ (s1.trans g2.g) (R1.grow g2) (.tup (.inl ⟨o, upd_same, hd⟩) (dpsS g2.g p1)) q1⟩
theorem mineO_new {c : C0} {G : Hp} {σ : L2.St} {H : Hp} {ρ : List Sl} (R : Rel K c G σ H ρ) {p : Addr} {o : HO} (hp : H p = none) : MineO c G σ (upd H p o) ρ p o :=
  ⟨upd_same, R.sub.free hp, R.live hp, fun j s e z => by
    obtain ⟨⟨u, e1⟩, _⟩ := R.own e z
    rw [hp] at e1; cases e1⟩
theorem mine_new {c : C0} {G : Hp} {σ : L2.St} {H : Hp} {ρ : List Sl} (R : Rel K c G σ H ρ) {p : Addr} {vs : List V} (hp : H p = none) : Mine c G σ (upd H p (.lst vs)) ρ p vs := mineO_new R hp
theorem ll_lst {tr : TA} {r : TDA} (h : LEs K bor tr r) : LL K bor (tLst tr) (dLst r) := fun {c G σ H ρ Qd Q} hc R q k =>
  h hc R q fun vs H1 G1 ρ1 ds s1 R1 p1 ⟨hl, q1⟩ => ⟨by rw [dps_len p1]; exact Nat.le_trans hl (by decide), fun p hp =>
    k p vs _ G1 ρ1 ds s1 (R1.grow (grow_own R1.sub hp)) (mine_new R1 hp) p1 q1⟩
end
end TN
set_option Elab.async false
set_option linter.all false
set_option maxRecDepth 100000
set_option maxHeartbeats 1000000
set_option autoImplicit false
namespace TN
open PySem PySem.Spec PyProof.Rows L2
section
variable {X : Cx}
theorem opOr {f : Value → Value → Sem Value} {r r' : R2} (h : OpR X f r) (h' : OpR X f r') : OpR X f (fun x y H Q => r x y H Q ∨ r' x y H Q) := by
  intro pins s σ H x y v u Q I rx ry q
  rcases q with q | q
  · exact h pins s σ H x y v u Q I rx ry q
  · exact h' pins s σ H x y v u Q I rx ry q
theorem rdL {K : PySem.W.Frag} {H : Hp} {a : Addr} {xs : List V} (h : SqL K H a xs) : SqL K H a xs := h

def rCatR (K : PySem.W.Frag) : R2 := fun x y H Q => ∃ l b xs zs, x = .ref l ∧ y = .ref b ∧ SqL K H l xs ∧ SqL K H b zs ∧ xs.length + zs.length ≤ sizeLine ∧ ∀ p, H p = none → Q (.ref p) (upd H p (.lst (xs ++ zs)))
theorem op_catR : OpR X (binaryOp .Add) (rCatR X.K) := by
  intro pins s σ H x y v u Q I rx ry h
  obtain ⟨l, b, xs, zs, rfl, rfl, hH, hB, hz, q⟩ := h
  cases rx
  cases ry
  obtain ⟨i1, r1, ⟨⟨c1, d1, t1, s1⟩, n1, e1, k1, f1, g1⟩, z1⟩ := I.list hH
  obtain ⟨i2, r2, ⟨⟨c2, d2, t2, s2⟩, n2, e2, k2, f2, g2⟩, z2⟩ := I.list hB
  simp only at k1 g1 k2 g2
  subst k1 g1 k2 g2
  have l1 := r1.length
  have l2 := r2.length
  refine concat_meets ⟨_, e1, rfl⟩ ⟨_, e2, rfl⟩ noFill_list_add seq_list_add PySem.F.slot_list_add PySem.F.entry_list_add (PySem.F.args_list_add_2 _ _)
    (list_addW l b i1.toArray i2.toArray n1 n2 d1 d2 s1 s2 (by simp only [List.size_toArray]; omega)) ⟨e1, e2, ?_⟩
  rw [show i1.toArray ++ i2.toArray = (i1 ++ i2).toArray by simp]
  exact ⟨.ref _, _, I.lnew (t' := s.toks) (r1.append r2) (by rw [List.length_append]; exact hz), rfl, q _ I.fresh⟩

theorem tup_laid {pins : List (Addr × Obj)} {σ : L2.St} {H : Hp} {s : Shared} {xs : List V} {its : List Value} (I : Inv X pins σ H s) (r : Vals xs its) (hz : xs.length ≤ sizeLine) :
    Inv X pins σ (upd H s.heap.objs.size (.frz { cls := .type "tuple", data := .seq its.toArray } (.tup xs))) { s with heap := s.heap.push { cls := .type "tuple", data := .seq its.toArray } } :=
  I.laid (t' := s.toks) (fun _ _ q => Heap.get?_push_of_some _ q) (Nat.le_refl _) ⟨Heap.get?_push_size _ rfl, hz, its, r, IsTup.new _ _⟩
theorem pe_tupX {es : List Expr} {t : TA} {n : Nat} {pos : Pos} (h : PA X es t) : PE X (.Tuple es n pos) (tTupX t) := by
  constructor
  intro pins s σ H Q I hq
  apply wpAny_Tuple_spliced
  apply thn (h.run pos pins s σ H _ I hq)
  rintro us s1 ⟨xs, H1, I1, r, z, q⟩
  refine ⟨by rw [← r.length]; exact z, ?_⟩
  exact ⟨.ref s1.heap.objs.size, _, tup_laid I1 r z, rfl, q _ _ rfl (I1.hok.fresh (Nat.le_refl _))⟩

def rCatX (K : PySem.W.Frag) : R2 := fun x y H Q => ∃ a b xs ys, x = .ref a ∧ y = .ref b ∧ SqT K H a xs ∧ SqT K H b ys ∧ xs.length + ys.length ≤ sizeLine ∧
  (xs = [] → Q (.ref b) H) ∧ (xs ≠ [] → ys = [] → Q (.ref a) H) ∧ (xs ≠ [] → ys ≠ [] → ∀ (p : Addr) (o : Obj), o.dict = none → H p = none → Q (.ref p) (upd H p (.frz o (.tup (xs ++ ys)))))
theorem op_catX : OpR X (binaryOp .Add) (rCatX X.K) := by
  intro pins s σ H x y v u Q I rx ry h
  obtain ⟨a, b, xs, ys, rfl, rfl, ha, hb, hz, q0, q1, q2⟩ := h
  cases rx
  cases ry
  obtain ⟨i1, r1, p1, _⟩ := I.tuple ha
  obtain ⟨i2, r2, p2, _⟩ := I.tuple hb
  by_cases hx : xs = []
  · subst hx
    cases r1
    exact cat_tup0 p1 p2 ⟨.ref b, H, I, rfl, q0 rfl⟩
  · have n1 : i1 ≠ [] := fun z => hx (r1.nil_iff.mp z)
    have l1 := r1.length
    have l2 := r2.length
    apply HT.cat_tup p1 p2 n1
    · intro z
      exact ⟨.ref a, H, I, rfl, q1 hx (r2.nil_iff.mp z)⟩
    · intro z
      have big : (xs ++ ys).length ≤ sizeLine := by rw [List.length_append]; exact hz
      exact ⟨.ref s.heap.objs.size, _, tup_laid I (r1.append r2) big, rfl, q2 hx (fun e => z (r2.nil_iff.mpr e)) _ _ rfl (I.hok.fresh (Nat.le_refl _))⟩
    · omega

def CPowB (i j : Int) : Prop := 0 ≤ j ∧ j ≤ 1000 ∧ i.natAbs < 2 ^ 1024
theorem op_powB : OpR X (binaryOp .Pow) (rI CPowB fun i j => .int (i ^ j.toNat)) := by
  intro pins s σ H x y v u Q I rx ry h
  obtain ⟨i, j, rfl, rfl, ⟨h1, h2, h3⟩, q⟩ := h
  obtain ⟨t, rfl⟩ := rx
  obtain ⟨t', rfl⟩ := ry
  refine PyProof.Rows.pow_int h1 ?_ ⟨.int _, H, I.tok _, ⟨_, rfl⟩, q⟩
  have b : Builtin.Int.intBits i ≤ 1024 := by
    have b0 : Builtin.Int.intBits i ≤ i.natAbs.log2 + 1 := by
      unfold Builtin.Int.intBits
      split <;> omega
    have b1 : i.natAbs.log2 < 1024 := PySem.Flt.log2_lt_of (by decide) h3
    omega
  have e : (2 : Int) ^ 27 = 134217728 := by decide
  rw [e]
  have : (Builtin.Int.intBits i : Int) * j ≤ 1024 * 1000 := Int.mul_le_mul (by omega) h2 h1 (by decide)
  omega
end
section
variable {K : PySem.W.Frag} {bor : List Nat}
theorem rb_I {C : Int → Int → Prop} {g : Int → Int → V} {o : F2} (h : ∀ d e z, o d e = some z → ∃ i j, d = .int i ∧ e = .int j ∧ C i j ∧ ((∃ k, g i j = .int k ∧ z = .int k) ∨ ∃ k, g i j = .bl k ∧ z = .bool k)) : RB K (rI C g) o :=
  fun {G H v w d e z Q} s p1 p2 e1 k => by
    obtain ⟨i, j, rfl, rfl, hc, hz⟩ := h d e z e1
    cases p1.int
    cases p2.int
    refine ⟨i, j, rfl, rfl, hc, ?_⟩
    rcases hz with ⟨n, e2, rfl⟩ | ⟨n, e2, rfl⟩
    · rw [e2]; exact k _ G H (.refl s) (.int n)
    · rw [e2]; exact k _ G H (.refl s) (.bl n)
theorem rb_I0 {g : Int → Int → V} {o : F2} (h : ∀ d e z, o d e = some z → ∃ i j, d = .int i ∧ e = .int j ∧ ((∃ k, g i j = .int k ∧ z = .int k) ∨ ∃ k, g i j = .bl k ∧ z = .bool k)) : RB K (rI0 g) o :=
  fun {G H v w d e z Q} s p1 p2 e1 k => by
    obtain ⟨i, j, rfl, rfl, hz⟩ := h d e z e1
    cases p1.int
    cases p2.int
    refine ⟨i, j, rfl, rfl, ?_⟩
    rcases hz with ⟨n, e2, rfl⟩ | ⟨n, e2, rfl⟩
    · rw [e2]; exact k _ G H (.refl s) (.int n)
    · rw [e2]; exact k _ G H (.refl s) (.bl n)
def oSub : F2 := fun d e => match d, e with
  | .int i, .int j => some (.int (i - j))
  | _, _ => none
theorem rb_sub : RB K (rI0 fun i j => .int (i - j)) oSub := rb_I0 fun d e z h => by
  unfold oSub at h; split at h
  · rename_i i j; injection h with h; exact ⟨i, j, rfl, rfl, .inl ⟨_, rfl, h.symm⟩⟩
  · cases h
def oMul : F2 := fun d e => match d, e with
  | .int i, .int j => if (-18446744073709551616 < i ∧ i < 18446744073709551616) ∨ (-18446744073709551616 < j ∧ j < 18446744073709551616) then some (.int (i * j)) else none
  | _, _ => none
theorem rb_mul : RB K (rI CMul fun i j => .int (i * j)) oMul := rb_I fun d e z h => by
  unfold oMul at h; split at h
  · rename_i i j
    split at h
    · rename_i hc
      injection h with h; exact ⟨i, j, rfl, rfl, by unfold CMul; simpa using hc, .inl ⟨_, rfl, h.symm⟩⟩
    · cases h
  · cases h
def oPow : F2 := fun d e => match d, e with
  | .int i, .int j => if 0 ≤ j ∧ j ≤ 1000 ∧ i.natAbs < 2 ^ 1024 then some (.int (i ^ j.toNat)) else none
  | _, _ => none
theorem rb_pow : RB K (rI CPowB fun i j => .int (i ^ j.toNat)) oPow := rb_I fun d e z h => by
  unfold oPow at h; split at h
  · rename_i i j
    split at h
    · rename_i hc
      injection h with h; exact ⟨i, j, rfl, rfl, hc, .inl ⟨_, rfl, h.symm⟩⟩
    · cases h
  · cases h
def oMod : F2 := fun d e => match d, e with
  | .int i, .int j => if 0 < j then some (.int (i % j)) else none
  | _, _ => none
theorem rb_mod : RB K (rI (fun _ j => 0 < j) fun i j => .int (i % j)) oMod := rb_I fun d e z h => by
  unfold oMod at h; split at h
  · rename_i i j
    split at h
    · rename_i hc
      injection h with h; exact ⟨i, j, rfl, rfl, hc, .inl ⟨_, rfl, h.symm⟩⟩
    · cases h
  · cases h
def oDiv : F2 := fun d e => match d, e with
  | .int i, .int j => if 0 < j ∧ j < 1073741824 then some (.int (i / j)) else none
  | _, _ => none
theorem rb_div : RB K (rI CDiv fun i j => .int (i / j)) oDiv := rb_I fun d e z h => by
  unfold oDiv at h; split at h
  · rename_i i j
    split at h
    · rename_i hc
      injection h with h; exact ⟨i, j, rfl, rfl, hc, .inl ⟨_, rfl, h.symm⟩⟩
    · cases h
  · cases h
def oNeg : F1 := fun d => match d with
  | .int i => some (.int (-i))
  | _ => none
theorem ru_neg : RU1 K (rU fun i => .int (-i)) oNeg := fun {G H v d z Q} s p e k => by
  unfold oNeg at e; split at e
  · rename_i i
    injection e with e; subst e
    cases p.int
    exact ⟨i, rfl, k _ G H (.refl s) (.int _)⟩
  · cases e


abbrev rAddU (K : PySem.W.Frag) : R2 := fun x y H Q => (rI0 fun i j => .int (i + j)) x y H Q ∨ ((fun x y H Q => ∃ i j, x = V.str i ∧ y = V.str j ∧ i.length + j.length ≤ sizeLine ∧ Q (V.str (i ++ j)) H) x y H Q ∨ (rCatR K x y H Q ∨ rCatX K x y H Q))
theorem op_addU {X : Cx} : OpR X (binaryOp .Add) (rAddU X.K) := opOr op_add (opOr op_add_str (opOr op_catR op_catX))
def oAdd : F2 := fun d e => match d, e with
  | .int i, .int j => some (.int (i + j))
  | .str a, .str b => if a.length + b.length ≤ 16777216 then some (.str (a ++ b)) else none
  | .list a, .list b => if a.length + b.length ≤ 100000 then some (.list (a ++ b)) else none
  | .tuple a, .tuple b => if a.length + b.length ≤ 100000 then some (.tuple (a ++ b)) else none
  | _, _ => none
theorem rb_add : RB K (rAddU K) oAdd := fun {G H v w d e z Q} s p1 p2 e1 k => by
  unfold oAdd at e1
  split at e1
  · rename_i i j
    injection e1 with e1; subst e1
    cases p1.int; cases p2.int
    exact .inl ⟨i, j, rfl, rfl, k _ G H (.refl s) (.int _)⟩
  · rename_i a b
    split at e1
    · rename_i hl
      injection e1 with e1; subst e1
      cases p1.str; cases p2.str
      exact .inr (.inl ⟨a, b, rfl, rfl, Nat.le_trans hl (by decide), k _ G H (.refl s) (.str _)⟩)
    · cases e1
  · rename_i a b
    split at e1
    · rename_i hl
      injection e1 with e1; subst e1
      obtain ⟨x, vs, rfl, h1, h2⟩ := p1.list s
      obtain ⟨y, ws, rfl, h3, h4⟩ := p2.list s
      refine .inr (.inr (.inl ⟨x, y, vs, ws, rfl, rfl, h1, h3, by rw [dps_len h2, dps_len h4]; exact Nat.le_trans hl (by decide), fun p hp => ?_⟩))
      have g := grow_new (o := .lst (vs ++ ws)) s hp
      exact k _ _ _ g (.lst (sqU upd_same) (dpsS g.g (dps_app h2 h4)))
    · cases e1
  · rename_i a b
    split at e1
    · rename_i hl
      injection e1 with e1; subst e1
      obtain ⟨x, vs, rfl, h1, h2⟩ := p1.tup s
      obtain ⟨y, ws, rfl, h3, h4⟩ := p2.tup s
      refine .inr (.inr (.inr ⟨x, y, vs, ws, rfl, rfl, h1, h3, by rw [dps_len h2, dps_len h4]; exact Nat.le_trans hl (by decide), fun hv => ?_, fun hv hw => ?_, fun hv hw p o hd hp => ?_⟩))
      · subst hv
        cases h2
        rcases p2 with p2 | ⟨_, _, _, _, e, _⟩
        · exact k _ G H (.refl s) p2
        · cases e
      · subst hw
        cases h4
        rcases p1 with p1 | ⟨_, _, _, _, e, _⟩
        · rw [List.append_nil] at k; exact k _ G H (.refl s) p1
        · cases e
      · have g := grow_new (o := .frz o (.tup (vs ++ ws))) s hp
        exact k _ _ _ g (.tup (.inl ⟨o, upd_same, hd⟩) (dpsS g.g (dps_app h2 h4)))
    · cases e1
  · cases e1


def oEq : F2 := fun d e => if SeqAt.shaped d = true ∧ SeqAt.shaped e = true then some (.bool (PyData.eqv d e)) else none
def oNe : F2 := fun d e => if SeqAt.shaped d = true ∧ SeqAt.shaped e = true then some (.bool (!PyData.eqv d e)) else none
theorem rb_eq : RB K (rEqD K) oEq := fun {G H v w d e z Q} s p1 p2 e1 k => by
  unfold oEq at e1; split at e1
  · rename_i h
    injection e1 with e1; subst e1
    exact ⟨d, e, (p1.now s).dp (noDict_shaped h.1), (p2.now s).dp (noDict_shaped h.2), h.1, h.2, k _ G H (.refl s) (.bl _)⟩
  · cases e1
theorem rb_ne : RB K (rNeD K) oNe := fun {G H v w d e z Q} s p1 p2 e1 k => by
  unfold oNe at e1; split at e1
  · rename_i h
    injection e1 with e1; subst e1
    exact ⟨d, e, (p1.now s).dp (noDict_shaped h.1), (p2.now s).dp (noDict_shaped h.2), h.1, h.2, k _ G H (.refl s) (.bl _)⟩
  · cases e1


theorem atI_dq {G : Hp} {vs : List V} {ds : List D} {i : Int} {d : D} (h : DqAll K G vs ds) (e : atI ds i = some d) : ∃ v, atI vs i = some v ∧ Dq K G v d := by
  unfold atI at e ⊢
  rw [dps_len h]
  cases q : ixN ds.length i with
  | none => rw [q] at e; cases e
  | some j =>
    rw [q] at e
    obtain ⟨v, e1, e2⟩ := dps_of h e
    exact ⟨v, e1, e2⟩
def oIx : F2 := fun d e => match d, e with
  | .list xs, .int i => atI xs i
  | .tuple xs, .int i => atI xs i
  | .str z, .int i => if z.length ≤ 100000 then (atI z.cps.toList i).map fun c => .str ⟨#[c]⟩ else none
  | _, _ => none
theorem rb_ix : RB K (rIx K) oIx := fun {G H v w d e z Q} s p1 p2 e1 k => by
  unfold oIx at e1
  split at e1
  · rename_i xs i
    obtain ⟨a, vs, rfl, h1, h2⟩ := p1.list s
    cases p2.int
    obtain ⟨u, f1, f2⟩ := atI_dq h2 e1
    exact .inl ⟨a, vs, i, u, rfl, rfl, rdL h1, f1, k _ G H (.refl s) f2⟩
  · rename_i xs i
    obtain ⟨a, vs, rfl, h1, h2⟩ := p1.tup s
    cases p2.int
    obtain ⟨u, f1, f2⟩ := atI_dq h2 e1
    exact .inr (.inl ⟨a, vs, i, u, rfl, rfl, h1, f1, k _ G H (.refl s) f2⟩)
  · rename_i x i
    split at e1
    · rename_i hl
      cases p1.str
      cases p2.int
      cases q : atI x.cps.toList i with
      | none => rw [q] at e1; cases e1
      | some c =>
        rw [q] at e1
        injection e1 with e1; subst e1
        exact .inr (.inr ⟨x, i, c, rfl, rfl, Nat.le_trans hl (by decide), q, k _ G H (.refl s) (.str _)⟩)
    · cases e1
  · cases e1
end
end TN
set_option Elab.async false
set_option linter.all false
set_option maxRecDepth 100000
set_option maxHeartbeats 1000000
set_option autoImplicit false
namespace TN
open PySem PySem.Spec PyProof.Rows L2
structure DEnds where
  nx : List Sl → Prop
  rt : Sl → List Sl → Prop
  bk : List Sl → Prop := fun _ => False
  ct : List Sl → Prop := fun _ => False
abbrev TDS := DEnds → List Sl → Prop


def RtOk (K : PySem.W.Frag) (c : C0) (G : Hp) (H : Hp) (v : V) : Sl → Prop
  | .no => False
  | .fn _ => False
  | .lk _ _ _ _ => False
  | .od kvs => ∃ a ks, v = .ref a ∧ H a = some (.dK ks) ∧ G a = none ∧ c.H a = none ∧ KsQ K G ks kvs
  | .tp ps => ∃ a u vs, v = .ref a ∧ G a = some (.frz u (.tup vs)) ∧ u.dict = none ∧ PtsOk K c G H vs ps ∧ Apart vs ps
  | .sh d => Dq K G v d
  | .ow xs => ∃ a vs, v = .ref a ∧ H a = some (.lst vs) ∧ G a = none ∧ c.H a = none ∧ DqAll K G vs xs
structure Links (K : PySem.W.Frag) (c : C0) (G : Hp) (E : DEnds) (D : Ends) : Prop where
  nx : ∀ {G' : Hp} {σ' : L2.St} {H' : Hp} {ρ' : List Sl}, Same G G' → Rel K c G' σ' H' ρ' → E.nx ρ' → D.nx σ' H'
  rt : ∀ {G' : Hp} {σ' : L2.St} {H' : Hp} {ρ' : List Sl} {v : V} {r : Sl}, Same G G' → Rel K c G' σ' H' ρ' → RtOk K c G' H' v r → E.rt r ρ' → D.rt v H'
  bk : ∀ {G' : Hp} {σ' : L2.St} {H' : Hp} {ρ' : List Sl}, Same G G' → Rel K c G' σ' H' ρ' → E.bk ρ' → D.bk σ' H'
  ct : ∀ {G' : Hp} {σ' : L2.St} {H' : Hp} {ρ' : List Sl}, Same G G' → Rel K c G' σ' H' ρ' → E.ct ρ' → D.ct σ' H'
theorem Links.mono {K : PySem.W.Frag} {c : C0} {G G' : Hp} {E : DEnds} {D : Ends} (l : Links K c G E D) (s : Same G G') : Links K c G' E D :=
  ⟨fun t => l.nx (s.trans t), fun t => l.rt (s.trans t), fun t => l.bk (s.trans t), fun t => l.ct (s.trans t)⟩
def LS (K : PySem.W.Frag) (bor : List Nat) (tH : TS) (t : TDS) : Prop :=
  ∀ ⦃c : C0⦄ ⦃G : Hp⦄ ⦃σ : L2.St⦄ ⦃H : Hp⦄ ⦃ρ : List Sl⦄ ⦃E : DEnds⦄ ⦃D : Ends⦄, c.bor = bor → Rel K c G σ H ρ → t E ρ → Links K c G E D → tH D σ H

section
variable {K : PySem.W.Frag} {bor : List Nat} {te : TE} {A B : TDE} {t u : TS} {S T : TDS}
def sSeq (S T : TDS) : TDS := fun E ρ => S { E with nx := T E } ρ
theorem ls_seq (h1 : LS K bor t S) (h2 : LS K bor u T) : LS K bor (tSeq t u) (sSeq S T) := fun {c G σ H ρ E D} hc R q l =>
  h1 (D := { D with nx := u D }) hc R q ⟨fun s R' q' => h2 hc R' q' (l.mono s), fun s => l.rt s, fun s => l.bk s, fun s => l.ct s⟩
def sNext : TDS := fun E ρ => E.nx ρ
theorem ls_next : LS K bor tNext sNext := fun {c G σ H ρ E D} hc R q l => l.nx (Same.refl _) R q
def sNever : TDS := fun _ _ => False
theorem ls_never : LS K bor tNever sNever := fun {c G σ H ρ E D} hc R q l => q.elim
def sDrop (A : TDE) : TDS := fun E ρ => A ρ fun _ ρ1 => E.nx ρ1
theorem ls_drop (h : LE K bor te A) : LS K bor (tDrop te) (sDrop A) := fun {c G σ H ρ E D} hc R q l =>
  h hc R q fun v H' G' ρ' d s R' _ q' => l.nx s R' q'
def sRet (A : TDE) : TDS := fun E ρ => A ρ fun d ρ1 => E.rt (.sh d) ρ1
theorem ls_ret (h : LE K bor te A) : LS K bor (tRet te) (sRet A) := fun {c G σ H ρ E D} hc R q l =>
  h hc R q fun v H' G' ρ' d s R' p q' => l.rt s R' (r := .sh d) p q'
def sRetL (A : TDL) : TDS := fun E ρ => A ρ fun d ρ1 => E.rt (.ow d) ρ1
theorem ls_retL {A : TDL} (h : LL K bor te A) : LS K bor (tRet te) (sRetL A) := fun {c G σ H ρ E D} hc R q l =>
  h hc R q fun a vs H' G' ρ' ds s R' m p q' => l.rt s R' (r := .ow ds) ⟨a, vs, rfl, m.1, m.2.1, m.2.2.1, p⟩ q'
def sRetN : TDS := fun E ρ => E.rt (.sh .none) ρ
def sIf (C : TDT) (S T : TDS) : TDS := fun E ρ => C ρ fun b ρ1 => (b = true → S E ρ1) ∧ (b = false → T E ρ1)
theorem ls_if {tc : TT} {C : TDT} (hc' : LT K bor tc C) (h1 : LS K bor t S) (h2 : LS K bor u T) : LS K bor (tIfS tc t u) (sIf C S T) := fun {c G σ H ρ E D} hc R q l =>
  hc' hc R q fun b H' G' ρ' s R' ⟨q1, q2⟩ => by
    cases b with
    | true => exact iteT (h1 hc R' (q1 rfl) (l.mono s))
    | false => exact iteF (h2 hc R' (q2 rfl) (l.mono s))


abbrev TDG := D → List Sl → (List Sl → Prop) → Prop
def LG (K : PySem.W.Frag) (bor : List Nat) (g : TG) (tg : TDG) : Prop :=
  ∀ ⦃c : C0⦄ ⦃G : Hp⦄ ⦃σ : L2.St⦄ ⦃H : Hp⦄ ⦃ρ : List Sl⦄ ⦃v : V⦄ ⦃d : D⦄ ⦃Qd : List Sl → Prop⦄ ⦃Q : L2.St → Hp → Prop⦄, c.bor = bor → Rel K c G σ H ρ → Dq K G v d → tg d ρ Qd →
    (∀ σ' ρ', Rel K c G σ' H ρ' → Qd ρ' → Q σ' H) → g v σ H Q
def LGs (K : PySem.W.Frag) (bor : List Nat) (g : TGs) (tg : List D → List Sl → (List Sl → Prop) → Prop) : Prop :=
  ∀ ⦃c : C0⦄ ⦃G : Hp⦄ ⦃σ : L2.St⦄ ⦃H : Hp⦄ ⦃ρ : List Sl⦄ ⦃vs : List V⦄ ⦃ds : List D⦄ ⦃Qd : List Sl → Prop⦄ ⦃Q : L2.St → Hp → Prop⦄, c.bor = bor → Rel K c G σ H ρ → DqAll K G vs ds → tg ds ρ Qd →
    (∀ σ' ρ', Rel K c G σ' H ρ' → Qd ρ' → Q σ' H) → g vs σ H Q
def tgN (i : Nat) : TDG := fun d ρ Q => Q (ρ.set i (.sh d))
theorem lg_name {i : Nat} (hi : i ∉ bor) : LG K bor (gName i) (tgN i) := fun {c G σ H ρ v d Qd Q} hc R p q k =>
  k _ _ (R.store (fun a z => hi (hc ▸ R.bs _ _ z)) p) q
def tgNil : List D → List Sl → (List Sl → Prop) → Prop := fun ds ρ Q => ds = [] ∧ Q ρ
def tgCons (g : TDG) (r : List D → List Sl → (List Sl → Prop) → Prop) : List D → List Sl → (List Sl → Prop) → Prop := fun ds ρ Q => ∃ d es, ds = d :: es ∧ g d ρ fun ρ1 => r es ρ1 Q
theorem lgs_nil : LGs K bor gNil tgNil := fun {c G σ H ρ vs ds Qd Q} hc R p ⟨e, q⟩ k => by
  subst e; cases p; exact ⟨rfl, k σ ρ R q⟩
theorem lgs_cons {g : TG} {gr : TGs} {tg : TDG} {tr : List D → List Sl → (List Sl → Prop) → Prop} (h1 : LG K bor g tg) (h2 : LGs K bor gr tr) : LGs K bor (gCons g gr) (tgCons tg tr) :=
  fun {c G σ H ρ vs ds Qd Q} hc R p ⟨d, es, e, q⟩ k => by
    subst e
    cases p with
    | cons a b => exact ⟨_, _, rfl, h1 hc R a q fun σ1 ρ1 R1 q1 => h2 hc R1 b q1 k⟩
def tgTup (n : Nat) (r : List D → List Sl → (List Sl → Prop) → Prop) : TDG := fun d ρ Q => ∃ ds, d = .tuple ds ∧ ds.length = n ∧ r ds ρ Q
theorem lg_tup {n : Nat} {gr : TGs} {tr : List D → List Sl → (List Sl → Prop) → Prop} (h : LGs K bor gr tr) : LG K bor (gTup K n gr) (tgTup n tr) := fun {c G σ H ρ v d Qd Q} hc R p ⟨ds, e, hl, q⟩ k => by
  subst e
  cases p with
  | tup s a => exact ⟨_, _, rfl, (tupS R.sub s).sq, by rw [dps_len a]; exact hl, h hc R a q k⟩
def sAsg (A : TDE) (g : TDG) : TDS := fun E ρ => A ρ fun d ρ1 => g d ρ1 E.nx
theorem ls_asg {g : TG} {tg : TDG} (h : LE K bor te A) (hg : LG K bor g tg) : LS K bor (tAsg te g) (sAsg A tg) := fun {c G σ H ρ E D} hc R q l =>
  h hc R q fun v H' G' ρ' d s R' p q' => hg hc R' p q' fun σ2 ρ2 R2 q2 => l.nx s R2 q2
def sAsgL (A : TDL) (i : Nat) : TDS := fun E ρ => A ρ fun ds ρ1 => E.nx (ρ1.set i (.ow ds))
theorem ls_asgL {i : Nat} {A : TDL} (hi : i ∉ bor) (h : LL K bor te A) : LS K bor (tAsg te (gName i)) (sAsgL A i) := fun {c G σ H ρ E D} hc R q l =>
  h hc R q fun a vs H' G' ρ' ds s R' m p q' => l.nx s (R'.storeO (fun a z => hi (hc ▸ R'.bs _ _ z)) m p) q'


def ownL (j : Nat) (ρ : List Sl) : Option (List D) := match ρ[j]? with
  | some (.ow xs) => some xs
  | _ => none

def plainAt (j : Nat) (ρ : List Sl) : Bool := match ρ[j]? with
  | some (.ow _) => false
  | some (.od _) => false
  | some (.lk _ _ _ _) => false
  | some (.tp _) => false
  | _ => true
theorem plain_at {j : Nat} {ρ : List Sl} {s : Sl} (h : plainAt j ρ = true) (e : ρ[j]? = some s) {G : Hp} {o : Option (Option V)} {b : Addr} : ¬ Owns G s o b := by
  unfold plainAt at h
  rw [e] at h
  cases s <;> first | exact id | cases h
theorem ownL_some {j : Nat} {ρ : List Sl} {xs : List D} (h : ownL j ρ = some xs) : ρ[j]? = some (.ow xs) := by
  unfold ownL at h
  split at h
  · rename_i ys e; injection h with h; subst h; exact e
  · cases h
theorem ow_val {c : C0} {G : Hp} {σ : L2.St} {H : Hp} {ρ : List Sl} {j : Nat} (R : Rel K c G σ H ρ) (h : (ownL j ρ).isSome = true) : ∃ a, σ[j]? = some (some (.ref a)) ∧ ∃ vs, H a = some (.lst vs) := by
  obtain ⟨xs, e⟩ := Option.isSome_iff_exists.mp h
  obtain ⟨a, vs, e1, e2, _⟩ := R.owAt (ownL_some e)
  exact ⟨a, e1, vs, e2⟩
theorem ow_at {c : C0} {G : Hp} {σ : L2.St} {H : Hp} {ρ : List Sl} {j : Nat} {xs : List D} {a : Addr} (R : Rel K c G σ H ρ) (h : ownL j ρ = some xs) (ha : σ[j]? = some (some (.ref a))) : ∃ vs, H a = some (.lst vs) ∧ DqAll K G vs xs := by
  obtain ⟨b, vs, e1, e2, e3, _⟩ := R.owAt (ownL_some h)
  rw [ha] at e1
  injection e1 with e1; injection e1 with e1; injection e1 with e1; subst e1
  exact ⟨vs, e2, e3⟩
theorem sz5 {n : Nat} (h : n < 100000) : n < sizeLine := Nat.lt_of_lt_of_le h (by decide)
theorem tyL {H : Hp} {a : Addr} {vs : List V} (h : H a = some (.lst vs)) : tyV K "list" (.ref a) H := .inl ⟨rfl, _, SqL.of h⟩

def dAppend (j : Nat) (A : TDE) : TDE := fun ρ Q => (ownL j ρ).isSome = true ∧ A ρ fun d ρ1 => ∃ xs, ownL j ρ1 = some xs ∧ xs.length < 100000 ∧ Q .none (ρ1.set j (.ow (xs ++ [d])))
theorem le_append {j : Nat} (h : LE K bor te A) : LE K bor (tBM K "list" rAppend (tVar j) (tCons te tNil)) (dAppend j A) := fun {c G σ H ρ Qd Q} hc R ⟨q0, q⟩ k => by
  obtain ⟨a, e1, vs0, e2⟩ := ow_val R q0
  refine ⟨_, e1, tyL e2, h hc R q fun v H1 G1 ρ1 d s R1 p1 ⟨xs, f1, f2, q1⟩ => ?_⟩
  obtain ⟨vs, f3, f4⟩ := ow_at R1 f1 e1
  refine ⟨a, vs, v, rfl, rfl, f3, sz5 (by rw [dps_len f4]; exact f2), k _ _ G1 _ .none s ?_ .non q1⟩
  exact R1.change (ownL_some f1) e1 (dps_app f4 (.cons p1 .nil))

abbrev rInsH : V → List V → Hp → VK → Prop := fun x vs H Q => ∃ (l : Addr) (xs : List V) (i : Int) (y : V), x = .ref l ∧ vs = [.int i, y] ∧ H l = some (.lst xs) ∧ xs.length < sizeLine ∧ 0 ≤ i ∧ i < 2 ^ 63 ∧
  Q .non (upd H l (.lst (xs.take i.toNat ++ [y] ++ xs.drop i.toNat)))
def dInsert (j : Nat) (A B : TDE) : TDE := fun ρ Q => (ownL j ρ).isSome = true ∧ A ρ fun i ρ1 => B ρ1 fun d ρ2 => ∃ xs n, ownL j ρ2 = some xs ∧ xs.length < 100000 ∧ i = .int n ∧ 0 ≤ n ∧ n < 2 ^ 63 ∧
  Q .none (ρ2.set j (.ow (xs.take n.toNat ++ d :: xs.drop n.toNat)))
theorem le_insert {j : Nat} {ti : TE} (hi : LE K bor ti A) (h : LE K bor te B) : LE K bor (tBM K "list" rInsH (tVar j) (tCons ti (tCons te tNil))) (dInsert j A B) := fun {c G σ H ρ Qd Q} hc R ⟨q0, q⟩ k => by
  obtain ⟨a, e1, vs0, e2⟩ := ow_val R q0
  refine ⟨_, e1, tyL e2, hi hc R q fun iv H0 G0 ρ0 id s0 R0 p0 q' => h hc R0 q' fun v H1 G1 ρ1 d s R1 p1 ⟨xs, n, f1, f2, f0, n0, n1, q1⟩ => ?_⟩
  subst f0
  cases p0
  obtain ⟨vs, f3, f4⟩ := ow_at R1 f1 e1
  refine ⟨a, vs, n, v, rfl, rfl, f3, sz5 (by rw [dps_len f4]; exact f2), n0, n1, k _ _ G1 _ .none (s0.trans s) ?_ .non q1⟩
  have pz := dps_app (dps_app (dps_take n.toNat f4) (.cons p1 .nil)) (dps_drop n.toNat f4)
  have ez : xs.take n.toNat ++ [d] ++ xs.drop n.toNat = xs.take n.toNat ++ d :: xs.drop n.toNat := by simp
  rw [ez] at pz
  exact R1.change (ownL_some f1) e1 pz
theorem dps_erase {G : Hp} : ∀ {ds : List D} {vs : List V} (k : Nat), DqAll K G vs ds → DqAll K G (vs.eraseIdx k) (ds.eraseIdx k)
  | [], _, k, h => by cases h; simpa using DqAll.nil
  | d :: ds, _, k, h => by
    cases h with
    | cons a b =>
      cases k with
      | zero => exact b
      | succ k => exact .cons a (dps_erase k b)

def dPopAt (j : Nat) (A : TDE) : TDE := fun ρ Q => (ownL j ρ).isSome = true ∧ A ρ fun i ρ1 => ∃ xs n k d, ownL j ρ1 = some xs ∧ xs.length ≤ 100000 ∧ i = .int n ∧ ixN xs.length n = some k ∧ xs[k]? = some d ∧ Q d (ρ1.set j (.ow (xs.eraseIdx k)))
theorem le_popAt {j : Nat} (h : LE K bor te A) : LE K bor (tBM K "list" rPopAt (tVar j) (tCons te tNil)) (dPopAt j A) := fun {c G σ H ρ Qd Q} hc R ⟨q0, q⟩ k => by
  obtain ⟨a, e1, vs0, e2⟩ := ow_val R q0
  refine ⟨_, e1, tyL e2, h hc R q fun v H1 G1 ρ1 d s R1 p1 ⟨xs, n, m, y, f1, f2, f0, f5, f6, q1⟩ => ?_⟩
  subst f0
  cases p1
  obtain ⟨vs, f3, f4⟩ := ow_at R1 f1 e1
  obtain ⟨g1, g2, g3, g4⟩ := ixN_seq f5
  obtain ⟨v, f7, f8⟩ := dps_of f4 f6
  refine ⟨a, vs, n, m, v, rfl, rfl, f3, by omega, by omega, by rw [dps_len f4]; exact g1, f7, k _ _ G1 _ y s ?_ f8 q1⟩
  exact R1.change (ownL_some f1) e1 (dps_erase _ f4)

def sStore (j : Nat) (A B : TDE) : TDS := fun E ρ => A ρ fun d ρ1 => (ownL j ρ1).isSome = true ∧ B ρ1 fun i ρ2 => ∃ xs n k, ownL j ρ2 = some xs ∧ i = .int n ∧ ixN xs.length n = some k ∧ E.nx (ρ2.set j (.ow (xs.set k d)))
theorem ls_store {j : Nat} {ti : TE} (h : LE K bor te A) (hi : LE K bor ti B) : LS K bor (tAsg te (gSub (tVar j) ti rSetL)) (sStore j A B) := fun {c G σ H ρ E D} hc R q l =>
  h hc R q fun v H1 G1 ρ1 d s1 R1 p1 ⟨q0, q1⟩ => by
    obtain ⟨a, e1, vs0, e2⟩ := ow_val R1 q0
    refine ⟨_, e1, hi hc R1 q1 fun w H2 G2 ρ2 i s2 R2 p2 ⟨xs, n, m, f1, f2, f3, q2⟩ => ?_⟩
    subst f2
    cases p2
    obtain ⟨vs, f5, f4⟩ := ow_at R2 f1 e1
    refine ⟨a, vs, n, m, rfl, rfl, f5, by rw [dps_len f4]; exact f3, l.nx (s1.trans s2) (R2.change (ownL_some f1) e1 (dps_set (dpS s2 p1) m f4)) q2⟩

def dReverse (j : Nat) : TDE := fun ρ Q => ∃ xs, ownL j ρ = some xs ∧ Q .none (ρ.set j (.ow xs.reverse))


def forD (g : TDG) (B : TDS) (E : DEnds) : List D → List Sl → Prop
  | [], ρ => E.nx ρ
  | d :: ds, ρ => g d ρ fun ρ1 => B { E with nx := forD g B E ds, ct := forD g B E ds, bk := E.nx } ρ1
theorem for_links {c : C0} {G0 G : Hp} {E : DEnds} {D : Ends} {W : List Sl → Prop} {N : L2.St → Hp → Prop} (l : Links K c G E D) (hN : ∀ {G' σ' H' ρ'}, Same G G' → Rel K c G' σ' H' ρ' → W ρ' → N σ' H') :
    Links K c G { E with nx := W, ct := W, bk := E.nx } { D with nx := N, ct := N, bk := D.nx } :=
  ⟨fun s R q => hN s R q, fun s => l.rt s, fun s R q => l.nx s R q, fun s R q => hN s R q⟩
def sForL (A : TDE) (g : TDG) (B : TDS) : TDS := fun E ρ => A ρ fun d ρ1 => ∃ ds, d = .list ds ∧ forD g B E ds ρ1
theorem ls_forL {tl : TE} {g : TG} {tg : TDG} (h : LE K bor tl A) (hg : LG K bor g tg) (hb : LS K bor t S) : LS K bor (tFor (iList K tl) g t) (sForL A tg S) := fun {c G σ H ρ E D} hc R q l =>
  h hc R q fun v H1 G1 ρ1 d s1 R1 p1 ⟨ds, e, q1⟩ => by
    subst e
    cases p1 with
    | @lst a xs _ h1 h2 =>
      refine ⟨a, rfl, ⟨xs, rdL (rdS R1.sub h1)⟩, for_list (K := K) (a := a) (xs := xs) (fun i σ' H' => ∃ G' ρ', Same G1 G' ∧ Rel K c G' σ' H' ρ' ∧ forD tg S E (ds.drop i) ρ') ⟨G1, ρ1, Same.refl _, R1, q1⟩ ?_ ?_ ?_⟩
      · rintro i σ' H' _ ⟨G', ρ', s, R', _⟩
        exact rdL (rdS (s.trans R'.sub) h1)
      · rintro i x σ' H' hx ⟨G', ρ', s, R', q'⟩
        obtain ⟨d, hd, p⟩ := dps_get h2 hx
        have hi : i < ds.length := (List.getElem?_eq_some_iff.mp hd).1
        have ed : ds.drop i = d :: ds.drop (i + 1) := by
          rw [List.drop_eq_getElem_cons hi]
          have := (List.getElem?_eq_some_iff.mp hd).2
          rw [this]
        rw [ed] at q'
        refine hg hc R' (dpS s p) q' fun σ2 ρ2 R2 q2 => ?_
        exact hb hc R2 q2 (for_links (G0 := G) (l.mono (s1.trans s)) fun s3 R3 q3 => ⟨_, _, s.trans s3, R3, q3⟩)
      · rintro σ' H' ⟨G', ρ', s, R', q'⟩
        rw [dps_len h2, List.drop_length] at q'
        exact l.nx (s1.trans s) R' q'
def sForT (A : TDE) (g : TDG) (B : TDS) : TDS := fun E ρ => A ρ fun d ρ1 => ∃ ds, d = .tuple ds ∧ forD g B E ds ρ1
def rangeD (lo : Int) (n : Nat) : List D := (List.range n).map fun (k : Nat) => PyData.int (lo + k)
theorem rangeD_get {lo : Int} {n i : Nat} (h : i < n) : (rangeD lo n)[i]? = some (.int (lo + i)) := by
  unfold rangeD
  rw [List.getElem?_map, List.getElem?_range h]
  rfl
theorem rangeD_drop {lo : Int} {n i : Nat} (h : i < n) : (rangeD lo n).drop i = .int (lo + i) :: (rangeD lo n).drop (i + 1) := by
  obtain ⟨hl, e⟩ := List.getElem?_eq_some_iff.mp (rangeD_get (lo := lo) h)
  rw [List.drop_eq_getElem_cons hl, e]
def sForR (A : TDA) (g : TDG) (B : TDS) : TDS := fun E ρ => A ρ fun vs ρ1 => ∃ j, vs = [.int j] ∧ j < 2 ^ 62 ∧ -(2 ^ 62) ≤ j ∧ forD g B E (rangeD 0 j.toNat) ρ1
theorem ls_forR {ta : TA} {g : TG} {tg : TDG} {A : TDA} (h : LEs K bor ta A) (hg : LG K bor g tg) (hb : LS K bor t S) : LS K bor (tFor (iRng1 ta) g t) (sForR A tg S) := fun {c G σ H ρ E D} hc R q l =>
  h hc R q fun vs H1 G1 ρ1 ds s1 R1 p1 ⟨j, e, j1, j2, q1⟩ => by
    subst e
    cases p1 with
    | cons a b =>
      cases a
      cases b
      refine ⟨j, rfl, j2, j1, for_range (lo := 0) (n := j.toNat) (fun i σ' H' => ∃ G' ρ', Same G1 G' ∧ Rel K c G' σ' H' ρ' ∧ forD tg S E ((rangeD 0 j.toNat).drop i) ρ') ⟨G1, ρ1, Same.refl _, R1, q1⟩ ?_ ?_⟩
      · rintro i σ' H' hi ⟨G', ρ', s, R', q'⟩
        rw [rangeD_drop hi] at q'
        refine hg hc R' (.int _) q' fun σ2 ρ2 R2 q2 => ?_
        exact hb hc R2 q2 (for_links (G0 := G) (l.mono (s1.trans s)) fun s3 R3 q3 => ⟨_, _, s.trans s3, R3, q3⟩)
      · rintro σ' H' ⟨G', ρ', s, R', q'⟩
        rw [List.drop_of_length_le (by unfold rangeD; simp)] at q'
        exact l.nx (s1.trans s) R' q'
def sForR2 (A : TDA) (g : TDG) (B : TDS) : TDS := fun E ρ => A ρ fun vs ρ1 => ∃ i j, vs = [.int i, .int j] ∧ (-(2 ^ 62) ≤ i ∧ i < 2 ^ 62 ∧ -(2 ^ 62) ≤ j ∧ j < 2 ^ 62) ∧ forD g B E (rangeD i (j - i).toNat) ρ1
def whileD (C : TDT) (B : TDS) (E : DEnds) : Nat → List Sl → Prop
  | 0, _ => False
  | n + 1, ρ => C ρ fun b ρ1 => (b = true → B { E with nx := whileD C B E n, ct := whileD C B E n, bk := E.nx } ρ1) ∧ (b = false → E.nx ρ1)
def sWhile (C : TDT) (B : TDS) : TDS := fun E ρ => ∃ n, whileD C B E n ρ
theorem ls_while {tc : TT} {C : TDT} (hC : LT K bor tc C) (hb : LS K bor t S) : LS K bor (tWhile tc t) (sWhile C S) := fun {c G σ H ρ E D} hc R ⟨n, q⟩ l => by
  refine ⟨fun m σ' H' => ∃ G' ρ', Same G G' ∧ Rel K c G' σ' H' ρ' ∧ whileD C S E m ρ', ⟨n, G, ρ, Same.refl _, R, q⟩, ?_⟩
  rintro m σ' H' ⟨G', ρ', s, R', q'⟩
  cases m with
  | zero => exact q'.elim
  | succ m =>
    refine hC hc R' q' fun b H2 G2 ρ2 s2 R2 ⟨q1, q2⟩ => ?_
    cases b with
    | true =>
      refine iteT ⟨fun σ3 H3 => ∃ G3 ρ3, Same G G3 ∧ Rel K c G3 σ3 H3 ρ3 ∧ whileD C S E m ρ3, fun σ3 H3 w => ⟨m, Nat.lt_succ_self _, w⟩, ?_⟩
      exact hb hc R2 (q1 rfl) (for_links (G0 := G) (l.mono (s.trans s2)) fun s3 R3 q3 => ⟨_, _, (s.trans s2).trans s3, R3, q3⟩)
    | false => exact iteF (l.nx (s.trans s2) R2 (q2 rfl))


theorem LB.g {tc : TT} {f : List Sl → Option Bool} (h : LB K bor tc f) : LT K bor tc (dB f) := fun {_ _ _ _ _ _ _} hc R ⟨b, e, q⟩ k => h hc R e fun G' H' g => k b H' G' _ g.g (R.grow g) q
def asBool (f : FE) : List Sl → Option Bool := fun ρ => match f ρ with
  | some (.bool b) => some b
  | _ => none
theorem lb_test {f : FE} (h : LM K bor te f) : LB K bor (tTest te) (asBool f) := fun {c G σ H ρ b Q} hc R e k => by
  unfold asBool at e
  split at e
  · rename_i b' e1
    injection e with e; subst e
    exact h hc R e1 fun v G' H' g p => ⟨b', p.bl, k G' H' g⟩
  · cases e
theorem lb_B {f : FE} (h : LM K bor te f) : LB K bor (tB te) (asBool f) := lb_test h
def dTest (A : TDE) : TDT := fun ρ Q => A ρ fun d ρ1 => ∃ b, d = .bool b ∧ Q b ρ1
theorem lt_test (h : LE K bor te A) : LT K bor (tTest te) (dTest A) := fun {c G σ H ρ Qd Q} hc R q k =>
  h hc R q fun v H' G' ρ' d s R' p ⟨b, e, q'⟩ => by
    subst e; cases p; exact ⟨b, rfl, k b H' G' ρ' s R' q'⟩
theorem lt_B (h : LE K bor te A) : LT K bor (tB te) (dTest A) := lt_test h
variable {tc td : TT} {C C' : TDT} {b1 b2 : List Sl → Option Bool}
def dAnd (C C' : TDT) : TDT := fun ρ Q => C ρ fun b ρ1 => (b = true → C' ρ1 Q) ∧ (b = false → Q false ρ1)
theorem lt_and (h1 : LT K bor tc C) (h2 : LT K bor td C') : LT K bor (tAnd tc td) (dAnd C C') := fun {c G σ H ρ Qd Q} hc R q k =>
  h1 hc R q fun b H1 G1 ρ1 s1 R1 ⟨q1, q2⟩ => by
    cases b with
    | true => exact iteT (h2 hc R1 (q1 rfl) fun b H2 G2 ρ2 s2 R2 q' => k b H2 G2 ρ2 (s1.trans s2) R2 q')
    | false => exact iteF (k false H1 G1 ρ1 s1 R1 (q2 rfl))
def dOr (C C' : TDT) : TDT := fun ρ Q => C ρ fun b ρ1 => (b = true → Q true ρ1) ∧ (b = false → C' ρ1 Q)
theorem lt_or (h1 : LT K bor tc C) (h2 : LT K bor td C') : LT K bor (tOr tc td) (dOr C C') := fun {c G σ H ρ Qd Q} hc R q k =>
  h1 hc R q fun b H1 G1 ρ1 s1 R1 ⟨q1, q2⟩ => by
    cases b with
    | true => exact iteT (k true H1 G1 ρ1 s1 R1 (q1 rfl))
    | false => exact iteF (h2 hc R1 (q2 rfl) fun b H2 G2 ρ2 s2 R2 q' => k b H2 G2 ρ2 (s1.trans s2) R2 q')
def dNot (C : TDT) : TDT := fun ρ Q => C ρ fun b ρ1 => Q (!b) ρ1
theorem lt_not (h1 : LT K bor tc C) : LT K bor (tNot tc) (dNot C) := fun {c G σ H ρ Qd Q} hc R q k => h1 hc R q fun b H1 G1 ρ1 s1 R1 q' => k (!b) H1 G1 ρ1 s1 R1 q'
def bAnd (f g : List Sl → Option Bool) : List Sl → Option Bool := fun ρ => match f ρ with
  | some true => g ρ
  | some false => some false
  | none => none
def bOr (f g : List Sl → Option Bool) : List Sl → Option Bool := fun ρ => match f ρ with
  | some true => some true
  | some false => g ρ
  | none => none
theorem lb_or (h1 : LB K bor tc b1) (h2 : LB K bor td b2) : LB K bor (tOr tc td) (bOr b1 b2) := fun {c G σ H ρ b Q} hc R e k => by
  unfold bOr at e
  split at e
  · rename_i e1
    injection e with e; subst e
    exact h1 hc R e1 fun G1 H1 g1 => iteT (k G1 H1 g1)
  · rename_i e1
    exact h1 hc R e1 fun G1 H1 g1 => iteF (h2 hc (R.grow g1) e fun G2 H2 g2 => k G2 H2 (g1.trans g2))
  · cases e
def bNot (f : List Sl → Option Bool) : List Sl → Option Bool := fun ρ => (f ρ).map (!·)
theorem lb_not (h1 : LB K bor tc b1) : LB K bor (tNot tc) (bNot b1) := fun {c G σ H ρ b Q} hc R e k => by
  unfold bNot at e
  cases e1 : b1 ρ with
  | none => rw [e1] at e; cases e
  | some b' =>
    rw [e1] at e
    injection e with e; subst e
    exact h1 hc R e1 fun G1 H1 g1 => k G1 H1 g1

variable {ta tb : TE} {f g : FE}
def fAndV (f g : FE) : FE := fun ρ => match f ρ with
  | some (.bool true) => g ρ
  | some (.bool false) => some (.bool false)
  | _ => none
theorem lp_andV (h1 : LM K bor ta f) (h2 : LP K bor tb g) : LP K bor (tAndV ta tb) (fAndV f g) := fun {c G σ H ρ d Q} hc R e k => by
  unfold fAndV at e
  split at e
  · rename_i e1
    exact h1 hc R e1 fun v G1 H1 g1 p1 => ⟨true, p1.bl, iteT (h2 hc (R.grow g1) e fun u G2 H2 g2 p2 => k u G2 H2 (g1.trans g2) p2)⟩
  · rename_i e1
    injection e with e; subst e
    exact h1 hc R e1 fun v G1 H1 g1 p1 => ⟨false, p1.bl, iteF (k _ G1 H1 g1 (.bl _))⟩
  · cases e
def fOrV (f g : FE) : FE := fun ρ => match f ρ with
  | some (.bool true) => some (.bool true)
  | some (.bool false) => g ρ
  | _ => none
def fNotV (f : FE) : FE := fun ρ => match f ρ with
  | some (.bool b) => some (.bool (!b))
  | _ => none
def dIfE (C : TDT) (A B : TDE) : TDE := fun ρ Q => C ρ fun b ρ1 => (b = true → A ρ1 Q) ∧ (b = false → B ρ1 Q)
def fIfE (b : List Sl → Option Bool) (f g : FE) : FE := fun ρ => match b ρ with
  | some true => f ρ
  | some false => g ρ
  | none => none
end
end TN
set_option Elab.async false
set_option linter.all false
set_option maxRecDepth 100000
set_option maxHeartbeats 1000000
set_option autoImplicit false
namespace TN
open PySem PySem.Spec PyProof.Rows L2
structure FnG (P : Program) (w : World) (K : PySem.W.Frag) (mg : Str → Option Value) (base : Heap) (CX : CXT) (k : Nat) (f : Addr) (fd : FuncData) (ps : List Str) (sp : Sp) : Prop where
  count : ∀ vs H Q E, sp vs H Q E → vs.length = ps.length
  go : ∀ (A : Around) (outer : List Env) (s : Shared) (H : Hp) (args : Args) (us : List Value) (vs : List V) (Q : VK) (E : XK), A.guards = some [] → Room k A → Env0 P w K mg base A outer s H →
    BindsTo s fd args (ps.zip us) → Vals vs us → sp vs H Q E → codeAny (model P w) A (.call (.ref f) args) (CR CX outer P w H s Q E) s

section
variable {P : Program} {w : World} {K : PySem.W.Frag} {mg : Str → Option Value} {base : Heap} {CX : CXT} {k : Nat} {f : Addr} {fd : FuncData} {ps : List Str} {sp : Sp}
theorem FnG.up {j : Nat} (F : FnG P w K mg base CX j f fd ps sp) (h : j ≤ k) : FnG P w K mg base CX k f fd ps sp :=
  ⟨F.count, fun A o s H a us vs Q E hg hr => F.go A o s H a us vs Q E hg (hr.mono h)⟩
theorem FnG.less {sp' : Sp} (F : FnG P w K mg base CX k f fd ps sp) (h : ∀ vs H Q E, sp' vs H Q E → sp vs H Q E) : FnG P w K mg base CX k f fd ps sp' :=
  ⟨fun vs H Q E q => F.count vs H Q E (h _ _ _ _ q), fun A o s H a us vs Q E hg hr he hb hv hs => F.go A o s H a us vs Q E hg hr he hb hv (h _ _ _ _ hs)⟩

theorem fnG_body {x qual : Str} {st : Stmt} {N : List Str} (F : Fun K x qual st f fd) (S : FnScope N ps (defScope st)) (hn : ∀ vs H Q E, sp vs H Q E → vs.length = ps.length)
    (body : ∀ (cdv : Value) (A : Around) (outer : List Env) (s : Shared) (H : Hp) (vs : List V) (Q : VK) (E : XK), A.guards = some [] → Room k (A.deeper (envOfC qual (defScope st) s.heap.objs.size f cdv)) → sp vs H Q E →
      ∃ t, PSs (cxOf CX P w K mg base N qual (defScope st) f cdv A outer s H E) (defBody st) t ∧ t { nx := fun _ H' => Q .non H', rt := Q } (L2.start N vs) H) :
    FnG P w K mg base CX (k + 1) f fd ps sp := by
  obtain ⟨oc, od, kV, doc, pm, an, cdv, ct, osl, hfd, hlk, hcode⟩ := F.ex
  subst hfd
  constructor
  · exact hn
  · intro A outer s H args us vs Q E hg hr he hb hv hs
    have count := hn vs H Q E hs
    have stays : ∀ b o, base.get? b = some o → s.heap.get? b = some o := fun b o e => (he.bs b o e).1
    have hK : K.In s.heap := he.mod.kin.keeps stays
    have hlim : s.heap.NoLimit := he.mod.nolimit.keeps stays
    have kinds : ∀ y ∈ ps.zip us, (defScope st).names.lookup y.1 = some .local ∨
        ((defScope st).names.lookup y.1 = some .cell ∧ ((cellsFrom (s.heap.objs.size + 1) (defScope st).names []).lookup y.1).isSome = true) := by
      rintro ⟨y, u⟩ hy
      rcases S.par y (List.of_mem_zip hy).1 with h | h
      · exact Or.inl h
      · exact Or.inr ⟨h, PySem.W.cellsFrom_some _ _ _ (Or.inl h)⟩
    apply codeAny_call_function hr.depth (hK _ _ hlk) rfl S.co S.gen rfl (PySem.W.codeRec_of hK hcode)
    apply hb
    apply wpAny_newFunctionEnv_cells S.kind kinds
    intro env eenv s1 x1
    subst eenv
    refine And.intro (hlim.keeps x1.toInCall.keep) (codeAny_func ?_)
    obtain ⟨t, ht, hq⟩ := body cdv A outer s H vs Q E hg (hr.deeper _) hs
    have I0 := inv_start (CX := CX) (E := E) (mg := mg) (K := K) S hr.hd he count hv x1
    apply wpAny_mono (ht.run [] s1 (L2.start N vs) H _ I0 hq)
    · intro fl s' hfl
      cases fl with
      | next =>
        obtain ⟨σ', H', J, q⟩ := hfl
        exact ⟨.non, H', J.os, J.bare, J.base, J.hok, rfl, q⟩
      | ret u =>
        obtain ⟨v, σ', H', J, rv, q⟩ := hfl
        exact ⟨v, H', J.os, J.bare, J.base, J.hok, rv, q⟩
      | brk => exact hfl.elim fun _ z => z.elim fun _ z => z.2.elim
      | cont => exact hfl.elim fun _ z => z.elim fun _ z => z.2.elim
    · exact fun e s' z => z
end
section
variable {X : Cx} {CX : CXT} {k : Nat} {f : Addr} {fd : FuncData} {ps ks : List Str} {sp : Sp} {E : XK} {x : Str} {p pos : Pos} {e : Expr} {es : List Expr} {t tk : TA} {kws : List Keyword}
theorem callG {pins : List (Addr × Obj)} {σ : L2.St} {H : Hp} {s : Shared} {Q : VK} {us : List Value} {vs : List V} {args : Args} (F : FnG X.prog X.w X.K X.mg X.base CX k f fd ps sp) (hg : X.A.guards = some []) (hr : Room k X.A) (hx : Passes CX X E)
    (I : Inv X pins σ H s) (hb : BindsTo s fd args (ps.zip us)) (r : Vals vs us) (h : sp vs H Q E) : codeAny (model X.prog X.w) X.A (.call (.ref f) args) (fun r s' => match r with
      | .ok (.ret v) => EP X pins σ Q v s'
      | .ok _ => False
      | .error e => X.xe e s') s := by
  refine codeAny_mono (F.go X.A X.stack s H args us vs Q E hg hr I.env0 hb r h) fun res s' hq => ?_
  cases res with
  | error e => exact hx pins σ H s e s' I hq
  | ok fl =>
    cases fl with
    | ret u => exact I.after hq
    | next => exact False.elim hq
    | brk => exact False.elim hq
    | cont => exact False.elim hq
theorem runG {pins : List (Addr × Obj)} {σ : L2.St} {H : Hp} {s : Shared} {Q : VK} {us : List Value} {vs : List V} (F : FnG X.prog X.w X.K X.mg X.base CX k f fd ps sp) (hg : X.A.guards = some []) (hr : Room k X.A) (hb : Binds X.K fd ps []) (hx : Passes CX X E)
    (I : Inv X pins σ H s) (r : Vals vs us) (h : sp vs H Q E) : wpAny (model X.prog X.w) X.A (call (.ref f) us) (EP X pins σ Q) X.xe s := by
  have hl : us.length = ps.length := by rw [← r.length]; exact F.count _ _ _ _ h
  have hb' := hb s us I.kIn (by simpa using hl)
  rw [List.append_nil] at hb'
  refine wpAny_call (codeAny_mono (callG F hg hr hx I hb' r h) fun res s' hq => ?_)
  cases res with
  | error e => exact hq
  | ok fl => cases fl <;> first | exact hq | exact hq.elim
theorem peG_call (F : FnG X.prog X.w X.K X.mg X.base CX k f fd ps sp) (hg : X.A.guards = some []) (hr : Room k X.A) (hgl : Gl X x) (hm : X.mg x = some (.ref f)) (hk : PySem.W.keepIn X.K (.ref f) = true) (hb : Binds X.K fd ps []) (hx : Passes CX X E)
    (ha : PA X (e :: es) t) (hdb : (x == ("__debug__" : Str)) = false := by decide) (he : starEach (e :: es) X.env = (false, eval e X.env) :: starEach es X.env := by rfl) (hpl : (backTo pos (starEach es X.env)).any (·.1) = false := by rfl) :
    PE X (.Call (.Name x p) (e :: es) [] pos) (tCall sp [] E t) := by
  constructor
  intro pins s σ H Q I h
  apply wpAny_Call_Name_kw
  apply ld_glob I hgl hm _ hdb
  apply PySem.W.callWith_K (h₀ := X.base) I.ok.mod.kin hk _ he hpl
  apply thn (ha.run pos pins s σ H _ I h)
  rintro us s1 ⟨vs, H1, I1, r, q⟩
  rw [List.append_nil] at q
  exact ⟨I1.kIn, runG F hg hr hb hx I1 r q⟩

structure KOnly (K : PySem.W.Frag) (fd : FuncData) (ps ks : List Str) (g : List Value → List Value) (gV : List V → List V) : Prop where
  to : ∀ (s : Shared) (ws : List Value), K.In s.heap → (g ws).length = ps.length → BindsTo s fd ⟨[], ks.zip ws⟩ (ps.zip (g ws))
  rel : ∀ {zs : List V} {ws : List Value}, Vals zs ws → Vals (gV zs) (g ws)
end
def sp0 (K : PySem.W.Frag) (sem : List D → (Sl → Prop) → Prop) : Sp := fun vs H Q _ => ∃ (G : Hp) (ds : List D) (Qd : Sl → Prop), Same G H ∧ DqAll K G vs ds ∧ sem ds Qd ∧
  ∀ v G' H' r, Grow G H G' H' → RtOk K ⟨H, G, [], []⟩ G' H' v r → Qd r → Q v H'

structure GrowAt (a : Addr) (G H G' H' : Hp) : Prop where
  h : ∀ b o, b ≠ a → H b = some o → H' b = some o
  g : Same G G'
  s : Same G' H'
  n : ∀ b, H b ≠ none → G b = none → G' b = none

def spB (K : PySem.W.Frag) (sem : List D → List D → (Sl → List D → Prop) → Prop) : Sp := fun vs H Q _ => ∃ (G : Hp) (a : Addr) (ws : List V) (xs : List D) (vr : List V) (ds : List D) (Qd : Sl → List D → Prop),
  vs = .ref a :: vr ∧ Same G H ∧ H a = some (.lst ws) ∧ G a = none ∧ DqAll K G ws xs ∧ DqAll K G vr ds ∧ sem xs ds Qd ∧
  ∀ v G' H' r ws' xs', GrowAt a G H G' H' → H' a = some (.lst ws') → DqAll K G' ws' xs' → RtOk K ⟨H, G, [(0, a)], [0]⟩ G' H' v r → Qd r xs' → Q v H'

section
variable {P : Program} {w : World} {K : PySem.W.Frag} {mg : Str → Option Value} {base : Heap} {k : Nat} {f : Addr} {fd : FuncData} {ps : List Str}
def start0 (n : Nat) (ds : List D) : List Sl := ds.map .sh ++ List.replicate (n - ds.length) .no
theorem rel_start {N : List Str} {G H : Hp} {vs : List V} {ds : List D} (s : Same G H) (p : DqAll K G vs ds) : Rel K ⟨H, G, [], []⟩ G (L2.start N vs) H (start0 N.length ds) := by
  have hl := dps_len p
  have shp : ∀ (i : Nat) (sl : Sl), (start0 N.length ds)[i]? = some sl → (∃ d, ds[i]? = some d ∧ sl = .sh d) ∨ sl = .no := fun i sl e => by
    unfold start0 at e
    by_cases hi : i < ds.length
    · rw [List.getElem?_append_left (by simpa using hi), List.getElem?_map] at e
      cases q : ds[i]? with
      | none => rw [q] at e; cases e
      | some d => rw [q] at e; injection e with e; exact .inl ⟨d, rfl, e.symm⟩
    · rw [List.getElem?_append_right (by simpa using hi), List.getElem?_replicate] at e
      split at e
      · injection e with e; exact .inr e.symm
      · cases e
  refine ⟨s, fun a o e _ => e, fun a _ h => h, by unfold L2.start start0; simp [hl], fun i sl e => ?_, fun i j sl sl' a _ e _ ob => ?_, fun i a h => (nomatch h), fun i a h => (nomatch h)⟩
  · rcases shp i sl e with ⟨d, e1, rfl⟩ | rfl
    · obtain ⟨v, e2, e3⟩ := dps_of p e1
      refine ⟨v, ?_, e3⟩
      unfold L2.start
      have hi : i < vs.length := (List.getElem?_eq_some_iff.mp e2).1
      rw [List.getElem?_append_left (by simpa using hi), List.getElem?_map, e2]
      rfl
    · trivial
  · rcases shp i _ e with ⟨d, e1, e2⟩ | e2 <;> (subst e2; exact ob.elim)
def begB (n : Nat) (xs : List D) (ds : List D) : List Sl := .ow xs :: (ds.map .sh ++ List.replicate (n - (ds.length + 1)) .no)
theorem rel_begB {N : List Str} {G H : Hp} {a : Addr} {ws vs : List V} {xs ds : List D} (s : Same G H) (ha : H a = some (.lst ws)) (hg : G a = none) (px : DqAll K G ws xs) (p : DqAll K G vs ds) :
    Rel K ⟨H, G, [(0, a)], [0]⟩ G (L2.start N (.ref a :: vs)) H (begB N.length xs ds) := by
  have hl := dps_len p
  have shp : ∀ (i : Nat) (sl : Sl), (begB N.length xs ds)[i]? = some sl → (i = 0 ∧ sl = .ow xs) ∨ (∃ j d, i = j + 1 ∧ ds[j]? = some d ∧ sl = .sh d) ∨ sl = .no := fun i sl e => by
    unfold begB at e
    cases i with
    | zero => injection e with e; exact .inl ⟨rfl, e.symm⟩
    | succ i =>
      rw [List.getElem?_cons_succ] at e
      by_cases hi : i < ds.length
      · rw [List.getElem?_append_left (by simpa using hi), List.getElem?_map] at e
        cases q : ds[i]? with
        | none => rw [q] at e; cases e
        | some d => rw [q] at e; injection e with e; exact .inr (.inl ⟨i, d, rfl, q, e.symm⟩)
      · rw [List.getElem?_append_right (by simpa using hi), List.getElem?_replicate] at e
        split at e
        · injection e with e; exact .inr (.inr e.symm)
        · cases e
  have hlen : (L2.start N (.ref a :: vs)).length = (begB N.length xs ds).length := by
    unfold L2.start begB
    simp only [List.length_append, List.length_map, List.length_cons, List.length_replicate, hl]
    omega
  have h0 : (L2.start N (.ref a :: vs))[0]? = some (some (.ref a)) := rfl
  refine ⟨s, fun a o e _ => e, fun a _ h => h, hlen, fun i sl e => ?_, fun i j sl sl' b hij e1 e2 o1 o2 => ?_, fun i b h => ?_, fun i b h => ?_⟩
  · rcases shp i sl e with ⟨rfl, rfl⟩ | ⟨j, d, rfl, e1, rfl⟩ | rfl
    · exact ⟨a, ws, h0, ha, px, hg, .inr (List.mem_singleton.mpr rfl)⟩
    · obtain ⟨v, e2, e3⟩ := dps_of p e1
      refine ⟨v, ?_, e3⟩
      unfold L2.start
      have hi : j < vs.length := (List.getElem?_eq_some_iff.mp e2).1
      rw [List.getElem?_append_left (by simpa using hi), List.getElem?_map, List.getElem?_cons_succ, e2]
      rfl
    · trivial
  · rcases shp i _ e1 with ⟨rfl, _⟩ | ⟨_, _, _, _, z⟩ | z
    · rcases shp j _ e2 with ⟨rfl, _⟩ | ⟨_, _, _, _, z⟩ | z
      · exact absurd rfl hij
      · subst z; exact o2.elim
      · subst z; exact o2.elim
    · subst z; exact o1.elim
    · subst z; exact o1.elim
  · have e := List.mem_singleton.mp h
    injection e with e1 e2
    subst e1; subst e2
    exact ⟨h0, xs, rfl⟩
  · have e := List.mem_singleton.mp h
    injection e with e1 e2
    subst e1
    exact List.mem_singleton.mpr rfl


theorem fn0 {x qual : Str} {st : Stmt} {N : List Str} {sem : List D → (Sl → Prop) → Prop} {t : TS} {T : TDS} (F : Fun K x qual st f fd) (S : FnScope N ps (defScope st)) (hn : ∀ ds Q, sem ds Q → ds.length = ps.length)
    (body : ∀ (cdv : Value) (A : Around) (outer : List Env) (s : Shared) (H : Hp) (E : XK), A.guards = some [] → Room k (A.deeper (envOfC qual (defScope st) s.heap.objs.size f cdv)) →
      PSs (cxOf CX0 P w K mg base N qual (defScope st) f cdv A outer s H E).nox (defBody st) t)
    (hl : LS K [] t T) (hs : ∀ ds Qd, sem ds Qd → T { nx := fun _ => Qd (.sh .none), rt := fun r _ => Qd r } (start0 N.length ds)) :
    FnG P w K mg base CX0 (k + 1) f fd ps (sp0 K sem) := by
  refine fnG_body F S (fun vs H Q E h => ?_) fun cdv A outer s H vs Q E hg hr h => ⟨t, (body cdv A outer s H E hg hr).nox, ?_⟩
  · obtain ⟨G, ds, Qd, _, p, q, _⟩ := h
    rw [dps_len p]; exact hn _ _ q
  · obtain ⟨G, ds, Qd, sm, p, q, fin⟩ := h
    have R := rel_start (N := N) sm p
    have grow : ∀ {G' : Hp} {σ' : L2.St} {H' : Hp} {ρ' : List Sl}, Same G G' → Rel K ⟨H, G, [], []⟩ G' σ' H' ρ' → Grow G H G' H' := fun s' R' =>
      ⟨fun b o e => R'.fr b o e fun i z => (nomatch z), s', R'.sub, fun b h1 h2 => R'.gh b h1 h2⟩
    exact hl rfl R (hs ds Qd q) ⟨fun s' R' q' => fin _ _ _ (.sh .none) (grow s' R') .non q', fun s' R' ok q' => fin _ _ _ _ (grow s' R') ok q', fun _ _ z => z.elim, fun _ _ z => z.elim⟩

theorem fnB {x qual : Str} {st : Stmt} {N : List Str} {sem : List D → List D → (Sl → List D → Prop) → Prop} {t : TS} {T : TDS} (F : Fun K x qual st f fd) (S : FnScope N ps (defScope st)) (hn : ∀ xs ds Q, sem xs ds Q → ds.length + 1 = ps.length)
    (body : ∀ (cdv : Value) (A : Around) (outer : List Env) (s : Shared) (H : Hp) (E : XK), A.guards = some [] → Room k (A.deeper (envOfC qual (defScope st) s.heap.objs.size f cdv)) →
      PSs (cxOf CX0 P w K mg base N qual (defScope st) f cdv A outer s H E).nox (defBody st) t)
    (hl : LS K [0] t T) (hs : ∀ xs ds Qd, sem xs ds Qd → T { nx := fun ρ => ∃ ys, ownL 0 ρ = some ys ∧ Qd (.sh .none) ys, rt := fun r ρ => ∃ ys, ownL 0 ρ = some ys ∧ Qd r ys } (begB N.length xs ds)) :
    FnG P w K mg base CX0 (k + 1) f fd ps (spB K sem) := by
  refine fnG_body F S (fun vs H Q E h => ?_) fun cdv A outer s H vs Q E hg hr h => ⟨t, (body cdv A outer s H E hg hr).nox, ?_⟩
  · obtain ⟨G, a, ws, xs, vr, ds, Qd, e, _, _, _, _, p, q, _⟩ := h
    rw [e, List.length_cons, dps_len p]; exact hn _ _ _ q
  · obtain ⟨G, a, ws, xs, vr, ds, Qd, e, sm, ha, hga, px, p, q, fin⟩ := h
    subst e
    have R := rel_begB (N := N) sm ha hga px p
    have grow : ∀ {G' : Hp} {σ' : L2.St} {H' : Hp} {ρ' : List Sl}, Same G G' → Rel K ⟨H, G, [(0, a)], [0]⟩ G' σ' H' ρ' → GrowAt a G H G' H' := fun s' R' =>
      ⟨fun b o hb e => R'.fr b o e fun i z => by
        have e := List.mem_singleton.mp z
        injection e with _ e2
        exact hb e2, s', R'.sub, fun b h1 h2 => R'.gh b h1 h2⟩
    have back : ∀ {G' : Hp} {σ' : L2.St} {H' : Hp} {ρ' : List Sl} {ys : List D}, Rel K ⟨H, G, [(0, a)], [0]⟩ G' σ' H' ρ' → ownL 0 ρ' = some ys → ∃ ws', H' a = some (.lst ws') ∧ DqAll K G' ws' ys := fun R' e => by
      obtain ⟨e1, _⟩ := R'.bd 0 a (List.mem_singleton.mpr rfl)
      exact ow_at R' e e1
    refine hl rfl R (hs xs ds Qd q) ⟨fun s' R' ⟨ys, e, q'⟩ => ?_, fun s' R' ok ⟨ys, e, q'⟩ => ?_, fun _ _ z => z.elim, fun _ _ z => z.elim⟩
    · obtain ⟨ws', h1, h2⟩ := back R' e
      exact fin _ _ _ (.sh .none) ws' ys (grow s' R') h1 h2 .non q'
    · obtain ⟨ws', h1, h2⟩ := back R' e
      exact fin _ _ _ _ ws' ys (grow s' R') h1 h2 ok q'
end
section
variable {K : PySem.W.Frag} {bor : List Nat} {ta : TA}
def dCall (sem : List D → (Sl → Prop) → Prop) (A : TDA) : TDE := fun ρ Q => A ρ fun ds ρ1 => sem ds fun r => ∃ d, r = .sh d ∧ Q d ρ1
theorem pts_ctx {c c' : C0} {G H : Hp} {vs : List V} {ps : List Pt} (h : PtsOk K c G H vs ps) (e : ∀ a, c.H a = none → c'.H a = none) : PtsOk K c' G H vs ps :=
  ⟨h.1, fun k v p h1 h2 => by
    have q := h.2 k v p h1 h2
    cases p with
    | sh d => exact q
    | ow xs => obtain ⟨a, us, q1, q2, q3, q4, q5⟩ := q; exact ⟨a, us, q1, q2, q3, q4, e _ q5⟩⟩
theorem le_call {sem : List D → (Sl → Prop) → Prop} {A : TDA} {E : XK} (h : LEs K bor ta A) : LE K bor (tCall (sp0 K sem) [] E ta) (dCall sem A) := fun {c G σ H ρ Qd Q} hc R q k =>
  h hc R q fun vs H1 G1 ρ1 ds s1 R1 p q1 => by
    rw [List.append_nil]
    refine ⟨G1, ds, _, R1.sub, p, q1, fun v G' H' r g ok ⟨d, e, q2⟩ => ?_⟩
    subst e
    exact k v H' G' ρ1 d (s1.trans g.g) (R1.grow g) ok q2

def dCallL (sem : List D → (Sl → Prop) → Prop) (A : TDA) : TDL := fun ρ Q => A ρ fun ds ρ1 => sem ds fun r => ∃ xs, r = .ow xs ∧ Q xs ρ1
theorem mineO_of {c : C0} {G : Hp} {σ : L2.St} {H H' : Hp} {ρ : List Sl} (R : Rel K c G σ H ρ) {G' : Hp} {a : Addr} {o : HO} (g : Same G G') (hn : H a = none) (h1 : H' a = some o) (h2 : G' a = none) : MineO c G' σ H' ρ a o :=
  ⟨h1, h2, R.live hn, fun j s e z => by
    obtain ⟨⟨u, e1⟩, _⟩ := R.own e (own_back g (R.sl j s e) z)
    rw [hn] at e1; cases e1⟩
theorem mine_of {c : C0} {G : Hp} {σ : L2.St} {H H' : Hp} {ρ : List Sl} (R : Rel K c G σ H ρ) {G' : Hp} {a : Addr} {vs : List V} (g : Same G G') (hn : H a = none) (h1 : H' a = some (.lst vs)) (h2 : G' a = none) : Mine c G' σ H' ρ a vs := mineO_of R g hn h1 h2
theorem ll_call {sem : List D → (Sl → Prop) → Prop} {A : TDA} {E : XK} (h : LEs K bor ta A) : LL K bor (tCall (sp0 K sem) [] E ta) (dCallL sem A) := fun {c G σ H ρ Qd Q} hc R q k =>
  h hc R q fun vs H1 G1 ρ1 ds s1 R1 p q1 => by
    rw [List.append_nil]
    refine ⟨G1, ds, _, R1.sub, p, q1, fun v G' H' r g ok ⟨xs, e, q2⟩ => ?_⟩
    subst e
    obtain ⟨a, us, e1, e2, e3, e4, e5⟩ := ok
    subst e1
    exact k a us H' G' ρ1 xs (s1.trans g.g) (R1.grow g) (mine_of R1 g.g e4 e2 e3) e5 q2

theorem Rel.after {c : C0} {G G' : Hp} {σ : L2.St} {H H' : Hp} {ρ : List Sl} {j : Nat} {a : Addr} {xs xs' : List D} {ws' : List V} (R : Rel K c G σ H ρ) (h : ownL j ρ = some xs) (ha : σ[j]? = some (some (.ref a)))
    (g : GrowAt a G H G' H') (h1 : H' a = some (.lst ws')) (h2 : DqAll K G' ws' xs') : Rel K c G' σ H' (ρ.set j (.ow xs')) := by
  have hj := ownL_some h
  obtain ⟨b, vs, e1, e2, e3, e4, e5⟩ := R.owAt hj
  cases refI ha e1
  exact R.rewr hj g.g g.s g.n (fun b u n e => g.h b u (fun z => n (by subst z; exact ha)) e) ⟨a, ws', ha, h1, h2, g.n a (by rw [e2]; simp) e4, e5⟩ (fun b z => z) fun _ => ⟨xs', rfl⟩

def dCallB (sem : List D → List D → (Sl → List D → Prop) → Prop) (j : Nat) (A : TDA) : TDE := fun ρ Q => (ownL j ρ).isSome = true ∧ A ρ fun ds ρ1 => ∃ xs, ownL j ρ1 = some xs ∧ sem xs ds fun r xs' => ∃ d, r = .sh d ∧ Q d (ρ1.set j (.ow xs'))
theorem le_callB {sem : List D → List D → (Sl → List D → Prop) → Prop} {A : TDA} {E : XK} {j : Nat} (h : LEs K bor ta A) : LE K bor (tCall (spB K sem) [] E (tCons (tVar j) ta)) (dCallB sem j A) := fun {c G σ H ρ Qd Q} hc R ⟨q0, q⟩ k => by
  obtain ⟨a, e1, vs0, e2⟩ := ow_val R q0
  refine ⟨_, e1, h hc R q fun vs H1 G1 ρ1 ds s1 R1 p ⟨xs, f1, q1⟩ => ?_⟩
  show spB K sem ((.ref a :: vs) ++ []) H1 Q E
  rw [List.append_nil]
  obtain ⟨b, ws, g1, g2, g3, g4, g5⟩ := R1.owAt (ownL_some f1)
  rw [e1] at g1
  injection g1 with g1; injection g1 with g1; injection g1 with g1; subst g1
  refine ⟨G1, a, ws, xs, vs, ds, _, rfl, R1.sub, g2, g4, g3, p, q1, fun v G' H' r ws' xs' g h1 h2 ok ⟨d, e, q2⟩ => ?_⟩
  subst e
  exact k v H' G' _ d (s1.trans g.g) (R1.after f1 e1 g h1 h2) ok q2
def dCallBL (sem : List D → List D → (Sl → List D → Prop) → Prop) (j : Nat) (A : TDA) : TDL := fun ρ Q => (ownL j ρ).isSome = true ∧ A ρ fun ds ρ1 => ∃ xs, ownL j ρ1 = some xs ∧ sem xs ds fun r xs' => ∃ ys, r = .ow ys ∧ Q ys (ρ1.set j (.ow xs'))
theorem ll_callB {sem : List D → List D → (Sl → List D → Prop) → Prop} {A : TDA} {E : XK} {j : Nat} (h : LEs K bor ta A) : LL K bor (tCall (spB K sem) [] E (tCons (tVar j) ta)) (dCallBL sem j A) := fun {c G σ H ρ Qd Q} hc R ⟨q0, q⟩ k => by
  obtain ⟨a, e1, vs0, e2⟩ := ow_val R q0
  refine ⟨_, e1, h hc R q fun vs H1 G1 ρ1 ds s1 R1 p ⟨xs, f1, q1⟩ => ?_⟩
  show spB K sem ((.ref a :: vs) ++ []) H1 Q E
  rw [List.append_nil]
  obtain ⟨b, ws, g1, g2, g3, g4, g5⟩ := R1.owAt (ownL_some f1)
  rw [e1] at g1
  injection g1 with g1; injection g1 with g1; injection g1 with g1; subst g1
  refine ⟨G1, a, ws, xs, vs, ds, _, rfl, R1.sub, g2, g4, g3, p, q1, fun v G' H' r ws' xs' g h1 h2 ok ⟨ys, e, q2⟩ => ?_⟩
  subst e
  obtain ⟨b, us, z1, z2, z3, z4, z5⟩ := ok
  subst z1
  refine k b us H' G' _ ys (s1.trans g.g) (R1.after f1 e1 g h1 h2) ⟨z2, z3, R1.live z4, fun i s e z => ?_⟩ z5 q2
  -- an owned place stood ahead of the call, the new one didn't
  have hj := ownL_some f1
  have old : ∃ t, ρ1[i]? = some t ∧ Owns G1 t (σ[i]?) b := by
    by_cases hi : i = j
    · subst hi
      rw [List.getElem?_set_self (List.getElem?_eq_some_iff.mp hj).1] at e
      injection e with e; subst e
      exact ⟨_, hj, z⟩
    · rw [List.getElem?_set_ne (Ne.symm hi)] at e
      exact ⟨s, e, own_back g.g (R1.sl i s e) z⟩
  obtain ⟨t, o1, o2⟩ := old
  obtain ⟨⟨u, o3⟩, _⟩ := R1.own o1 o2
  have z4 : H1 b = none := z4
  rw [o3] at z4; cases z4
end
end TN
set_option Elab.async false
set_option linter.all false
set_option maxRecDepth 100000
set_option maxHeartbeats 1000000
set_option autoImplicit false
namespace TN
open PySem PySem.Spec PyProof.Rows L2
section
variable {K : PySem.W.Frag} {c : C0} {G G' : Hp} {σ : L2.St} {H H' : Hp} {ρ : List Sl} {p : Addr} {ws : List V}
def C0.asideO (c : C0) (p : Addr) (o : HO) : C0 := { c with H := upd c.H p o, G := fun a => if a = p then none else c.G a }
abbrev C0.aside (c : C0) (p : Addr) (ws : List V) : C0 := c.asideO p (.lst ws)
variable {o u : HO}
theorem Rel.guardO (R : Rel K c G σ H ρ) (m : MineO c G σ H ρ p o) : Rel K (c.asideO p o) G σ H ρ := by
  obtain ⟨m1, m2, m3, m4⟩ := m
  refine R.move R.sub (fun a u e q => ?_) (fun a h1 h2 => ?_) (Same.refl _) rfl rfl fun b u i s e ob eb => ⟨eb, (R.own e ob).2.1, fun z => ?_⟩
  · have e : upd c.H p o a = some u := e
    by_cases ha : a = p
    · subst ha; rw [upd_same] at e; injection e with e; rw [← e]; exact m1
    · rw [upd_ne ha] at e; exact R.fr a u e q
  · have h1 : upd c.H p o a ≠ none := h1
    have h2 : (if a = p then none else c.G a) = none := h2
    by_cases ha : a = p
    · subst ha; exact m2
    · rw [upd_ne ha] at h1; rw [if_neg ha] at h2; exact R.gh a h1 h2
  · show upd c.H p o b = none
    rw [upd_ne (fun z => by subst z; exact m4 i s e ob)]; exact z
theorem MineO.nb (R : Rel K c G σ H ρ) (m : MineO c G σ H ρ p o) : ∀ i, (i, p) ∉ c.B := fun i z => by
  obtain ⟨e1, xs, e2⟩ := R.bd i p z
  exact m.2.2.2 i _ e2 e1
theorem Rel.unguardO (R : Rel K (c.asideO p o) G σ H ρ) (hp : c.H p = none) (hb : ∀ i, (i, p) ∉ c.B) : Rel K c G σ H ρ ∧ MineO c G σ H ρ p o := by
  have hpH : H p = some o := R.fr p _ upd_same hb
  have hpG : G p = none := R.gh p (by show upd c.H p o p ≠ none; rw [upd_same]; simp) (by show (if p = p then none else c.G p) = none; rw [if_pos rfl])
  have np : ∀ (j : Nat) (s : Sl), ρ[j]? = some s → ¬ Owns G s (σ[j]?) p := fun j s e ob => by
    rcases (R.own e ob).2.2 with z | z
    · have z : upd c.H p o p = none := z
      rw [upd_same] at z; cases z
    · exact hb j z
  refine ⟨R.move R.sub (fun a u e q => ?_) (fun a h1 h2 => ?_) (Same.refl _) rfl rfl fun b u i s e ob eb => ⟨eb, (R.own e ob).2.1, fun z => ?_⟩, hpH, hpG, hp, np⟩
  · refine R.fr a u ?_ q
    show upd c.H p o a = some u
    rw [upd_ne (fun z => by subst z; rw [hp] at e; cases e)]; exact e
  · have ha : a ≠ p := fun z => by subst z; exact h1 hp
    refine R.gh a ?_ ?_
    · show upd c.H p o a ≠ none
      rw [upd_ne ha]; exact h1
    · show (if a = p then none else c.G a) = none
      rw [if_neg ha]; exact h2
  · have z : upd c.H p o b = none := z
    rw [upd_ne (fun z => by subst z; exact np i s e ob)] at z; exact z

theorem Rel.pokeO (R : Rel K c G σ H ρ) (m : MineO c G σ H ρ p o) : Rel K c G σ (upd H p u) ρ ∧ MineO c G σ (upd H p u) ρ p u := by
  obtain ⟨m1, m2, m3, m4⟩ := m
  refine ⟨R.move (fun a x e => ?_) (fun a x e q => ?_) R.gh (Same.refl _) rfl rfl fun b x i s e ob eb => ⟨?_, (R.own e ob).2.1, id⟩, upd_same, m2, m3, m4⟩
  · rw [upd_ne (fun z => by subst z; rw [m2] at e; cases e)]; exact R.sub _ _ e
  · rw [upd_ne (fun z => by subst z; rw [m3] at e; cases e)]; exact R.fr a x e q
  · rw [upd_ne (fun z => by subst z; exact m4 i s e ob)]; exact eb
theorem Rel.guard (R : Rel K c G σ H ρ) (m : Mine c G σ H ρ p ws) : Rel K (c.aside p ws) G σ H ρ := R.guardO m
theorem Mine.nb (R : Rel K c G σ H ρ) (m : Mine c G σ H ρ p ws) : ∀ i, (i, p) ∉ c.B := MineO.nb R m
theorem Rel.unguard (R : Rel K (c.aside p ws) G σ H ρ) (hp : c.H p = none) (hb : ∀ i, (i, p) ∉ c.B) : Rel K c G σ H ρ ∧ Mine c G σ H ρ p ws := R.unguardO hp hb
theorem Rel.poke {vs : List V} (R : Rel K c G σ H ρ) (m : Mine c G σ H ρ p ws) : Rel K c G σ (upd H p (.lst vs)) ρ ∧ Mine c G σ (upd H p (.lst vs)) ρ p vs := R.pokeO m
end
theorem wipe_get (σ : L2.St) : ∀ (vs : List Nat) (i : Nat), (wipe σ vs)[i]? = if i ∈ vs then (if i < σ.length then some none else none) else σ[i]?
  | [], i => by simp [wipe]
  | v :: vs, i => by
    unfold wipe
    by_cases h : v = i
    · subst h
      rw [List.getElem?_set, wipe_length]
      simp
    · rw [List.getElem?_set_ne h, wipe_get σ vs i]
      have : i ∈ v :: vs ↔ i ∈ vs := by simp [Ne.symm h]
      by_cases hi : i ∈ vs
      · rw [if_pos hi, if_pos (this.mpr hi)]
      · rw [if_neg hi, if_neg (fun z => hi (this.mp z))]
theorem wipe_same {σ : L2.St} {vs : List Nat} {j : Nat} {x : V} (hj : j ∈ vs) : wipe ((wipe σ vs).set j (some x)) vs = wipe σ vs := by
  apply List.ext_getElem?
  intro i
  rw [wipe_get, wipe_get, List.length_set, wipe_length]
  by_cases hi : i ∈ vs
  · rw [if_pos hi, if_pos hi]
  · rw [if_neg hi, if_neg hi, List.getElem?_set_ne (fun z => by subst z; exact hi hj), wipe_get, if_neg hi]
def wipeD (ρ : List Sl) : List Nat → List Sl
  | [] => ρ
  | v :: vs => (wipeD ρ vs).set v .no
def backD (ρ ρ2 : List Sl) : List Nat → List Sl
  | [] => ρ2
  | v :: vs => (backD ρ ρ2 vs).set v (ρ.getD v .no)
theorem backD_len (ρ ρ2 : List Sl) : ∀ vs, (backD ρ ρ2 vs).length = ρ2.length
  | [] => rfl
  | v :: vs => by unfold backD; rw [List.length_set, backD_len ρ ρ2 vs]
theorem backD_get (ρ ρ2 : List Sl) : ∀ (vs : List Nat) (i : Nat), (backD ρ ρ2 vs)[i]? = if i ∈ vs then (if i < ρ2.length then some (ρ.getD i .no) else none) else ρ2[i]?
  | [], i => by simp [backD]
  | v :: vs, i => by
    unfold backD
    by_cases h : v = i
    · subst h
      rw [List.getElem?_set, backD_len]
      simp
    · rw [List.getElem?_set_ne h, backD_get ρ ρ2 vs i]
      have : i ∈ v :: vs ↔ i ∈ vs := by simp [Ne.symm h]
      by_cases hi : i ∈ vs
      · rw [if_pos hi, if_pos (this.mpr hi)]
      · rw [if_neg hi, if_neg (fun z => hi (this.mp z))]
section
variable {K : PySem.W.Frag} {bor : List Nat} {c : C0} {G G' : Hp} {σ σ2 : L2.St} {H H' : Hp} {ρ ρ2 : List Sl}
theorem Rel.wiped (R : Rel K c G σ H ρ) : ∀ {vs : List Nat}, (∀ v ∈ vs, v ∉ c.bor) → Rel K c G (wipe σ vs) H (wipeD ρ vs)
  | [], _ => R
  | v :: vs, h => (Rel.wiped R (vs := vs) fun v' hv => h v' (List.mem_cons_of_mem _ hv)).forget (fun a z => h v List.mem_cons_self (R.bs _ _ z)) none

theorem Rel.unwiped {vs : List Nat} (R : Rel K c G σ H ρ) (R2 : Rel K c G' σ2 H' ρ2) (s : Same G G') (hw : wipe σ2 vs = wipe σ vs) (hn : (vs.all fun v => plainAt v ρ) = true) (hb : ∀ v ∈ vs, v ∉ c.bor) : Rel K c G' σ H' (backD ρ ρ2 vs) := by
  have hl : ρ2.length = ρ.length := by
    have := congrArg List.length hw
    rw [wipe_length, wipe_length, R2.len, R.len] at this
    exact this
  have hσ : ∀ i, i ∉ vs → σ2[i]? = σ[i]? := fun i hi => by
    have := congrArg (fun l => l[i]?) hw
    simp only [wipe_get, if_neg hi] at this
    exact this
  have now : ∀ (i : Nat) (sl : Sl) (b : Addr) (o : Option (Option V)), (backD ρ ρ2 vs)[i]? = some sl → Owns G' sl o b → i ∉ vs ∧ ρ2[i]? = some sl := fun i sl b o e ob => by
    rw [backD_get] at e
    by_cases hi : i ∈ vs
    · rw [if_pos hi] at e
      split at e
      · injection e with e
        have q := List.all_eq_true.mp hn i hi
        rw [List.getD_eq_getElem?_getD] at e
        cases q2 : ρ[i]? with
        | none => rw [q2] at e; subst e; exact ob.elim
        | some s => rw [q2] at e; have e : s = sl := e; subst e; exact absurd ob (plain_at q q2)
      · cases e
    · rw [if_neg hi] at e; exact ⟨hi, e⟩
  refine ⟨R2.sub, R2.fr, R2.gh, by rw [backD_len, hl]; exact R.len, fun i sl e => ?_, fun i j sl sl' b hij e1 e2 o1 o2 => ?_, fun i a z => ?_, R2.bs⟩
  · rw [backD_get] at e
    by_cases hi : i ∈ vs
    · rw [if_pos hi] at e
      split at e
      · injection e with e
        have q3 := List.all_eq_true.mp hn i hi
        rw [List.getD_eq_getElem?_getD] at e
        cases q : ρ[i]? with
        | none => rw [q] at e; subst e; trivial
        | some sl' =>
          rw [q] at e
          have e : sl' = sl := e
          subst e
          have ok := R.sl i _ q
          cases sl' with
          | no => trivial
          | fn f => exact ok
          | sh d => obtain ⟨v, f1, f2⟩ := ok; exact ⟨v, f1, dpS s f2⟩
          | ow ys => obtain ⟨a, _, e1, _⟩ := ok; exact absurd (show Owns G (.ow ys) (σ[i]?) a from e1) (plain_at q3 q)
          | od ys => obtain ⟨a, _, e1, _⟩ := ok; exact absurd (show Owns G (.od ys) (σ[i]?) a from e1) (plain_at q3 q)
          | lk a u ks ys => obtain ⟨e1, _⟩ := ok; exact absurd (show Owns G (.lk a u ks ys) (σ[i]?) a from e1) (plain_at q3 q)
          | tp ys => unfold plainAt at q3; rw [q] at q3; cases q3
      · cases e
    · rw [if_neg hi] at e
      have ok := R2.sl i sl e
      rw [hσ i hi] at ok
      exact ok
  · obtain ⟨h1, f1⟩ := now i sl b _ e1 o1
    obtain ⟨h2, f2⟩ := now j sl' b _ e2 o2
    rw [← hσ i h1] at o1
    rw [← hσ j h2] at o2
    exact R2.sepO i j sl sl' b hij f1 f2 o1 o2
  · have hi : i ∉ vs := fun z2 => hb i z2 (R2.bs _ _ z)
    obtain ⟨f1, ys, f2⟩ := R2.bd i a z
    rw [hσ i hi] at f1
    exact ⟨f1, ys, by rw [backD_get, if_neg hi]; exact f2⟩
theorem mineO_back {vs : List Nat} {p : Addr} {o : HO} (m : MineO c G' σ2 H' ρ2 p o) (R : Rel K c G σ H ρ) (hw : wipe σ2 vs = wipe σ vs) (hn : (vs.all fun v => plainAt v ρ) = true) : MineO c G' σ H' (backD ρ ρ2 vs) p o := by
  refine ⟨m.1, m.2.1, m.2.2.1, fun j sl e z => ?_⟩
  rw [backD_get] at e
  by_cases hi : j ∈ vs
  · rw [if_pos hi] at e
    split at e
    · injection e with e
      have q := List.all_eq_true.mp hn j hi
      rw [List.getD_eq_getElem?_getD] at e
      cases q2 : ρ[j]? with
      | none => rw [q2] at e; subst e; exact z.elim
      | some s => rw [q2] at e; have e : s = sl := e; subst e; exact plain_at q q2 z
    · cases e
  · rw [if_neg hi] at e
    refine m.2.2.2 j sl e ?_
    have := congrArg (fun l => l[j]?) hw
    simp only [wipe_get, if_neg hi] at this
    rw [this]; exact z
theorem mine_back {vs : List Nat} {p : Addr} {ws : List V} (m : Mine c G' σ2 H' ρ2 p ws) (R : Rel K c G σ H ρ) (hw : wipe σ2 vs = wipe σ vs) (hn : (vs.all fun v => plainAt v ρ) = true) : Mine c G' σ H' (backD ρ ρ2 vs) p ws := mineO_back m R hw hn
theorem wipeD_out : ∀ (us : List Nat) {ρ : List Sl} {i : Nat}, i ∉ us → (wipeD ρ us)[i]? = ρ[i]?
  | [], _, _, _ => rfl
  | u :: us, ρ, i, hu => by
    unfold wipeD
    rw [List.getElem?_set_ne (fun z => hu (by rw [z]; exact List.mem_cons_self)), wipeD_out us fun z => hu (List.mem_cons_of_mem _ z)]
theorem wipeD_in : ∀ (us : List Nat) {ρ : List Sl} {i : Nat} {s : Sl}, i ∈ us → (wipeD ρ us)[i]? = some s → s = .no
  | [], _, _, _, hu, _ => absurd hu (List.not_mem_nil)
  | u :: us, ρ, i, s, hu, e => by
    have e : ((wipeD ρ us).set u .no)[i]? = some s := e
    by_cases h : u = i
    · subst h
      by_cases hl : u < (wipeD ρ us).length
      · rw [List.getElem?_set_self hl] at e; exact (Option.some.inj e).symm
      · rw [List.getElem?_eq_none (by rw [List.length_set]; omega)] at e; exact absurd e (by simp)
    · rw [List.getElem?_set_ne h] at e
      rcases List.mem_cons.mp hu with z | z
      · exact absurd z.symm h
      · exact wipeD_in us z e

theorem mineO_wipe {vs : List Nat} {p : Addr} {o : HO} {G : Hp} {H : Hp} (m : MineO c G σ H ρ p o) : MineO c G (wipe σ vs) H (wipeD ρ vs) p o :=
  ⟨m.1, m.2.1, m.2.2.1, fun i s e z => by
    by_cases hi : i ∈ vs
    · cases wipeD_in vs hi e; exact z
    · rw [wipeD_out vs hi] at e
      rw [wipe_get, if_neg hi] at z
      exact m.2.2.2 i s e z⟩
theorem mineO_set {p : Addr} {o : HO} {G : Hp} {H : Hp} {j : Nat} {x : Option V} {s0 : Sl} (m : MineO c G σ H ρ p o) (h : ∀ q, ¬ Owns G s0 q p) : MineO c G (σ.set j x) H (ρ.set j s0) p o :=
  ⟨m.1, m.2.1, m.2.2.1, fun i s e z => by
    by_cases hi : i = j
    · subst hi
      have hl : i < ρ.length := by
        have := (List.getElem?_eq_some_iff.mp e).1
        simpa using this
      rw [List.getElem?_set_self hl] at e
      injection e with e; subst e
      exact h _ z
    · rw [List.getElem?_set_ne (Ne.symm hi)] at e z
      exact m.2.2.2 i s e z⟩
end
def compD (j : Nat) (vs : List Nat) (C : TDT) (A : TDE) (Q : List D → List Sl → Prop) : List D → List D → List Sl → Prop
  | [], acc, ρ => Q acc ρ
  | d :: ds, acc, ρ => (vs.all fun v => plainAt v ρ) = true ∧ C ((wipeD ρ vs).set j (.sh d)) fun b ρ1 =>
      (b = true → A ρ1 fun y ρ2 => acc.length < 100000 ∧ compD j vs C A Q ds (acc ++ [y]) (backD ρ ρ2 vs)) ∧ (b = false → compD j vs C A Q ds acc (backD ρ ρ1 vs))
section
variable {K : PySem.W.Frag} {bor : List Nat} {tt : TT} {te : TE} {C : TDT} {A : TDE}
theorem comp_turn {c : C0} {G0 : Hp} {σ : L2.St} {H : Hp} {ρ : List Sl} {j : Nat} {vs : List Nat} {Qd : List D → List Sl → Prop} {d : D} {ds acc : List D} {x : V} {L : Addr} {ws : List V} {Nx : Hp → Prop}
    (hc : c.bor = bor) (hj : j ∈ vs) (hv : ∀ v ∈ vs, v ∉ bor) (ht : LT K bor tt C) (he : LE K bor te A) (R : Rel K c G0 σ H ρ) (m : Mine c G0 σ H ρ L ws) (pa : DqAll K G0 ws acc) (px : Dq K G0 x d)
    (q : compD j vs C A Qd (d :: ds) acc ρ)
    (next : ∀ G' H' ρ' acc' ws', Same G0 G' → Rel K c G' σ H' ρ' → Mine c G' σ H' ρ' L ws' → DqAll K G' ws' acc' → compD j vs C A Qd ds acc' ρ' → Nx H') :
    wipe ((wipe σ vs).set j (some x)) vs = wipe σ vs ∧ tt ((wipe σ vs).set j (some x)) H fun b H3 =>
      if b = true then te ((wipe σ vs).set j (some x)) H3 fun y H4 => ∃ acc, H4 L = some (.lst acc) ∧ acc.length < sizeLine ∧ Nx (upd H4 L (.lst (acc ++ [y]))) else Nx H3 := by
  subst hc
  have hw : wipe ((wipe σ vs).set j (some x)) vs = wipe σ vs := wipe_same hj
  refine ⟨hw, ?_⟩
  obtain ⟨hn, q⟩ := q
  have nb := m.nb R
  have Rw := R.wiped (vs := vs) hv
  have mw : Mine c G0 (wipe σ vs) H (wipeD ρ vs) L ws := mineO_wipe m
  have Rx : Rel K c G0 ((wipe σ vs).set j (some x)) H ((wipeD ρ vs).set j (.sh d)) := Rw.store (fun a z => hv j hj (R.bs _ _ z)) px
  have mx : Mine c G0 ((wipe σ vs).set j (some x)) H ((wipeD ρ vs).set j (.sh d)) L ws := mineO_set mw fun _ z => z
  have Rg := Rx.guard mx
  refine ht (c := c.aside L ws) rfl Rg q fun b H3 G3 ρ3 s3 R3 ⟨q1, q2⟩ => ?_
  cases b with
  | true =>
    refine iteT (he (c := c.aside L ws) rfl R3 (q1 rfl) fun y H4 G4 ρ4 yd s4 R4 py ⟨hz, q4⟩ => ?_)
    obtain ⟨R5, m5⟩ := R4.unguard m.2.2.1 nb
    have s04 : Same G0 G4 := s3.trans s4
    refine ⟨ws, m5.1, sz5 (by rw [dps_len pa]; exact hz), ?_⟩
    have R6 := R.unwiped R5 s04 hw hn hv
    have m6 := mine_back m5 R hw hn
    obtain ⟨R7, m7⟩ := R6.poke (vs := ws ++ [y]) m6
    exact next G4 _ _ _ _ s04 R7 m7 (dps_app (dpsS s04 pa) (.cons py .nil)) q4
  | false =>
    refine iteF ?_
    obtain ⟨R5, m5⟩ := R3.unguard m.2.2.1 nb
    have R6 := R.unwiped R5 s3 hw hn hv
    have m6 := mine_back m5 R hw hn
    exact next G3 H3 _ _ _ s3 R6 m6 (dpsS s3 pa) (q2 rfl)
def dCompL (j : Nat) (vs : List Nat) (S : TDE) (C : TDT) (A : TDE) : TDL := fun ρ Q => S ρ fun d ρ1 => ∃ ds, d = .list ds ∧ compD j vs C A Q ds [] ρ1
theorem ll_compL {tl : TE} {S : TDE} {j : Nat} {vs : List Nat} (hj : j ∈ vs) (hv : ∀ v ∈ vs, v ∉ bor) (hs : LE K bor tl S) (ht : LT K bor tt C) (he : LE K bor te A) : LL K bor (tLc (iList K tl) (gName j) tt te vs) (dCompL j vs S C A) :=
  fun {c G σ H ρ Qd Q} hc R q k => hs hc R q fun v H1 G1 ρ1 d s1 R1 p1 ⟨ds, e, q1⟩ => by
    subst e
    cases p1 with
    | @lst a xs _ h1 h2 =>
      refine ⟨a, rfl, ⟨xs, rdL (rdS R1.sub h1)⟩, fun L hL => ?_⟩
      have m0 := mine_new (vs := []) R1 hL
      have R0 := R1.grow (grow_own (o := .lst []) R1.sub hL)
      refine lc_list (K := K) (a := a) (xs := xs) (fun i H' => ∃ G' ρ' acc ws, Same G1 G' ∧ Rel K c G' σ H' ρ' ∧ Mine c G' σ H' ρ' L ws ∧ DqAll K G' ws acc ∧ compD j vs C A Qd (ds.drop i) acc ρ') ⟨G1, ρ1, [], [], Same.refl _, R0, m0, .nil, q1⟩ ?_ ?_ ?_
      · rintro i H' _ ⟨G', ρ', acc, ws, s, R', _⟩
        exact rdL (rdS (s.trans R'.sub) h1)
      · rintro i x H' hx ⟨G', ρ', acc, ws, s, R', m', pa, q'⟩
        obtain ⟨d, hd, p⟩ := dps_get h2 hx
        have hi : i < ds.length := (List.getElem?_eq_some_iff.mp hd).1
        have ed : ds.drop i = d :: ds.drop (i + 1) := by
          rw [List.drop_eq_getElem_cons hi]
          have := (List.getElem?_eq_some_iff.mp hd).2
          rw [this]
        rw [ed] at q'
        exact comp_turn hc hj hv ht he R' m' pa (dpS s p) q' fun G2 H2 ρ2 acc2 ws2 s2 R2 m2 pa2 q2 => ⟨G2, ρ2, acc2, ws2, s.trans s2, R2, m2, pa2, q2⟩
      · rintro H' ⟨G', ρ', acc, ws, s, R', m', pa, q'⟩
        rw [dps_len h2, List.drop_length] at q'
        exact k L ws H' G' ρ' acc (s1.trans s) R' m' pa q'
def dCompT (j : Nat) (vs : List Nat) (S : TDE) (C : TDT) (A : TDE) : TDL := fun ρ Q => S ρ fun d ρ1 => ∃ ds, d = .tuple ds ∧ compD j vs C A Q ds [] ρ1
theorem ll_compT {tl : TE} {S : TDE} {j : Nat} {vs : List Nat} (hj : j ∈ vs) (hv : ∀ v ∈ vs, v ∉ bor) (hs : LE K bor tl S) (ht : LT K bor tt C) (he : LE K bor te A) : LL K bor (tLc (iTup K tl) (gName j) tt te vs) (dCompT j vs S C A) :=
  fun {c G σ H ρ Qd Q} hc R q k => hs hc R q fun v H1 G1 ρ1 d s1 R1 p1 ⟨ds, e, q1⟩ => by
    subst e
    cases p1 with
    | @tup a xs _ h1 h2 =>
      refine ⟨a, rfl, ⟨xs, (tupS R1.sub h1).sq⟩, fun L hL => ?_⟩
      have m0 := mine_new (vs := []) R1 hL
      have R0 := R1.grow (grow_own (o := .lst []) R1.sub hL)
      refine lc_tup (K := K) (a := a) (xs := xs) (fun i H' => ∃ G' ρ' acc ws, Same G1 G' ∧ Rel K c G' σ H' ρ' ∧ Mine c G' σ H' ρ' L ws ∧ DqAll K G' ws acc ∧ compD j vs C A Qd (ds.drop i) acc ρ') ⟨G1, ρ1, [], [], Same.refl _, R0, m0, .nil, q1⟩ ?_ ?_ ?_
      · rintro i H' _ ⟨G', ρ', acc, ws, s, R', _⟩
        exact (tupS (s.trans R'.sub) h1).sq
      · rintro i x H' hx ⟨G', ρ', acc, ws, s, R', m', pa, q'⟩
        obtain ⟨d, hd, p⟩ := dps_get h2 hx
        have hi : i < ds.length := (List.getElem?_eq_some_iff.mp hd).1
        have ed : ds.drop i = d :: ds.drop (i + 1) := by
          rw [List.drop_eq_getElem_cons hi]
          have := (List.getElem?_eq_some_iff.mp hd).2
          rw [this]
        rw [ed] at q'
        exact comp_turn hc hj hv ht he R' m' pa (dpS s p) q' fun G2 H2 ρ2 acc2 ws2 s2 R2 m2 pa2 q2 => ⟨G2, ρ2, acc2, ws2, s.trans s2, R2, m2, pa2, q2⟩
      · rintro H' ⟨G', ρ', acc, ws, s, R', m', pa, q'⟩
        rw [dps_len h2, List.drop_length] at q'
        exact k L ws H' G' ρ' acc (s1.trans s) R' m' pa q'
def dCompR (j : Nat) (vs : List Nat) (S : TDA) (C : TDT) (A : TDE) : TDL := fun ρ Q => S ρ fun ns ρ1 => ∃ n, ns = [.int n] ∧ n < 2 ^ 62 ∧ -(2 ^ 62) ≤ n ∧ compD j vs C A Q (rangeD 0 n.toNat) [] ρ1
theorem ll_compR {ta : TA} {S : TDA} {j : Nat} {vs : List Nat} (hj : j ∈ vs) (hv : ∀ v ∈ vs, v ∉ bor) (hs : LEs K bor ta S) (ht : LT K bor tt C) (he : LE K bor te A) : LL K bor (tLc (iRng1 ta) (gName j) tt te vs) (dCompR j vs S C A) :=
  fun {c G σ H ρ Qd Q} hc R q k => hs hc R q fun us H1 G1 ρ1 ds s1 R1 p1 ⟨n, e, n1, n2, q1⟩ => by
    subst e
    cases p1 with
    | cons a b =>
      cases a
      cases b
      refine ⟨n, rfl, n2, n1, fun L hL => ?_⟩
      have m0 := mine_new (vs := []) R1 hL
      have R0 := R1.grow (grow_own (o := .lst []) R1.sub hL)
      refine lc_range (lo := 0) (n := n.toNat) (fun i H' => ∃ G' ρ' acc ws, Same G1 G' ∧ Rel K c G' σ H' ρ' ∧ Mine c G' σ H' ρ' L ws ∧ DqAll K G' ws acc ∧ compD j vs C A Qd ((rangeD 0 n.toNat).drop i) acc ρ') ⟨G1, ρ1, [], [], Same.refl _, R0, m0, .nil, q1⟩ ?_ ?_
      · rintro i H' hi ⟨G', ρ', acc, ws, s, R', m', pa, q'⟩
        rw [rangeD_drop hi] at q'
        exact comp_turn hc hj hv ht he R' m' pa (.int _) q' fun G2 H2 ρ2 acc2 ws2 s2 R2 m2 pa2 q2 => ⟨G2, ρ2, acc2, ws2, s.trans s2, R2, m2, pa2, q2⟩
      · rintro H' ⟨G', ρ', acc, ws, s, R', m', pa, q'⟩
        rw [List.drop_of_length_le (by unfold rangeD; simp)] at q'
        exact k L ws H' G' ρ' acc (s1.trans s) R' m' pa q'

def dYes : TDT := fun ρ Q => Q true ρ
theorem lt_yes : LT K bor tYes dYes := fun {c G σ H ρ Qd Q} hc R q k => k true H G ρ (Same.refl _) R q
end
end TN
set_option Elab.async false
set_option linter.all false
set_option maxRecDepth 100000
set_option maxHeartbeats 4000000
set_option autoImplicit false
namespace TN
open PySem PySem.Spec PyProof.Rows
def metS (xs : List Str) : List Str := xs.foldl (fun acc x => if x ∈ acc then acc else acc ++ [x]) []
theorem metS_add (xs : List Str) (x : Str) : metS (xs ++ [x]) = if x ∈ metS xs then metS xs else metS xs ++ [x] := by
  unfold metS; rw [List.foldl_append]; rfl
theorem metS_len (xs : List Str) : (metS xs).length ≤ xs.length := by
  have key : ∀ (ys acc : List Str), (ys.foldl (fun acc x => if x ∈ acc then acc else acc ++ [x]) acc).length ≤ acc.length + ys.length := by
    intro ys
    induction ys with
    | nil => intro acc; simp
    | cons y ys ih =>
      intro acc
      rw [List.foldl_cons]
      refine Nat.le_trans (ih _) ?_
      split <;> simp <;> omega
  have h := key xs []
  rw [List.length_nil, Nat.zero_add] at h
  exact h
section
variable {pg : Program} {wd : World} {A : Around} {R : Result → Shared → Prop} {it : Addr} {fp wr : List Addr} {gg : Array GenState → Array GenState → Prop} {n : Nat} {P : Nat → Value → Prop} {St : Nat → Shared → Prop}
theorem metLoop (W : WalksS pg wd A.in1 it fp wr gg n P St) (S : Addr) (out : S ∉ fp) (xs : List Str) (size : xs.length = n) (texts : ∀ i v, P i v → ∃ t, v = .str (xs.getD i Str.empty) t) (small : n + 1 < scanBound) :
    ∀ (left i : Nat) (s : Shared), i + left = n → St i s →
      s.heap.SetOf (PySem.strKind pg wd) S (fun k => decide (k ∈ metS (xs.take i))) (metS (xs.take i)).length →
      (∀ s', Moved (S :: wr) gg s s' → s'.heap.SetOf (PySem.strKind pg wd) S (fun k => decide (k ∈ metS xs)) (metS xs).length → R (.ok (.ret .none)) s') →
      codeAny (model pg wd) A (.builtin "set.update.loop" ⟨[.ref S, .ref it], []⟩) R s := by
  have outw : S ∉ wr := fun z => out (W.sub _ z)
  have more : ∀ b ∈ wr, b ∈ S :: wr := fun b z => List.mem_cons_of_mem _ z
  have stay : ∀ {s s' : Shared} {T : Str → Bool} {m : Nat}, Moved wr gg s s' → s.heap.SetOf (PySem.strKind pg wd) S T m → s'.heap.SetOf (PySem.strKind pg wd) S T m := by
    rintro s s' T m hm ⟨o, es, ep, tb, e, rest⟩
    exact ⟨o, es, ep, tb, hm.heap S _ outw e, rest⟩
  intro left
  induction left with
  | zero =>
    intro i s hi st hS fin
    have hi : i = n := hi
    rw [hi] at st hS
    rw [← size, List.take_length] at hS
    apply codeAny_builtin PyProof.Rows.F.entry_set_update_loop
    rw [Around.under_plainId PyProof.Rows.F.plain_set_update_loop _]
    show wpAny _ A.in1 (pyNext (.ref it) >>= _) _ _ s
    apply wpAny_bind
    apply W.done s _ _ st
    intro s' hm
    show wpAny _ A.in1 (ret Value.none) _ _ s'
    exact wpAny_pure (fin s' (hm.mono more) (stay hm hS))
  | succ left ih =>
    intro i s hi st hS fin
    have lt : i < n := by omega
    apply codeAny_builtin PyProof.Rows.F.entry_set_update_loop
    rw [Around.under_plainId PyProof.Rows.F.plain_set_update_loop _]
    show wpAny _ A.in1 (pyNext (.ref it) >>= _) _ _ s
    apply wpAny_bind
    apply W.item i s _ _ lt st
    intro v s' hP st' hm
    obtain ⟨t, ew⟩ := texts i v hP
    subst ew
    have hS' := stay hm hS
    have room : (metS (xs.take i)).length + 1 < scanBound := by
      have h1 := metS_len (xs.take i)
      have h2 : (xs.take i).length ≤ n := by rw [List.length_take, size]; exact Nat.min_le_right _ _
      omega
    have item : xs[i]? = some (xs.getD i Str.empty) := by
      rw [List.getD_eq_getElem?_getD, List.getElem?_eq_getElem (by omega)]; rfl
    have next : xs.take (i + 1) = xs.take i ++ [xs.getD i Str.empty] := by rw [List.take_add_one, item]; rfl
    show wpAny _ A.in1 (holding [Value.str (xs.getD i Str.empty) t] (setAdd S (.str (xs.getD i Str.empty) t)) >>= _) _ _ s'
    apply wpAny_bind
    apply wpAny_holding
    unfold setAdd
    apply wpAny_holding
    apply wpAny_bind
    apply (PySem.strKind pg wd).pyHash (k := xs.getD i Str.empty) (strKind_is _ _ _ _)
    apply wpAny_setAddHashed_of (knd := PySem.strKind pg wd) (s := { s' with toks := s'.toks + 1 }) (strKind_is _ _ _ _) rfl hS' room
    intro h' but hS2
    have hS3 : h'.SetOf (PySem.strKind pg wd) S (fun k => decide (k ∈ metS (xs.take (i + 1)))) (metS (xs.take (i + 1))).length := by
      obtain ⟨x, ex⟩ : ∃ x, x = xs.getD i Str.empty := ⟨_, rfl⟩
      rw [← ex] at hS2 next
      refine PyProof.Rows.SetOf_congr hS2 (fun k => ?_) ?_
      · rw [next, metS_add]
        by_cases hin : x ∈ metS (xs.take i)
        · rw [if_pos hin]
          by_cases ek : k = x
          · rw [ek]; simp [hin]
          · simp [ek]
        · rw [if_neg hin]
          simp [List.mem_append, List.mem_singleton]
      · rw [next, metS_add]
        by_cases hin : x ∈ metS (xs.take i)
        · rw [if_pos hin]; simp [hin]
        · rw [if_neg hin]; simp [hin]
    refine wpAny_pure ⟨plainId_quiet PyProof.Rows.F.plain_set_update_loop _, ih (i + 1) _ (by omega) ?_ hS3 fun s'' hm2 hS4 => ?_⟩
    · apply W.frame _ s' _ _ st' (Nat.le_succ _)
      intro b hb o e
      rw [but.2 b (fun z : b = S => out (z ▸ hb))]
      exact e
    · refine fin s'' (Moved.trans W.gtrans ((hm.mono more).then_heap (Nat.le_succ _) ?_) hm2) hS4
      intro b o hb e
      rw [but.2 b (fun z : b = S => hb (by rw [z]; exact List.mem_cons_self))]
      exact e
end
section
variable {pg : Program} {wd : World} {A : Around} {E : Value → Shared → Prop} {s : Shared}
theorem setTexts {l : Addr} {items : Array Value} {xs : List Str} {Q : Value → Shared → Prop} (calm : A.handled = none) (tup : s.heap.IsTuple l items) (are : PyProof.Rows.StrsAre items.toList xs) (small : xs.length + 1 < scanBound)
    (fin : ∀ (h' : Heap) (tk : Nat), h'.SetOf (PySem.strKind pg wd) s.heap.objs.size (fun k => decide (k ∈ metS xs)) (metS xs).length → (∀ b o, b < s.heap.objs.size → s.heap.get? b = some o → h'.get? b = some o) →
      Q (.ref s.heap.objs.size) { s with heap := h', toks := tk }) : wpAny (model pg wd) A (call (.type "set") [.ref l]) Q E s := by
  obtain ⟨cc, tail, order⟩ := PySem.F.called_set.mro
  have made := PySem.F.called_set.made
  have below := PySem.F.called_set.sub
  have notT := PySem.F.called_set.notType
  have can := PySem.F.called_set.canCreate
  have checked := PySem.F.typeCall_set_1 (.ref l)
  apply wpAny_call
  apply codeAny_of_tree
  show wpAny _ _ (callAny (.type "set") _) _ _ _
  refine wpAny_pure ⟨Code.quiet_builtin _ (by decide +kernel), ?_⟩
  apply codeAny_builtin PySem.F.entry_type_call
  rw [Around.under_plain (weight_type_call_type "set" [.ref l] []) rfl]
  repeat (any_goals (first | assumption | wp_step))
  have new : ∀ led : Bool, (s.heap.push { cls := .type "set", dict := none, data := .set #[] 0 (.fresh 0 0 led) }).get? s.heap.objs.size = some { cls := .type "set", dict := none, data := .set #[] 0 (.fresh 0 0 led) } := fun led => Heap.get?_push_size _ rfl
  refine codeAny_mono (code_set_new_1 (.ref l) (E := E) (Q₁ := fun v s1 => ∃ led : Bool, v = .ref s.heap.objs.size ∧ s1 = { s with heap := s.heap.push { cls := .type "set", dict := none, data := .set #[] 0 (.fresh 0 0 led) } })
    fun led => ⟨led, rfl, rfl⟩) ?_
  intro r s1 hr
  match r, hr with
  | .error e, hr => exact hr
  | .ok .next, hr => exact hr.elim
  | .ok .brk, hr => exact hr.elim
  | .ok .cont, hr => exact hr.elim
  | .ok (.ret v), hr =>
    obtain ⟨led, rfl, rfl⟩ := hr
    have here := new led
    have isSet : Shared.TypeIs { s with heap := s.heap.push { cls := .type "set", dict := none, data := .set #[] 0 (.fresh 0 0 led) } } (.ref s.heap.objs.size) "set" := ⟨_, here, rfl⟩
    have initL := PySem.F.called_set.init.lookup
    have initB := PySem.F.called_set.init.bind (.ref s.heap.objs.size)
    repeat (any_goals (first | assumption | wp_step))
    refine codeAny_mono (codeAny_call_builtin (R := wants (fun v s2 => v = .none ∧ ∃ h' tk, s2 = { s with heap := h', toks := tk } ∧ h'.SetOf (PySem.strKind pg wd) s.heap.objs.size (fun k => decide (k ∈ metS xs)) (metS xs).length ∧
      (∀ b o, b < s.heap.objs.size → s.heap.get? b = some o → h'.get? b = some o)) E) PySem.F.called_set.init.plain PySem.F.entry_set_init (check_set_init_1 isSet ?_)) ?_
    · obtain ⟨⟨oc, od, odt, osl⟩, e1, e2, m, e3⟩ := tup
      simp only at e2 e3
      subst e2; subst e3
      have stands : (s.heap.push { cls := .type "set", dict := none, data := .set #[] 0 (.fresh 0 0 led) }).get? l = some { cls := .type "tuple", dict := od, data := .seq items m, slots := osl } := Heap.get?_push_of_some _ e1
      have sub1 : isSubtype (.type "tuple") (.type "set") = pure false := by rw [isSubtype_type]; kernel_rfl
      have sub2 : isSubtype (.type "tuple") (.type "frozenset") = pure false := by rw [isSubtype_type]; kernel_rfl
      have notD : (Value.type "tuple" == Value.type "dict") = false := by decide
      have tup1 : (s.heap.push { cls := .type "set", dict := none, data := .set #[] 0 (.fresh 0 0 led) }).IsTuple l items := ⟨_, stands, rfl, m, rfl⟩
      unfold Builtin.«set.__init__» noKeywords Builtin.Frozenset.updateFrom
      generalize hPI : pyIter = PI
      wp_walk
      subst hPI
      apply wpAny_pyIter_tuple tup1
      apply wpAny_bind
      apply wpAny_runValue
      have lsz : l < s.heap.objs.size := Heap.lt_size e1
      have calm3 : A.in1.in1.in1.handled = none := by simp [calm]
      have apart : l ≠ (s.heap.push { cls := .type "set", dict := none, data := .set #[] 0 (.fresh 0 0 led) }).objs.size := by
        rw [Heap.size_push]; exact Nat.ne_of_lt (Nat.lt_succ_of_lt lsz)
      have outS : s.heap.objs.size ∉ [(s.heap.push { cls := .type "set", dict := none, data := .set #[] 0 (.fresh 0 0 led) }).objs.size, l] := by
        rw [Heap.size_push]
        intro z
        rcases List.mem_cons.mp z with z | z
        · exact Nat.ne_of_lt (Nat.lt_succ_self _) z
        · rw [List.mem_singleton] at z
          exact Nat.ne_of_gt lsz z
      have size : xs.length = items.size := by
        have := PyProof.Rows.StrsAre.len_eq are
        rw [Array.length_toList] at this
        exact this.symm
      have texts : ∀ (i : Nat) (v : Value), items[i]? = some v → ∃ t, v = .str (xs.getD i Str.empty) t := fun i v e => SS.strs_at are i v (by rw [Array.getElem?_toList]; exact e)
      refine metLoop ((Walks.tuple calm3 _ l apart items).toS) s.heap.objs.size outS xs size texts (by omega) items.size 0 _ (by omega) ⟨⟨_, Heap.get?_push_size _ rfl, rfl, rfl⟩, tup1.push _⟩ ?_ ?_
      · have at2 : ((s.heap.push { cls := .type "set", dict := none, data := .set #[] 0 (.fresh 0 0 led) }).push { cls := .type "tuple_iterator", data := .fields #[.ref l, .int 0 0] }).get? s.heap.objs.size
            = some { cls := .type "set", dict := none, data := .set #[] 0 (.fresh 0 0 led) } := Heap.get?_push_of_some _ here
        exact PyProof.Rows.SetOf_congr ((PyProof.Rows.setObjOf_fresh (knd := PySem.strKind pg wd) led).setOf at2 (by unfold scanBound; omega)) (fun _ => rfl) rfl
      · rintro ⟨h', g', d', tk', os'⟩ hm hS'
        obtain rfl : g' = s.gens := hm.gens
        obtain rfl : d' = s.drawn := hm.drawn
        obtain rfl : os' = s.os := hm.os
        show wpAny _ _ _ _ _ _
        refine wpAny_pure ?_
        show wpAny _ _ (ret Value.none) _ _ _
        refine wpAny_pure ⟨rfl, h', tk', rfl, hS', fun b o hb e => ?_⟩
        refine hm.heap b o (fun z => ?_) (Heap.get?_push_of_some _ (Heap.get?_push_of_some _ e))
        rcases List.mem_cons.mp z with z | z
        · exact Nat.ne_of_lt hb z
        · rw [List.mem_singleton, Heap.size_push] at z
          exact Nat.ne_of_lt (Nat.lt_succ_of_lt hb) z
    · intro r2 s2 hr2
      match r2, hr2 with
      | .error e, hr2 => exact hr2
      | .ok .next, hr2 => exact hr2.elim
      | .ok .brk, hr2 => exact hr2.elim
      | .ok .cont, hr2 => exact hr2.elim
      | .ok (.ret v), hr2 =>
        obtain ⟨rfl, h', tk, rfl, hS', old⟩ := hr2
        repeat (any_goals (first | assumption | wp_step))
        exact fin _ _ hS' old
end
end TN
set_option Elab.async false
set_option linter.all false
set_option maxRecDepth 100000
set_option maxHeartbeats 4000000
set_option autoImplicit false
namespace TN
open PySem PySem.Spec PyProof.Rows
section
variable {pg : Program} {wd : World} {A : Around} {E : Value → Shared → Prop} {s : Shared}
abbrev gathered (h : Heap) (vs : List Value) : Heap := (h.push (seqObj "list" #[] 0)).update h.objs.size (Obj.mapSeq (· ++ vs.toArray))
theorem gatherT {l : Addr} {vs : List Value} {Q : List Value → Shared → Prop} (tup : s.heap.IsTuple l vs.toArray) (small : vs.length ≤ sizeLine) (fin : Q vs { s with heap := gathered s.heap vs }) :
    wpAny (model pg wd) A (collect (.ref l)) Q E s := by
  obtain ⟨o, e1, e2, n, e3⟩ := id tup
  have there : (s.heap.push (seqObj "list" #[] 0)).get? l = some o := Heap.get?_push_of_some _ e1
  have fresh : (s.heap.push (seqObj "list" #[] 0)).get? s.heap.objs.size = some (seqObj "list" #[] 0) := Heap.get?_push_size _ rfl
  unfold collect
  apply wpAny_bind
  apply wpAny_runValue
  apply codeAny_builtin entry_proto_collect'
  show wpAny _ _ (do again (.builtin "list.__iadd__" ⟨[← newList [], .ref l], []⟩)) _ _ s
  apply wpAny_bind
  refine wpAny_newList ?_ (Nat.zero_le _)
  refine wpAny_pure ⟨Code.quiet_builtin _ (by decide +kernel), ?_⟩
  apply codeAny_builtin entry_list_iadd'
  show wpAny _ _ (Builtin.List.listExtendWith (.ref s.heap.objs.size) (.ref l) (.ref s.heap.objs.size)) _ _ { s with heap := s.heap.push (seqObj "list" #[] 0) }
  unfold Builtin.List.listExtendWith
  apply wpAny_bind
  refine wpAny_typeOf (v := .ref l) (T := "tuple") ⟨o, there, e2⟩ ?_
  have isT : (Value.type "tuple" == Value.type "tuple") = true := by rfl
  rw [if_pos (by rw [isT]; simp)]
  apply wpAny_bind
  apply listItems_at there e3
  apply wpAny_bind
  apply listItems_at (xs := #[]) (n := 0) fresh rfl
  rw [if_neg (by simp)]
  apply wpAny_bind
  refine listUpdate_at (xs := #[]) (n := 0) fresh rfl ?_ (Nat.zero_le _) ?_
  · refine wpAny_pure ?_
    show wpAny (model pg wd) A (do
      let o ← load s.heap.objs.size
      match o.data with
      | .seq xs _ => pure xs.toList
      | _ => unsupported "internal:collect") Q E { s with heap := gathered s.heap vs }
    apply wpAny_bind
    apply wpAny_load (get?_update_seq fresh _)
    show wpAny _ _ (pure ((#[] : Array Value) ++ vs.toArray).toList) Q E _
    have e : ((#[] : Array Value) ++ vs.toArray).toList = vs := by simp
    rw [e]
    exact wpAny_pure fin
  · show (#[] ++ vs.toArray).size ≤ sizeLine + 1
    simp only [Array.size_append, List.size_toArray, List.length_nil]
    omega
theorem sortedT {l : Addr} {vs : List Value} {xs : List Str} {Q : Value → Shared → Prop} (tup : s.heap.IsTuple l vs.toArray) (are : StrsAre vs xs) (few : vs.length < 64)
    (fin : ∀ (out : Array Value) (ys : List Str), StrsAre out.toList ys → ys.Perm xs → sortedS ys = true → Q (.ref (s.heap.objs.size + 1)) { s with heap := sortedAll s.heap vs out }) :
    wpAny (model pg wd) A (call (.builtin "sorted") [.ref l]) Q E s := by
  apply Calls.call_function_entry kind_sorted plain_sorted entry_sorted (args_sorted1 _)
  unfold Builtin.«sorted»
  apply wpAny_bind (m := checkCount "sorted" 1 1 _)
  apply wpAny_pure
  apply wpAny_bind
  apply gatherT tup (by rw [sizeLine_eq]; omega)
  apply wpAny_bind
  refine wpAny_newList ?_ (by rw [sizeLine_eq]; omega)
  have size : (gathered s.heap vs).objs.size = s.heap.objs.size + 1 := by rw [Heap.size_update, size_push']
  have there : ((gathered s.heap vs).push (seqObj "list" vs.toArray 0)).get? (s.heap.objs.size + 1) = some (seqObj "list" vs.toArray 0) := by
    rw [← size]; exact Heap.get?_push_size _ rfl
  show wpAny _ _ _ _ _ { s with heap := (gathered s.heap vs).push (seqObj "list" vs.toArray 0) }
  rw [size]
  apply wpAny_bind
  apply wpAny_holding
  refine wpAny_call_entry slot_list_sort ⟨_, there, rfl⟩ entry_list_sort ?_ (args_list_sort _)
  refine list_sort_treeK strKind_oneLt there are.keysOf (fun v1 v2 rest e => keyKind_strs (by rw [← e]; exact are)) few fun st hp hs => ⟨_, rfl, ?_⟩
  obtain ⟨ys, h1, h2, h3⟩ := sorted_out_str are hp hs
  exact wpAny_pure ⟨_, rfl, fin _ ys h1 h2 h3⟩
end
end TN
namespace TN
open PySem PySem.Spec PyProof.Rows L2
def leS (a b : Str) : Bool := !decide (b.cps.toList < a.cps.toList)
def sortS (xs : List Str) : List Str := xs.mergeSort leS
theorem str_ext {a b : Str} (h : a.cps.toList = b.cps.toList) : a = b := by
  obtain ⟨x⟩ := a; obtain ⟨y⟩ := b
  have : x = y := by simpa using congrArg List.toArray h
  rw [this]
theorem leS_antisymm {a b : Str} (h1 : leS a b = true) (h2 : leS b a = true) : a = b := by
  unfold leS at h1 h2
  have h1 : ¬ b.cps.toList < a.cps.toList := by simpa using h1
  have h2 : ¬ a.cps.toList < b.cps.toList := by simpa using h2
  exact str_ext (List.le_antisymm h1 h2)
theorem leS_trans (a b c : Str) (h1 : leS a b = true) (h2 : leS b c = true) : leS a c = true := by
  unfold leS at *
  have h1 : ¬ b.cps.toList < a.cps.toList := by simpa using h1
  have h2 : ¬ c.cps.toList < b.cps.toList := by simpa using h2
  have : ¬ c.cps.toList < a.cps.toList := List.le_trans (l₁ := a.cps.toList) (l₂ := b.cps.toList) (l₃ := c.cps.toList) h1 h2
  simpa using this
theorem leS_total (a b : Str) : (leS a b || leS b a) = true := by
  unfold leS
  by_cases h : b.cps.toList < a.cps.toList
  · have : ¬ a.cps.toList < b.cps.toList := fun z => List.lt_asymm h z
    simp [this]
  · simp [h]
theorem rising_pairwise : ∀ {ys : List Str} {p : Str}, risingS p ys = true → (p :: ys).Pairwise (fun a b => leS a b = true)
  | [], p, _ => by simp
  | y :: ys, p, h => by
    have h : (!ltCps y.cps.toList p.cps.toList && risingS y ys) = true := h
    rw [Bool.and_eq_true] at h
    have ih := rising_pairwise h.2
    have hp : leS p y = true := by
      unfold leS
      rw [← ltCps_eq]; exact h.1
    refine List.pairwise_cons.mpr ⟨fun z hz => ?_, ih⟩
    rcases List.mem_cons.mp hz with e | hz
    · rw [e]; exact hp
    · exact leS_trans p y z hp (List.rel_of_pairwise_cons ih hz)
theorem sorted_is {xs ys : List Str} (hp : ys.Perm xs) (hs : sortedS ys = true) : ys = sortS xs := by
  have p1 : ys.Pairwise (fun a b => leS a b = true) := by
    cases ys with
    | nil => exact .nil
    | cons y ys => exact rising_pairwise hs
  have p2 : (sortS xs).Pairwise (fun a b => leS a b = true) := List.pairwise_mergeSort leS_trans leS_total xs
  exact List.Perm.eq_of_pairwise (fun a b _ _ h1 h2 => leS_antisymm h1 h2) p1 p2 (hp.trans (List.mergeSort_perm xs leS).symm)
theorem sortS_perm (xs : List Str) : (sortS xs).Perm xs := List.mergeSort_perm xs leS
theorem sortS_congr {xs ys : List Str} (h : xs.Perm ys) : sortS xs = sortS ys := by
  have p1 : (sortS xs).Pairwise (fun a b => leS a b = true) := List.pairwise_mergeSort leS_trans leS_total xs
  have p2 : (sortS ys).Pairwise (fun a b => leS a b = true) := List.pairwise_mergeSort leS_trans leS_total ys
  exact List.Perm.eq_of_pairwise (fun a b _ _ h1 h2 => leS_antisymm h1 h2) p1 p2 ((sortS_perm xs).trans (h.trans (sortS_perm ys).symm))
end TN
set_option Elab.async false
set_option linter.all false
set_option maxRecDepth 100000
set_option maxHeartbeats 2000000
set_option autoImplicit false
namespace TN
open PySem PySem.Spec PyProof.Rows L2
section
variable {X : Cx}
def rSortedA (K : PySem.W.Frag) : List V → Hp → VK → Prop := fun vs H Q => ∃ (a : Addr) (xs : List Str), vs = [V.ref a] ∧ (SqL K H a (xs.map V.str) ∨ SqT K H a (xs.map V.str)) ∧ xs.length < 64 ∧
  ∀ p, H p = none → Q (.ref p) (upd H p (.lst ((sortS xs).map V.str)))
theorem valsStr : ∀ {ys : List Str} {us : List Value}, Vals (ys.map V.str) us → StrsAre us ys
  | [], _, .nil => .nil
  | y :: ys, _, .cons r t => by
    obtain ⟨k, rfl⟩ := r
    exact .cons y k (valsStr t)
theorem strsVals : ∀ {ys : List Str} {us : List Value}, StrsAre us ys → Vals (ys.map V.str) us
  | _, _, .nil => .nil
  | _, _, .cons y k t => .cons ⟨k, rfl⟩ (strsVals t)
theorem call_sortedA : CallR X (.builtin "sorted") (rSortedA X.K) := by
  intro pins s σ H vs us Q I r h
  obtain ⟨a, xs, rfl, hs, few, q⟩ := h
  rcases hs with hs | hs
  · refine cr_sortedS pins s σ H _ us Q I r ⟨a, xs, rfl, hs, few, fun ys p hp hsort fresh => ?_⟩
    rw [sorted_is hp hsort]
    exact q p fresh
  · obtain ⟨u, rfl, ru⟩ := vals1 r
    cases ru
    obtain ⟨its, rv, tup, hz⟩ := I.tuple hs
    have hl : xs.length = its.length := by have := rv.length; simpa using this
    refine sortedT (vs := its) tup (valsStr rv) (by rw [← hl]; exact few) fun out ys h1 h2 h3 => ?_
    obtain ⟨ep, at'⟩ := PyProof.Rows.sortedAll_at s.heap its out
    have hlen : (ys.map V.str).length ≤ sizeLine := by rw [List.length_map, h2.length_eq]; exact small64 few
    have e := sorted_is h2 h3
    subst e
    exact ⟨.ref _, upd H (s.heap.objs.size + 1) (.lst ((sortS xs).map V.str)), I.laid (t' := s.toks) (fun _ _ => PyProof.Rows.sortedAll_old) (Nat.le_succ _) ⟨hlen, out.toList, ep, strsVals h1, at'⟩, rfl,
      q _ (I.hok.fresh (Nat.le_succ _))⟩

def tLenSetT (K : PySem.W.Frag) (ta : TE) : TE := fun σ H Q => ta σ H fun x H1 => ∃ l, ∃ xs : List Str, x = .ref l ∧ SqT K H1 l (xs.map V.str) ∧ xs.length < 4000 ∧ Q (.int (metS xs).length) H1
theorem pe_lenSetT {a : Expr} {ta : TE} {p p2 q pos : Pos} (hc : X.calm = true) (hg : Gl X "len") (hm : X.mg "len" = none) (hg2 : Gl X "set") (hm2 : X.mg "set" = none) (ha : PE X a ta)
    (na : starEach [a] X.env = (false, eval a X.env) :: starEach [] X.env := by rfl) : PE X (.Call (.Name "len" p) [.Call (.Name "set" p2) [a] [] q] [] pos) (tLenSetT X.K ta) := by
  constructor
  intro pins s σ H Q I h
  refine Call_ (ld_blt (pins := pins) (σ := σ) I hg hm PySem.boot_len ?_)
  refine PyProof.Rows.callWith_builtin1 (PyProof.Rows.args_cons ?_ rfl) rfl rfl
  refine Call_ (ld_blt (pins := pins) (σ := σ) I hg2 hm2 boot_set ?_)
  refine PyProof.Rows.callWith_type1 (PyProof.Rows.args_cons ?_ na) na rfl
  apply thn (ha.run pins s σ H _ I h)
  rintro v s1 ⟨x, H1, I1, r1, l, xs, rfl, hs, few, q1⟩
  apply PyProof.Rows.args_nil
  cases r1
  obtain ⟨its, rv, tup, hz⟩ := I1.tuple hs
  refine setTexts (I1.ok.hd hc) tup (by simpa using valsStr rv) (by unfold scanBound; omega) fun h' tk hS old => ?_
  apply PyProof.Rows.args_nil
  obtain ⟨o, es, ep, t, ho, hex, hd, _, _, _, hf, hn⟩ := hS
  have I2 : Inv X pins σ H1 { s1 with heap := h', toks := tk } := I1.kept fun b o e => old b o (Heap.lt_size e) e
  have most := metS_len xs
  refine call_len_set ho hex hd hf (by rw [hn]; omega) ⟨.int (metS xs).length, H1, I2.tok _, ⟨_, by rw [hn]⟩, q1⟩

def rListU (K : PySem.W.Frag) : List V → Hp → VK → Prop := fun xs H Q => (∃ p ys, xs = [V.ref p] ∧ (SqL K H p ys ∨ SqT K H p ys) ∧ ∀ l, H l = none → Q (.ref l) (upd H l (.lst ys))) ∨
  ∃ z : Str, xs = [V.str z] ∧ z.cps.size ≤ 100000 ∧ ∀ l, H l = none → Q (.ref l) (upd H l (.lst (z.cps.toList.map fun c => V.str ⟨#[c]⟩)))
theorem signs_vals {x : Str} : ∀ {its : List Value} {cs : List Nat}, its.length = cs.length → (∀ (i : Nat) (v : Value) (c : Nat), its[i]? = some v → cs[i]? = some c → ∃ t, v = .str ⟨#[c]⟩ t) → Vals (cs.map fun c => V.str ⟨#[c]⟩) its
  | [], [], _, _ => .nil
  | [], _ :: _, h, _ => by simp at h
  | _ :: _, [], h, _ => by simp at h
  | v :: its, c :: cs, h, k => .cons (k 0 v c rfl rfl) (signs_vals (x := x) (by simpa using h) fun i v c h1 h2 => k (i + 1) v c (by simpa using h1) (by simpa using h2))
theorem call_listU (hc : X.calm = true) : CallR X (.type "list") (rListU X.K) := by
  intro pins s σ H xs us Q I r h
  rcases h with h | ⟨z, rfl, hz, q⟩
  · exact call_list_of pins s σ H xs us Q I r h
  · obtain ⟨u, rfl, t, rfl⟩ := vals1 r
    refine PySem.call_list_str (I.ok.hd hc) z t (fun h' tk acc c old at' items => ?_) (Nat.le_trans hz (by decide))
    obtain ⟨sz, each⟩ := items
    have hv : Vals (z.cps.toList.map fun c => V.str ⟨#[c]⟩) acc.toList := by
      refine signs_vals (x := z) (by simpa using sz) fun i v c h1 h2 => ?_
      have h1 : acc[i]? = some v := by rw [← Array.getElem?_toList]; exact h1
      have h2 : z.cps[i]? = some c := by rw [← Array.getElem?_toList]; exact h2
      obtain ⟨c', t', e1, e2⟩ := each i v h1
      rw [h2] at e1
      injection e1 with e1
      exact ⟨t', by rw [e2, e1]⟩
    refine ⟨.ref s.heap.objs.size, upd H s.heap.objs.size (.lst (z.cps.toList.map fun c => V.str ⟨#[c]⟩)), I.laid (t' := tk) old (Nat.le_refl _) ⟨by simp; exact Nat.le_trans hz (by decide), acc.toList, c, hv, by simpa using at'⟩, rfl, q _ (I.hok.fresh (Nat.le_refl _))⟩

theorem call_tupleX : CallR X (.type "tuple") (fun xs H Q => ∃ p ys, xs = [.ref p] ∧ ((SqL X.K H p ys ∧ ∀ (l : Addr) (o : Obj), o.dict = none → H l = none → Q (.ref l) (upd H l (.frz o (.tup ys)))) ∨ (SqT X.K H p ys ∧ Q (.ref p) H))) := by
  intro pins s σ H xs us Q I r h
  obtain ⟨p, ys, rfl, h⟩ := h
  rcases h with ⟨hs, q⟩ | ⟨hs, q⟩
  · obtain ⟨u, rfl, ru⟩ := vals1 r
    cases ru
    obtain ⟨its, rv, pl, hz⟩ := I.list hs
    have e := rv.length
    apply call_tuple_list pl.isList
    · intro h' old
      have I1 : Inv X pins σ H { s with heap := h' } := I.kept (t' := s.toks) old
      exact ⟨.ref h'.objs.size, _, tup_laid I1 rv hz, rfl, q _ _ rfl (I1.hok.fresh (Nat.le_refl _))⟩
  · exact call_tuple_of pins s σ H _ us Q I r ⟨p, ys, rfl, .inr ⟨hs, q⟩⟩

def rRepr (K : PySem.W.Frag) : List V → Hp → VK → Prop := fun xs H Q => ∃ x d, xs = [x] ∧ Dp K H x d ∧ d.showable = true ∧ d.hasDict = false ∧ d.depth ≤ 60 ∧ d.shown.length ≤ sizeLine ∧ (∃ a, x = .ref a) ∧ Q (.str d.shown) H
theorem call_repr (hg : X.A.guards = some []) (hu : X.A.units + 64 < cLine) : CallR X (.builtin "repr") (rRepr X.K) := by
  intro pins s σ H xs us Q I r h
  obtain ⟨x, d, rfl, hd, hs, nd, dp, sz, ⟨a, rfl⟩, q⟩ := h
  obtain ⟨u, rfl, ru⟩ := vals1 r
  cases ru
  obtain ⟨as, rd⟩ := Dp.reads I d _ _ hd rfl
  refine repr_of_reads' (h₀ := s.heap) rd hs (fun z => by rw [nd] at z; cases z) hg (by omega) (fun _ _ e => e) (fun h' t tk old => ?_) sz
  exact ⟨.str d.shown, H, I.kept (t' := tk) old, ⟨_, rfl⟩, q⟩
end
abbrev OC := List D → Option D
def RC (K : PySem.W.Frag) (r : List V → Hp → VK → Prop) (o : OC) : Prop :=
  ∀ ⦃G H : Hp⦄ ⦃vs : List V⦄ ⦃ds : List D⦄ ⦃z : D⦄ ⦃Q : VK⦄, Same G H → Paired (DpM K G H) vs ds → o ds = some z → (∀ u G' H', Grow G H G' H' → Dq K G' u z → Q u H') → r vs H Q
def RCL (K : PySem.W.Frag) (r : List V → Hp → VK → Prop) (o : List D → Option (List D)) : Prop :=
  ∀ ⦃G H : Hp⦄ ⦃vs : List V⦄ ⦃ds : List D⦄ ⦃zs : List D⦄ ⦃Q : VK⦄, Same G H → Paired (DpM K G H) vs ds → o ds = some zs → (∀ a us, H a = none → DqAll K G us zs → Q (.ref a) (upd H a (.lst us))) → r vs H Q
section
variable {K : PySem.W.Frag} {bor : List Nat} {ta : TA} {te : TE} {r : List V → Hp → VK → Prop} {o : OC}
def fCB (o : OC) (f : FA) : FE := fun ρ => match f ρ with
  | some ds => o ds
  | none => none
def dCB (o : OC) (A : TDA) : TDE := fun ρ Q => A ρ fun ds ρ1 => ∃ z, o ds = some z ∧ Q z ρ1
theorem paired_m {G H : Hp} : ∀ {vs : List V} {ds : List D}, DqAll K G vs ds → Paired (DpM K G H) vs ds
  | _, [], h => by cases h; exact .nil
  | _, d :: ds, h => by
    cases h with
    | cons a b => exact .cons (.inl a) (paired_m b)
theorem lp_cb {f : FA} (h : LMs K bor ta f) (hr : RC K r o) : LP K bor (tCB r ta) (fCB o f) := fun {c G σ H ρ d Q} hc R e k => by
  unfold fCB at e
  split at e
  · rename_i ds e1
    exact h hc R e1 fun vs G1 H1 g1 p1 => hr g1.s p1 e fun u G2 H2 g2 p2 => k u G2 H2 (g1.trans g2) p2
  · cases e
theorem le_cb {A : TDA} (h : LEs K bor ta A) (hr : RC K r o) : LE K bor (tCB r ta) (dCB o A) := fun {c G σ H ρ Qd Q} hc R q k =>
  h hc R q fun vs H1 G1 ρ1 ds s1 R1 p1 ⟨z, e, q1⟩ => hr R1.sub (paired_m p1) e fun u G2 H2 g2 p2 => k u H2 G2 ρ1 z (s1.trans g2.g) (R1.grow g2) p2 q1
def oL (o : List D → Option (List D)) : OC := fun ds => (o ds).map .list
theorem RCL.c {o : List D → Option (List D)} (h : RCL K r o) : RC K r (oL o) := fun {G H vs ds z Q} s p e k => by
  unfold oL at e
  cases q : o ds with
  | none => rw [q] at e; cases e
  | some zs =>
    rw [q] at e
    injection e with e; subst e
    refine h s p q fun a us ha pu => ?_
    have g := grow_new (o := .lst us) s ha
    exact k _ _ _ g (.lst (sqU upd_same) (dpsS g.g pu))
def dCBL (o : List D → Option (List D)) (A : TDA) : TDL := fun ρ Q => A ρ fun ds ρ1 => ∃ zs, o ds = some zs ∧ Q zs ρ1
theorem ll_cb {o : List D → Option (List D)} {A : TDA} (h : LEs K bor ta A) (hr : RCL K r o) : LL K bor (tCB r ta) (dCBL o A) := fun {c G σ H ρ Qd Q} hc R q k =>
  h hc R q fun vs H1 G1 ρ1 ds s1 R1 p1 ⟨zs, e, q1⟩ => hr R1.sub (paired_m p1) e fun a us ha pu => k a us _ G1 ρ1 zs s1 (R1.grow (grow_own R1.sub ha)) (mine_new R1 ha) pu q1

def oLen : OC := fun ds => match ds with
  | [.list xs] => some (.int xs.length)
  | [.tuple xs] => some (.int xs.length)
  | [.str z] => if z.length ≤ 100000 then some (.int z.length) else none
  | _ => none
theorem rc_len : RC K (fun xs H Q => ∃ x n, xs = [x] ∧ LenV K x H n ∧ Q (.int n) H) oLen := fun {G H vs ds z Q} s p e k => by
  unfold oLen at e
  split at e
  · injection e with e; subst e
    cases p with
    | cons a b =>
      cases b
      obtain ⟨x, us, rfl, h1, h2⟩ := a.list s
      exact ⟨_, _, rfl, .inl ⟨us, rdL h1, rfl⟩, by rw [dps_len h2]; exact k _ G H (.refl s) (.int _)⟩
  · injection e with e; subst e
    cases p with
    | cons a b =>
      cases b
      obtain ⟨x, us, rfl, h1, h2⟩ := a.tup s
      exact ⟨_, _, rfl, .inr ⟨us, h1, rfl⟩, by rw [dps_len h2]; exact k _ G H (.refl s) (.int _)⟩
  · split at e
    · rename_i hl
      injection e with e; subst e
      cases p with
      | cons a b =>
        cases b
        cases a.str
        exact ⟨_, _, rfl, ⟨Nat.le_trans hl (by decide), rfl⟩, k _ G H (.refl s) (.int _)⟩
    · cases e
  · cases e
def oList : List D → Option (List D) := fun ds => match ds with
  | [.list xs] => some xs
  | [.tuple xs] => some xs
  | [.str z] => if z.cps.size ≤ 100000 then some (z.cps.toList.map fun c => .str ⟨#[c]⟩) else none
  | _ => none
theorem dq_signs {G : Hp} : ∀ cs : List Nat, DqAll K G (cs.map fun c => V.str ⟨#[c]⟩) (cs.map fun c => PyData.str ⟨#[c]⟩)
  | [] => .nil
  | _ :: cs => .cons (.str _) (dq_signs cs)
theorem rc_list : RCL K (rListU K) oList := fun {G H vs ds zs Q} s p e k => by
  unfold oList at e
  split at e
  · injection e with e; subst e
    cases p with
    | cons a b =>
      cases b
      obtain ⟨x, us, rfl, h1, h2⟩ := a.list s
      exact .inl ⟨_, us, rfl, .inl (rdL h1), fun l hl => k l us hl h2⟩
  · injection e with e; subst e
    cases p with
    | cons a b =>
      cases b
      obtain ⟨x, us, rfl, h1, h2⟩ := a.tup s
      exact .inl ⟨_, us, rfl, .inr h1, fun l hl => k l us hl h2⟩
  · split at e
    · rename_i hl
      injection e with e; subst e
      cases p with
      | cons a b =>
        cases b
        cases a.str
        exact .inr ⟨_, rfl, hl, fun l hn => k l _ hn (dq_signs _)⟩
    · cases e
  · cases e
def oTuple : OC := fun ds => match ds with
  | [.list xs] => some (.tuple xs)
  | [.tuple xs] => some (.tuple xs)
  | _ => none
abbrev rTupU (K : PySem.W.Frag) : List V → Hp → VK → Prop := fun xs H Q => ∃ p ys, xs = [.ref p] ∧ ((SqL K H p ys ∧ ∀ (l : Addr) (o : Obj), o.dict = none → H l = none → Q (.ref l) (upd H l (.frz o (.tup ys)))) ∨ (SqT K H p ys ∧ Q (.ref p) H))
theorem rc_tuple : RC K (rTupU K) oTuple := fun {G H vs ds z Q} s p e k => by
  unfold oTuple at e
  split at e
  · injection e with e; subst e
    cases p with
    | cons a b =>
      cases b
      obtain ⟨x, us, rfl, h1, h2⟩ := a.list s
      refine ⟨_, us, rfl, .inl ⟨rdL h1, fun l o hd hl => ?_⟩⟩
      have g := grow_new (o := .frz o (.tup us)) s hl
      exact k _ _ _ g (.tup (.inl ⟨o, upd_same, hd⟩) (dpsS g.g h2))
  · injection e with e; subst e
    cases p with
    | cons a b =>
      cases b
      rcases a with a | ⟨_, _, _, _, e, _⟩
      · cases a with
        | tup h1 h2 => exact ⟨_, _, rfl, .inr ⟨(tupS s h1).sq, k _ G H (.refl s) (.tup h1 h2)⟩⟩
      · cases e
  · cases e
def oMax : OC := fun ds => match ds with
  | [.int i, .int j] => some (.int (if j > i then j else i))
  | _ => none
theorem rc_max : RC K (fun xs H Q => ∃ i j, xs = [.int i, .int j] ∧ Q (.int (if j > i then j else i)) H) oMax := fun {G H vs ds z Q} s p e k => by
  unfold oMax at e
  split at e
  · injection e with e; subst e
    cases p with
    | cons a b =>
      cases b with
      | cons b c => cases c; cases a.int; cases b.int; exact ⟨_, _, rfl, k _ G H (.refl s) (.int _)⟩
  · cases e
def oMin : OC := fun ds => match ds with
  | [.int i, .int j] => some (.int (if j < i then j else i))
  | _ => none
theorem rc_min : RC K (fun xs H Q => ∃ i j, xs = [.int i, .int j] ∧ Q (.int (if j < i then j else i)) H) oMin := fun {G H vs ds z Q} s p e k => by
  unfold oMin at e
  split at e
  · injection e with e; subst e
    cases p with
    | cons a b =>
      cases b with
      | cons b c => cases c; cases a.int; cases b.int; exact ⟨_, _, rfl, k _ G H (.refl s) (.int _)⟩
  · cases e
def oAbs : OC := fun ds => match ds with
  | [.int i] => some (.int (if i < 0 then -i else i))
  | _ => none
theorem rc_abs : RC K (fun xs H Q => ∃ i, xs = [.int i] ∧ Q (.int (if i < 0 then -i else i)) H) oAbs := fun {G H vs ds z Q} s p e k => by
  unfold oAbs at e
  split at e
  · injection e with e; subst e
    cases p with
    | cons a b => cases b; cases a.int; exact ⟨_, rfl, k _ G H (.refl s) (.int _)⟩
  · cases e

def strsOf : List D → Option (List Str)
  | [] => some []
  | .str x :: ds => (strsOf ds).map (x :: ·)
  | _ :: _ => none
theorem strsOf_is : ∀ {ds : List D} {xs : List Str}, strsOf ds = some xs → ds = xs.map PyData.str
  | [], xs, e => by injection e with e; subst e; rfl
  | d :: ds, xs, e => by
    cases d <;> first | (cases e; done) | skip
    rename_i x
    have e : (strsOf ds).map (x :: ·) = some xs := e
    cases q : strsOf ds with
    | none => rw [q] at e; cases e
    | some ys =>
      rw [q] at e
      injection e with e; subst e
      rw [strsOf_is q]; rfl
theorem strsOf_map : ∀ xs : List Str, strsOf (xs.map PyData.str) = some xs
  | [] => rfl
  | x :: xs => by
    show (strsOf (xs.map PyData.str)).map (x :: ·) = some (x :: xs)
    rw [strsOf_map xs]; rfl
theorem dq_strs {G : Hp} : ∀ {xs : List Str} {vs : List V}, DqAll K G vs (xs.map PyData.str) → vs = xs.map V.str
  | [], _, h => by cases h; rfl
  | x :: xs, _, h => by
    cases h with
    | cons a b => cases a; rw [dq_strs b]; rfl
theorem dq_strs' {G : Hp} : ∀ xs : List Str, DqAll K G (xs.map V.str) (xs.map PyData.str)
  | [] => .nil
  | _ :: xs => .cons (.str _) (dq_strs' xs)
def oSorted : List D → Option (List D) := fun ds => match ds with
  | [.list xs] => (strsOf xs).bind fun ys => if ys.length < 64 then some ((sortS ys).map PyData.str) else none
  | [.tuple xs] => (strsOf xs).bind fun ys => if ys.length < 64 then some ((sortS ys).map PyData.str) else none
  | _ => none
theorem rc_sorted : RCL K (rSortedA K) oSorted := fun {G H vs ds zs Q} s p e k => by
  unfold oSorted at e
  split at e
  · rename_i xs
    cases q : strsOf xs with
    | none => rw [q] at e; cases e
    | some ys =>
      rw [q] at e
      have e : (if ys.length < 64 then some ((sortS ys).map PyData.str) else none) = some zs := e
      split at e
      · rename_i few
        injection e with e; subst e
        cases p with
        | cons a b =>
          cases b
          rw [strsOf_is q] at a
          obtain ⟨x, us, rfl, h1, h2⟩ := a.list s
          rw [dq_strs h2] at h1
          exact ⟨x, ys, rfl, .inl (rdL h1), few, fun l hl => k l _ hl (dq_strs' _)⟩
      · cases e
  · rename_i xs
    cases q : strsOf xs with
    | none => rw [q] at e; cases e
    | some ys =>
      rw [q] at e
      have e : (if ys.length < 64 then some ((sortS ys).map PyData.str) else none) = some zs := e
      split at e
      · rename_i few
        injection e with e; subst e
        cases p with
        | cons a b =>
          cases b
          rw [strsOf_is q] at a
          obtain ⟨x, us, rfl, h1, h2⟩ := a.tup s
          rw [dq_strs h2] at h1
          exact ⟨x, ys, rfl, .inr h1, few, fun l hl => k l _ hl (dq_strs' _)⟩
      · cases e
  · cases e
def oLenSet : F1 := fun d => match d with
  | .tuple xs => (strsOf xs).bind fun ys => if ys.length < 4000 then some (.int (metS ys).length) else none
  | _ => none
theorem lp_lenSet {f : FE} (h : LM K bor te f) : LP K bor (tLenSetT K te) (f1 oLenSet f) := fun {c G σ H ρ d Q} hc R e k => by
  unfold f1 at e
  split at e
  · rename_i d1 e1
    unfold oLenSet at e
    split at e
    · rename_i xs
      cases q : strsOf xs with
      | none => rw [q] at e; cases e
      | some ys =>
        rw [q] at e
        have e : (if ys.length < 4000 then some (PyData.int (metS ys).length) else none) = some d := e
        split at e
        · rename_i few
          injection e with e; subst e
          rw [strsOf_is q] at e1
          refine h hc R e1 fun v G1 H1 g1 p1 => ?_
          obtain ⟨x, us, rfl, h1, h2⟩ := p1.tup g1.s
          rw [dq_strs h2] at h1
          exact ⟨x, ys, rfl, h1, few, k _ G1 H1 g1 (.int _)⟩
        · cases e
    · cases e
  · cases e

def blsOf : List D → Option (List Bool)
  | [] => some []
  | .bool x :: ds => (blsOf ds).map (x :: ·)
  | _ :: _ => none
theorem blsOf_is : ∀ {ds : List D} {xs : List Bool}, blsOf ds = some xs → ds = xs.map PyData.bool
  | [], xs, e => by injection e with e; subst e; rfl
  | d :: ds, xs, e => by
    cases d <;> first | (cases e; done) | skip
    rename_i x
    have e : (blsOf ds).map (x :: ·) = some xs := e
    cases q : blsOf ds with
    | none => rw [q] at e; cases e
    | some ys =>
      rw [q] at e
      injection e with e; subst e
      rw [blsOf_is q]; rfl
theorem blsOf_map : ∀ xs : List Bool, blsOf (xs.map PyData.bool) = some xs
  | [] => rfl
  | x :: xs => by
    show (blsOf (xs.map PyData.bool)).map (x :: ·) = some (x :: xs)
    rw [blsOf_map xs]; rfl
theorem dq_bls {G : Hp} : ∀ {xs : List Bool} {vs : List V}, DqAll K G vs (xs.map PyData.bool) → vs = xs.map V.bl
  | [], _, h => by cases h; rfl
  | x :: xs, _, h => by
    cases h with
    | cons a b => cases a; rw [dq_bls b]; rfl
def oAll : OC := fun ds => match ds with
  | [.list xs] => (blsOf xs).map fun bs => .bool (bs.all id)
  | _ => none
theorem rc_all : RC K (rAll K) oAll := fun {G H vs ds z Q} s p e k => by
  unfold oAll at e
  split at e
  · rename_i xs
    cases q : blsOf xs with
    | none => rw [q] at e; cases e
    | some bs =>
      rw [q] at e
      injection e with e; subst e
      cases p with
      | cons a b =>
        cases b
        rw [blsOf_is q] at a
        obtain ⟨x, us, rfl, h1, h2⟩ := a.list s
        rw [dq_bls h2] at h1
        exact ⟨x, bs, rfl, rdL h1, k _ G H (.refl s) (.bl _)⟩
  · cases e
def oAny : OC := fun ds => match ds with
  | [.list xs] => (blsOf xs).map fun bs => .bool (bs.any id)
  | _ => none

def oRepr : OC := fun ds => match ds with
  | [.list xs] => if (PyData.list xs).showable = true ∧ (PyData.list xs).hasDict = false ∧ (PyData.list xs).depth ≤ 60 ∧ (PyData.list xs).shown.length ≤ 16777216 then some (.str (PyData.list xs).shown) else none
  | [.tuple xs] => if (PyData.tuple xs).showable = true ∧ (PyData.tuple xs).hasDict = false ∧ (PyData.tuple xs).depth ≤ 60 ∧ (PyData.tuple xs).shown.length ≤ 16777216 then some (.str (PyData.tuple xs).shown) else none
  | _ => none
theorem rc_repr : RC K (rRepr K) oRepr := fun {G H vs ds z Q} s p e k => by
  unfold oRepr at e
  split at e
  · rename_i xs
    split at e
    · rename_i h
      injection e with e; subst e
      cases p with
      | cons a b =>
        cases b
        obtain ⟨x, us, rfl, h1, h2⟩ := a.list s
        exact ⟨_, _, rfl, (Dq.lst h1 (dpsS s h2)).dp h.2.1, h.1, h.2.1, h.2.2.1, Nat.le_trans h.2.2.2 (by decide), ⟨x, rfl⟩, k _ G H (.refl s) (.str _)⟩
    · cases e
  · rename_i xs
    split at e
    · rename_i h
      injection e with e; subst e
      cases p with
      | cons a b =>
        cases b
        obtain ⟨x, us, rfl, h1, h2⟩ := a.tup s
        exact ⟨_, _, rfl, (Dp.tup h1 ((dpsS s h2).dp (by simpa only [PyData.hasDict] using h.2.1))), h.1, h.2.1, h.2.2.1, Nat.le_trans h.2.2.2 (by decide), ⟨x, rfl⟩, k _ G H (.refl s) (.str _)⟩
    · cases e
  · cases e

def tyD : D → String
  | .none => "NoneType"
  | .bool _ => "bool"
  | .int _ => "int"
  | .str _ => "str"
  | .list _ => "list"
  | .tuple _ => "tuple"
  | .dict _ => "dict"
inductive TyF (K : PySem.W.Frag) (H : Hp) : V → String → Prop where
  | base {x : V} {T : String} (h : TyB K H x T) : TyF K H x T
  | fD {a : Addr} {o : Obj} {kvs : List (Key × V)} (h : H a = some (.frz o (.dK kvs))) : TyF K H (.ref a) "dict"
theorem TyF.nb {K : PySem.W.Frag} {H : Hp} {x : V} {T : String} (t : TyF K H x T) : (Value.type T == Value.type "builtin_function_or_method") = false := by
  cases t with
  | base h => exact h.nb
  | fD h => decide +kernel
theorem TyF.is {X : Cx} {pins : List (Addr × Obj)} {σ : L2.St} {H : Hp} {s : Shared} {x : V} {u : Value} {T : String} (I : Inv X pins σ H s) (rx : RelV x u) (t : TyF X.K H x T) : s.TypeIs u T := by
  cases t with
  | base h => exact h.is I rx
  | @fD a o kvs h =>
    cases (show u = Value.ref a from rx)
    obtain ⟨_, _, _, vs, _, p⟩ := (show ObjOk X.prog X.w H s.heap a (.frz o (.dK kvs)) from I.hok a _ h)
    exact p.typeIs
def rTypF (K : PySem.W.Frag) : List V → Hp → VK → Prop := fun xs H Q => ∃ x T, xs = [x] ∧ TyF K H x T ∧ Q (.ty T) H
theorem call_typeF {X : Cx} : CallR X (.type "type") (rTypF X.K) := by
  intro pins s σ H xs us Q I r h
  obtain ⟨x, T, rfl, t, q⟩ := h
  obtain ⟨u, rfl, rx⟩ := vals1 r
  exact call_type_of (t.is I rx) t.nb ⟨.ty T, H, I, rfl, q⟩
theorem tyB {H : Hp} : ∀ {d : D} {v : V}, Dq K H v d → TyF K H v (tyD d)
  | .none, _, h => by cases h; exact .base .non
  | .bool _, _, h => by cases h; exact .base (.bl _)
  | .int _, _, h => by cases h; exact .base (.int _)
  | .str _, _, h => by cases h; exact .base (.str _)
  | .list _, _, h => by
    cases h with
    | lst s a => exact .base (.lst s)
  | .tuple _, _, h => by
    cases h with
    | tup s a => exact .base (.tup s.sq)
  | .dict _, _, h => by
    cases h with
    | dct s a => exact .fD s
abbrev rIsT : R2 := fun x y H Q => ∃ a b, x = V.ty a ∧ y = V.ty b ∧ Q (V.bl (decide (a = b))) H
theorem lp_typeIs {f : FE} {T : String} (h : LM K bor te f) : LP K bor (tOp rIsT (tCB (rTypF K) (tCons te tNil)) (tC (.ty T))) (f1 (fun d => some (.bool (decide (tyD d = T)))) f) := fun {c G σ H ρ d Q} hc R e k => by
  unfold f1 at e
  split at e
  · rename_i d1 e1
    injection e with e; subst e
    exact h hc R e1 fun v G1 H1 g1 p1 => ⟨v, tyD d1, rfl, tyB (p1.now g1.s), _, _, rfl, rfl, k _ G1 H1 g1 (.bl _)⟩
  · cases e
theorem lp_typeNot {f : FE} {T : String} (h : LM K bor te f) : LP K bor (tOp rNT (tCB (rTypF K) (tCons te tNil)) (tC (.ty T))) (f1 (fun d => some (.bool (!decide (tyD d = T)))) f) := fun {c G σ H ρ d Q} hc R e k => by
  unfold f1 at e
  split at e
  · rename_i d1 e1
    injection e with e; subst e
    exact h hc R e1 fun v G1 H1 g1 p1 => ⟨v, tyD d1, rfl, tyB (p1.now g1.s), _, _, rfl, rfl, k _ G1 H1 g1 (.bl _)⟩
  · cases e
end
end TN
set_option Elab.async false
set_option linter.all false
set_option maxRecDepth 100000
set_option maxHeartbeats 2000000
set_option autoImplicit false
namespace TN
open PySem PySem.Spec PyProof.Rows L2
structure Has (P : Program) (w : World) (K : PySem.W.Frag) (mg : Str → Option Value) (base : Heap) (name : Str) (k : Nat) (ps : List Str) (sp : Sp) : Prop where
  ex : ∃ f fd, FnG P w K mg base CX0 k f fd ps sp ∧ mg name = some (.ref f) ∧ PySem.W.keepIn K (.ref f) = true ∧ Binds K fd ps []
theorem has_of {P : Program} {w : World} {K : PySem.W.Frag} {mg : Str → Option Value} {base : Heap} {name : Str} {k : Nat} {ps : List Str} {sp : Sp} {f : Addr} {fd : FuncData} {qual : Str} {st : Stmt}
    (G : FnG P w K mg base CX0 k f fd ps sp) (m : mg name = some (.ref f)) (F : Fun K name qual st f fd)
    (h : ∀ (kV doc pm : Value) (an : Option Addr) (cdv ct : Value) (us : List Value), us.length = ps.length → bindArgs (PySem.W.fnOf name qual (defArgs st) (defBody st) (defScope st) .none kV doc pm an cdv ct) ⟨us, []⟩ = pure (ps.zip us)) :
    Has P w K mg base name k ps sp := ⟨f, fd, G, m, F.kp, F.binds h⟩
theorem Has.up {P : Program} {w : World} {K : PySem.W.Frag} {mg : Str → Option Value} {base : Heap} {name : Str} {j k : Nat} {ps : List Str} {sp : Sp} (h : Has P w K mg base name j ps sp) (le : j ≤ k) : Has P w K mg base name k ps sp := by
  obtain ⟨f, fd, a, b, c, d⟩ := h.ex
  exact ⟨f, fd, a.up le, b, c, d⟩
section
variable {X : Cx} {name : Str} {k : Nat} {ps : List Str} {sp : Sp} {p pos : Pos} {e : Expr} {es : List Expr} {t : TA}
theorem pe_has (h : Has X.prog X.w X.K X.mg X.base name k ps sp) (hg : X.A.guards = some []) (hr : Room k X.A) (hgl : Gl X name) (ha : PA X (e :: es) t) (hdb : (name == ("__debug__" : Str)) = false := by decide)
    (he : starEach (e :: es) X.env = (false, eval e X.env) :: starEach es X.env := by rfl) (hpl : (backTo pos (starEach es X.env)).any (·.1) = false := by rfl) : PE X (.Call (.Name name p) (e :: es) [] pos) (tCall sp [] E0 t) := by
  obtain ⟨f, fd, G, m, kp, b⟩ := h.ex
  exact peG_call G hg hr hgl m kp b pass0 ha hdb he hpl
end
section
variable {X : Cx} {K : PySem.W.Frag} {bor : List Nat}
abbrev rStr (c : Str → Str → Bool) : R2 := fun x y H Q => ∃ i j, x = V.str i ∧ y = V.str j ∧ Q (V.bl (c i j)) H
abbrev rU (c : Int → Int → Bool) (d : Str → Str → Bool) : R2 := fun x y H Q => (rI0 fun i j => V.bl (c i j)) x y H Q ∨ rStr d x y H Q
def oU (c : Int → Int → Bool) (d : Str → Str → Bool) : F2 := fun x y => match x, y with
  | .int i, .int j => some (.bool (c i j))
  | .str i, .str j => some (.bool (d i j))
  | _, _ => none
theorem rb_U {c : Int → Int → Bool} {d : Str → Str → Bool} : RB K (TN.rU c d) (oU c d) := fun {G H v w x y z Q} s p1 p2 e k => by
  unfold oU at e
  split at e
  · injection e with e; subst e
    cases p1.int; cases p2.int
    exact .inl ⟨_, _, rfl, rfl, k _ G H (.refl s) (.bl _)⟩
  · injection e with e; subst e
    cases p1.str; cases p2.str
    exact .inr ⟨_, _, rfl, rfl, k _ G H (.refl s) (.bl _)⟩
  · cases e
theorem op_ltU : OpR X (compareOp .Lt) (TN.rU (fun i j => decide (i < j)) (fun i j => decide (i.cps.toList < j.cps.toList))) := opOr op_lt op_lt_str
theorem op_leU : OpR X (compareOp .LtE) (TN.rU (fun i j => decide (i ≤ j)) (fun i j => !decide (j.cps.toList < i.cps.toList))) := opOr op_le op_le_str
theorem op_gtU : OpR X (compareOp .Gt) (TN.rU (fun i j => decide (j < i)) (fun i j => decide (j.cps.toList < i.cps.toList))) := opOr op_gt op_gt_str
def flatD : D → Bool
  | .list _ | .tuple _ | .dict _ => false
  | _ => true
def eqG : D → D → Bool
  | .none, .none => true
  | .bool a, .bool b => a == b
  | .bool a, .int b => (if a then 1 else 0) == b
  | .int a, .bool b => a == (if b then 1 else 0)
  | .int a, .int b => a == b
  | .str a, .str b => a == b
  | _, _ => false
def memG (d : D) (xs : List D) : Option Bool := if flatD d = true ∧ xs.all flatD = true then some (xs.any fun y => eqG y d) else none
def memD (d : D) (xs : List D) : Option Bool := match d with
  | .str x => ((strsOf xs).map fun ys => decide (x ∈ ys)).or (memG d xs)
  | _ => memG d xs
def oIn (neg : Bool) : F2 := fun d e => match e with
  | .list xs => (memD d xs).map fun b => .bool (if neg then !b else b)
  | .tuple xs => (memD d xs).map fun b => .bool (if neg then !b else b)
  | _ => none
theorem inV_strs (x : Str) : ∀ ys : List Str, inV (.str x) (ys.map V.str) = decide (x ∈ ys)
  | [] => rfl
  | y :: ys => by
    have ih := inV_strs x ys
    unfold inV at ih ⊢
    rw [List.map_cons, List.any_cons, ih]
    show (eqV (.str y) (.str x) || decide (x ∈ ys)) = decide (x ∈ y :: ys)
    have e : eqV (.str y) (.str x) = decide (x = y) := by
      show decide (y = x) = decide (x = y)
      by_cases h : x = y
      · subst h; rfl
      · simp [h, Ne.symm h]
    rw [e]
    by_cases h : x = y
    · subst h; simp
    · simp [h]
theorem flat_strs : ∀ ys : List Str, (ys.map V.str).all flatV = true
  | [] => rfl
  | y :: ys => by rw [List.map_cons, List.all_cons, flat_strs ys]; rfl

def toV : D → V
  | .none => .non
  | .bool b => .bl b
  | .int i => .int i
  | .str x => .str x
  | _ => .non
theorem flat_q {G : Hp} {v : V} {d : D} (p : Dq K G v d) (h : flatD d = true) : v = toV d := by
  cases d with
  | list _ => cases h
  | tuple _ => cases h
  | dict _ => cases h
  | none => cases p; rfl
  | bool _ => cases p; rfl
  | int _ => cases p; rfl
  | str _ => cases p; rfl
theorem flat_v {G H : Hp} {v : V} {d : D} (p : DpM K G H v d) (h : flatD d = true) : flatV v = true ∧ v = toV d := by
  have e : v = toV d := by
    rcases p with p | ⟨_, _, _, _, z, _⟩
    · exact flat_q p h
    · subst z; cases h
  refine ⟨?_, e⟩
  subst e
  cases d <;> first | rfl | cases h
theorem eqV_G {a b : D} (ha : flatD a = true) (hb : flatD b = true) : eqV (toV a) (toV b) = eqG a b := by
  cases a <;> first | (cases ha; done) | skip
  all_goals (cases b <;> first | rfl | (cases hb; done))
theorem mem_all {G H : Hp} {v : V} {d : D} (p : DpM K G H v d) (h : flatD d = true) : ∀ {xs : List D} {vs : List V}, xs.all flatD = true → DqAll K G vs xs → vs.all flatV = true ∧ inV v vs = xs.any fun y => eqG y d
  | [], _, _, hv => by cases hv; exact ⟨rfl, rfl⟩
  | x :: xs, _, hx, hv => by
    rw [List.all_cons, Bool.and_eq_true] at hx
    cases hv with
    | cons a b =>
      obtain ⟨i1, i2⟩ := mem_all p h hx.2 b
      obtain ⟨f1, f2⟩ := flat_v (H := H) (.inl a) hx.1
      refine ⟨by rw [List.all_cons, f1, i1]; rfl, ?_⟩
      unfold inV at i2 ⊢
      rw [List.any_cons, List.any_cons, i2, f2, (flat_v p h).2, eqV_G hx.1 h]
theorem rb_in {neg : Bool} : RB K (rIn K neg) (oIn neg) := fun {G H v w d e z Q} s p1 p2 h k => by
  have key : ∀ (xs : List D) (b : Bool) (vs : List V), memD d xs = some b → DqAll K G vs xs → flatV v = true ∧ vs.all flatV = true ∧ inV v vs = b := fun xs b vs hm hv => by
    have gen : ∀ b, memG d xs = some b → flatV v = true ∧ vs.all flatV = true ∧ inV v vs = b := fun b hg => by
      unfold memG at hg
      split at hg
      · rename_i hf
        injection hg with hg; subst hg
        exact ⟨(flat_v p1 hf.1).1, mem_all p1 hf.1 hf.2 hv⟩
      · cases hg
    unfold memD at hm
    split at hm
    · rename_i x
      cases q : strsOf xs with
      | none => rw [q] at hm; exact gen b hm
      | some ys =>
        rw [q] at hm
        injection hm with hm; subst hm
        rw [strsOf_is q] at hv
        rw [dq_strs hv]
        cases p1.str
        exact ⟨rfl, flat_strs ys, inV_strs x ys⟩
    · exact gen b hm
  unfold oIn at h
  split at h
  · rename_i xs
    cases q : memD d xs with
    | none => rw [q] at h; cases h
    | some b =>
      rw [q] at h
      injection h with h; subst h
      obtain ⟨a, vs, rfl, h1, h2⟩ := p2.list s
      obtain ⟨k1, k2, k3⟩ := key xs b vs q h2
      refine ⟨a, vs, rfl, .inl (rdL h1), k1, k2, ?_⟩
      rw [k3]; exact k _ G H (.refl s) (.bl _)
  · rename_i xs
    cases q : memD d xs with
    | none => rw [q] at h; cases h
    | some b =>
      rw [q] at h
      injection h with h; subst h
      obtain ⟨a, vs, rfl, h1, h2⟩ := p2.tup s
      obtain ⟨k1, k2, k3⟩ := key xs b vs q h2
      refine ⟨a, vs, rfl, .inr h1, k1, k2, ?_⟩
      rw [k3]; exact k _ G H (.refl s) (.bl _)
  · cases h

variable {ta tb tc : TE} {f g h : FE}
def fChain (o o' : F2) (f g h : FE) : FE := fun ρ => match f ρ, g ρ, h ρ with
  | some a, some b, some c => match o a b with
    | some (.bool true) => o' b c
    | some (.bool false) => some (.bool false)
    | _ => none
  | _, _, _ => none
theorem lp_chain {r r' : R2} {o o' : F2} (h1 : LM K bor ta f) (h2 : LM K bor tb g) (h3 : LM K bor tc h) (hr : RB K r o) (hr' : RB K r' o') : LP K bor (tChain r r' ta tb tc) (fChain o o' f g h) := fun {c G σ H ρ d Q} hc R e k => by
  unfold fChain at e
  split at e
  · rename_i x y z e1 e2 e3
    split at e
    · rename_i e4
      exact h1 hc R e1 fun v G1 H1 g1 p1 => h2 hc (R.grow g1) e2 fun w G2 H2 g2 p2 => hr g2.s (p1.grow g2) p2 e4 fun u G3 H3 g3 p3 => by
        cases p3
        refine ⟨true, rfl, iteT (h3 hc (R.grow (g1.trans (g2.trans g3))) e3 fun s G4 H4 g4 p4 => hr' g4.s (p2.grow (g3.trans g4)) p4 e fun t G5 H5 g5 p5 => k t G5 H5 (g1.trans (g2.trans (g3.trans (g4.trans g5)))) p5)⟩
    · rename_i e4
      injection e with e; subst e
      exact h1 hc R e1 fun v G1 H1 g1 p1 => h2 hc (R.grow g1) e2 fun w G2 H2 g2 p2 => hr g2.s (p1.grow g2) p2 e4 fun u G3 H3 g3 p3 => by
        cases p3
        exact ⟨false, rfl, iteF (k _ G3 H3 (g1.trans (g2.trans g3)) (.bl _))⟩
    · cases e
  · cases e


def rSlX (K : PySem.W.Frag) : V → Option Int → Option Int → Hp → VK → Prop := fun x lo hi H Q => ∃ a xs, x = .ref a ∧ SqT K H a xs ∧
  (HT.sIx xs.length 0 lo = 0 ∧ HT.sIx xs.length xs.length hi = xs.length → Q (.ref a) H) ∧
  (¬ (HT.sIx xs.length 0 lo = 0 ∧ HT.sIx xs.length xs.length hi = xs.length) → ∀ (p : Addr) (o : Obj), o.dict = none → H p = none → Q (.ref p) (upd H p (.frz o (.tup (cutV xs lo hi)))))
theorem sl_tupX : SlR X (rSlX X.K) := by
  intro pins s σ H x v vl vu lo hi sl Q I rx hs pl pu h
  obtain ⟨a, xs, rfl, hx, q1, q2⟩ := h
  cases rx
  obtain ⟨its, r, tup, hz⟩ := I.tuple hx
  have size : its.toArray.size = xs.length := by rw [List.size_toArray, r.length]
  refine ⟨"tuple", _, PyProof.Rows.slot_tuple_getitem.lookup, tup.typeIs, ?_⟩
  by_cases whole : HT.sIx xs.length 0 lo = 0 ∧ HT.sIx xs.length xs.length hi = xs.length
  · apply getItem_tuple_whole tup hs pl pu (by rw [size]; exact whole)
    exact ⟨.ref a, H, I, rfl, q1 whole⟩
  · apply HT.getItem_tuple_cut tup hs pl pu (by rw [size]; exact whole)
    · rw [size]
      have rc := (r.drop (HT.sIx xs.length 0 lo)).take (HT.sIx xs.length xs.length hi - HT.sIx xs.length 0 lo)
      exact ⟨.ref s.heap.objs.size, _, tup_laid I rc (Nat.le_trans (cutV_length xs lo hi) hz), rfl, q2 whole _ _ rfl (I.hok.fresh (Nat.le_refl _))⟩
    · rw [size]; exact hz
abbrev rSlU (K : PySem.W.Frag) : V → Option Int → Option Int → Hp → VK → Prop := fun x lo hi H Q => rSlL K x lo hi H Q ∨ (rSlX K x lo hi H Q ∨ rSlS x lo hi H Q)
theorem slOr {r r' : V → Option Int → Option Int → Hp → VK → Prop} (h : SlR X r) (h' : SlR X r') : SlR X (fun x lo hi H Q => r x lo hi H Q ∨ r' x lo hi H Q) := by
  intro pins s σ H x v vl vu lo hi sl Q I rx hs pl pu q
  rcases q with q | q
  · exact h pins s σ H x v vl vu lo hi sl Q I rx hs pl pu q
  · exact h' pins s σ H x v vl vu lo hi sl Q I rx hs pl pu q
theorem sl_U : SlR X (rSlU X.K) := slOr sl_list (slOr sl_tupX sl_str)
def cutD (xs : List D) (lo hi : Option Int) : List D := (xs.drop (HT.sIx xs.length 0 lo)).take (HT.sIx xs.length xs.length hi - HT.sIx xs.length 0 lo)
theorem dq_cut {G : Hp} {vs : List V} {xs : List D} (p : DqAll K G vs xs) (lo hi : Option Int) : DqAll K G (cutV vs lo hi) (cutD xs lo hi) := by
  unfold cutV cutD
  rw [dps_len p]
  exact dps_take _ (dps_drop _ p)
def oSlice (lo hi : Option Int) : F1 := fun d => match d with
  | .list xs => some (.list (cutD xs lo hi))
  | .tuple xs => some (.tuple (cutD xs lo hi))
  | .str z => if z.length ≤ 100000 then some (.str (cutS z lo hi)) else none
  | _ => none
theorem cut_whole {xs : List D} {lo hi : Option Int} (h : HT.sIx xs.length 0 lo = 0 ∧ HT.sIx xs.length xs.length hi = xs.length) : cutD xs lo hi = xs := by
  unfold cutD; rw [h.1, h.2]; simp
theorem slice_run {G H : Hp} {v : V} {d z : D} {lo hi : Option Int} {Q : VK} (s : Same G H) (p : DpM K G H v d) (e : oSlice lo hi d = some z) (k : ∀ u G' H', Grow G H G' H' → Dq K G' u z → Q u H') : rSlU K v lo hi H Q := by
  unfold oSlice at e
  split at e
  · injection e with e; subst e
    obtain ⟨a, vs, rfl, h1, h2⟩ := p.list s
    refine .inl ⟨a, vs, rfl, rdL h1, fun l hl => ?_⟩
    have g := grow_new (o := .lst (cutV vs lo hi)) s hl
    exact k _ _ _ g (.lst (sqU upd_same) (dpsS g.g (dq_cut h2 lo hi)))
  · injection e with e; subst e
    rename_i xs
    obtain ⟨a, vs, rfl, h1, h2⟩ := p.tup s
    have el := dps_len h2
    refine .inr (.inl ⟨a, vs, rfl, h1, fun hw => ?_, fun hw l o hd hl => ?_⟩)
    · rw [el] at hw
      rw [cut_whole hw] at k
      rcases p with p | ⟨_, _, _, _, e, _⟩
      · exact k _ G H (.refl s) p
      · cases e
    · have g := grow_new (o := .frz o (.tup (cutV vs lo hi))) s hl
      exact k _ _ _ g (.tup (.inl ⟨o, upd_same, hd⟩) (dpsS g.g (dq_cut h2 lo hi)))
  · split at e
    · rename_i hl
      injection e with e; subst e
      cases p.str
      exact .inr (.inr ⟨_, rfl, Nat.le_trans hl (by decide), k _ G H (.refl s) (.str _)⟩)
    · cases e
  · cases e

abbrev FO := List Sl → Option (Option Int)
def LO (K : PySem.W.Frag) (bor : List Nat) (tH : TO) (f : FO) : Prop :=
  ∀ ⦃c : C0⦄ ⦃G : Hp⦄ ⦃σ : L2.St⦄ ⦃H : Hp⦄ ⦃ρ : List Sl⦄ ⦃d : Option Int⦄ ⦃Q : Option Int → Hp → Prop⦄, c.bor = bor → Rel K c G σ H ρ → f ρ = some d → (∀ G' H', Grow G H G' H' → Q d H') → tH σ H Q
def fNo : FO := fun _ => some none
def fEnd (f : FE) : FO := fun ρ => match f ρ with
  | some (.int i) => some (some i)
  | _ => none
theorem lo_none : LO K bor tNoPart fNo := fun {c G σ H ρ d Q} hc R e k => by
  injection e with e; subst e; exact k G H (.refl R.sub)
theorem lo_some (h : LM K bor ta f) : LO K bor (tPart ta) (fEnd f) := fun {c G σ H ρ d Q} hc R e k => by
  unfold fEnd at e
  split at e
  · rename_i i e1
    injection e with e; subst e
    exact h hc R e1 fun v G1 H1 g1 p1 => ⟨i, p1.int, k G1 H1 g1⟩
  · cases e
def fSlice (f : FE) (lo hi : FO) : FE := fun ρ => match f ρ, lo ρ, hi ρ with
  | some d, some l, some h => oSlice l h d
  | _, _, _ => none
theorem lp_slice {tl th : TO} {lo hi : FO} (h : LM K bor ta f) (hl : LO K bor tl lo) (hh : LO K bor th hi) : LP K bor (tSl (rSlU K) ta tl th) (fSlice f lo hi) := fun {c G σ H ρ d Q} hc R e k => by
  unfold fSlice at e
  split at e
  · rename_i x l u e1 e2 e3
    exact h hc R e1 fun v G1 H1 g1 p1 => hl hc (R.grow g1) e2 fun G2 H2 g2 => hh hc (R.grow (g1.trans g2)) e3 fun G3 H3 g3 => slice_run g3.s (p1.grow (g2.trans g3)) e fun u G4 H4 g4 p4 => k u G4 H4 (g1.trans (g2.trans (g3.trans g4))) p4
  · cases e
def dSlice (A : TDE) (lo hi : FO) : TDE := fun ρ Q => A ρ fun d ρ1 => ∃ l h z, lo ρ1 = some l ∧ hi ρ1 = some h ∧ oSlice l h d = some z ∧ Q z ρ1
theorem le_slice {tl th : TO} {A : TDE} {lo hi : FO} (h : LE K bor ta A) (hl : LO K bor tl lo) (hh : LO K bor th hi) : LE K bor (tSl (rSlU K) ta tl th) (dSlice A lo hi) := fun {c G σ H ρ Qd Q} hc R q k =>
  h hc R q fun v H1 G1 ρ1 d s1 R1 p1 ⟨l, u, z, e1, e2, e3, q1⟩ => hl hc R1 e1 fun G2 H2 g2 => hh hc (R1.grow g2) e2 fun G3 H3 g3 => slice_run g3.s ((DpM.grow (g2.trans g3) (.inl p1))) e3 fun u G4 H4 g4 p4 =>
    k u H4 G4 ρ1 z (s1.trans ((g2.trans (g3.trans g4)).g)) (R1.grow (g2.trans (g3.trans g4))) p4 q1

theorem ls_parLL {ta1 tb1 : TE} {A B : TDL} {i j : Nat} (hi : i ∉ bor) (hj : j ∉ bor) (hij : i ≠ j) (h1 : LL K bor ta1 A) (h2 : LL K bor tb1 B) :
    LS K bor (tPar i j (tCons ta1 (tCons tb1 tNil))) (fun E ρ => A ρ fun xs ρ1 => B ρ1 fun ys ρ2 => E.nx ((ρ2.set i (.ow xs)).set j (.ow ys))) := fun {c G σ H ρ E D} hc R q l =>
  h1 hc R q fun a vs H1 G1 ρ1 xs s1 R1 m1 p1 q1 => by
    have nb := m1.nb R1
    refine h2 (c := c.aside a vs) hc (R1.guard m1) q1 fun b ws H2 G2 ρ2 ys s2 R2 m2 p2 q2 => ?_
    obtain ⟨R3, m3⟩ := R2.unguard m1.2.2.1 nb
    have hab : b ≠ a := fun z => by
      subst z
      have := m2.2.2.1
      have this : upd c.H b (.lst vs) b = none := this
      rw [upd_same] at this; cases this
    refine ⟨_, _, rfl, ?_⟩
    have R4 := R3.storeO (i := i) (fun a z => hi (hc ▸ R3.bs _ _ z)) m3 (dpsS s2 p1)
    have mb : c.H b = none := by
      have : upd c.H a (.lst vs) b = none := m2.2.2.1
      rw [upd_ne hab] at this; exact this
    have m4 : Mine c G2 (σ.set i (some (.ref a))) H2 (ρ2.set i (.ow xs)) b ws := by
      refine ⟨m2.1, m2.2.1, mb, fun k s e z => ?_⟩
      by_cases hk : k = i
      · subst hk
        have hl : k < ρ2.length := by have := (List.getElem?_eq_some_iff.mp e).1; simpa using this
        rw [List.getElem?_set_self hl] at e
        injection e with e; subst e
        rw [List.getElem?_set_self (by rw [R3.len]; exact hl)] at z
        exact hab (refI (show some (some (V.ref a)) = some (some (.ref a)) from rfl) z).symm
      · rw [List.getElem?_set_ne (Ne.symm hk)] at e z
        exact m2.2.2.2 k s e z
    exact l.nx (s1.trans s2) (R4.storeO (i := j) (fun a z => hj (hc ▸ R3.bs _ _ z)) m4 p2) q2
theorem ls_parEE {ta1 : TA} {A : TDA} {i j : Nat} (hi : i ∉ bor) (hj : j ∉ bor) (h1 : LEs K bor ta1 A) :
    LS K bor (tPar i j ta1) (fun E ρ => A ρ fun ds ρ1 => ∃ d e, ds = [d, e] ∧ E.nx ((ρ1.set i (.sh d)).set j (.sh e))) := fun {c G σ H ρ E D} hc R q l =>
  h1 hc R q fun vs H1 G1 ρ1 ds s1 R1 p1 ⟨d, e, ed, q1⟩ => by
    subst ed
    cases p1 with
    | cons a b =>
      cases b with
      | cons b c' =>
        cases c'
        refine ⟨_, _, rfl, l.nx s1 ?_ q1⟩
        exact (R1.store (fun a z => hi (hc ▸ R1.bs _ _ z)) a).store (fun a z => hj (hc ▸ R1.bs _ _ z)) b
end
end TN
set_option Elab.async false
set_option linter.all false
set_option maxRecDepth 100000
set_option maxHeartbeats 2000000
set_option autoImplicit false
namespace TN
open PySem PySem.Spec PyProof.Rows L2
def pick {α : Type} (is : List Nat) (xs : List α) : List α := is.filterMap fun i => xs[i]?
theorem vals_at : ∀ {vs : List V} {us : List Value}, Vals vs us → ∀ i : Nat, (vs[i]? = none ∧ us[i]? = none) ∨ ∃ v u, vs[i]? = some v ∧ us[i]? = some u ∧ RelV v u
  | _, _, .nil, i => .inl ⟨by simp, by simp⟩
  | _, _, .cons a b, 0 => .inr ⟨_, _, by simp, by simp, a⟩
  | _, _, .cons a b, i + 1 => by
    rcases vals_at b i with ⟨h1, h2⟩ | ⟨v, u, h1, h2, h3⟩
    · exact .inl ⟨by simpa using h1, by simpa using h2⟩
    · exact .inr ⟨v, u, by simpa using h1, by simpa using h2, h3⟩
theorem vals_pick {vs : List V} {us : List Value} (h : Vals vs us) : ∀ is : List Nat, Vals (pick is vs) (pick is us)
  | [] => .nil
  | i :: is => by
    have ih := vals_pick h is
    unfold pick at ih ⊢
    rcases vals_at h i with ⟨h1, h2⟩ | ⟨v, u, h1, h2, h3⟩
    · rw [List.filterMap_cons_none h1, List.filterMap_cons_none h2]; exact ih
    · rw [List.filterMap_cons_some h1, List.filterMap_cons_some h2]; exact .cons h3 ih
theorem dps_pick {K : PySem.W.Frag} {G : Hp} {vs : List V} {ds : List D} (h : DqAll K G vs ds) : ∀ is : List Nat, DqAll K G (pick is vs) (pick is ds)
  | [] => .nil
  | i :: is => by
    have ih := dps_pick h is
    unfold pick at ih ⊢
    cases e : ds[i]? with
    | none =>
      have e2 : vs[i]? = none := by
        rw [List.getElem?_eq_none_iff] at e ⊢
        rw [dps_len h]; exact e
      rw [List.filterMap_cons_none e, List.filterMap_cons_none e2]; exact ih
    | some d =>
      obtain ⟨v, e2, e3⟩ := dps_of h e
      rw [List.filterMap_cons_some e, List.filterMap_cons_some e2]; exact .cons e3 ih

structure HasK (P : Program) (w : World) (K : PySem.W.Frag) (mg : Str → Option Value) (base : Heap) (name : Str) (k : Nat) (ps ks : List Str) (is : List Nat) (sp : Sp) : Prop where
  ex : ∃ f fd, FnG P w K mg base CX0 k f fd ps sp ∧ mg name = some (.ref f) ∧ PySem.W.keepIn K (.ref f) = true ∧ KOnly K fd ps ks (pick is) (pick is)
theorem hasK_of {P : Program} {w : World} {K : PySem.W.Frag} {mg : Str → Option Value} {base : Heap} {name : Str} {k : Nat} {ps ks : List Str} {is : List Nat} {sp : Sp} {f : Addr} {fd : FuncData} {qual : Str} {st : Stmt}
    (G : FnG P w K mg base CX0 k f fd ps sp) (m : mg name = some (.ref f)) (F : Fun K name qual st f fd)
    (h : ∀ (kV doc pm : Value) (an : Option Addr) (cdv ct : Value) (us : List Value), (pick is us).length = ps.length → bindArgs (PySem.W.fnOf name qual (defArgs st) (defBody st) (defScope st) .none kV doc pm an cdv ct) ⟨[], ks.zip us⟩ = pure (ps.zip (pick is us))) :
    HasK P w K mg base name k ps ks is sp := by
  refine ⟨f, fd, G, m, F.kp, ?_⟩
  obtain ⟨oc, od, kV, doc, pm, an, cdv, ct, osl, hfd, hlk, hcode⟩ := F.ex
  subst hfd
  exact ⟨fun s ws _ hl => .of_eq (h kV doc pm an cdv ct ws hl), fun r => vals_pick r is⟩
theorem HasK.up {P : Program} {w : World} {K : PySem.W.Frag} {mg : Str → Option Value} {base : Heap} {name : Str} {j k : Nat} {ps ks : List Str} {is : List Nat} {sp : Sp} (h : HasK P w K mg base name j ps ks is sp) (le : j ≤ k) : HasK P w K mg base name k ps ks is sp := by
  obtain ⟨f, fd, a, b, c, d⟩ := h.ex
  exact ⟨f, fd, a.up le, b, c, d⟩
def tCallN (sp : Sp) (is : List Nat) (E : XK) (tk : TA) : TE := fun σ H Q => tk σ H fun zs H2 => sp (pick is zs) H2 Q E
section
variable {X : Cx} {name : Str} {k : Nat} {ps ks : List Str} {is : List Nat} {sp : Sp} {p pos : Pos} {kws : List Keyword} {tk : TA}
theorem pe_hasK (h : HasK X.prog X.w X.K X.mg X.base name k ps ks is sp) (hg : X.A.guards = some []) (hr : Room k X.A) (hgl : Gl X name) (hkw : PK X kws tk)
    (hall : (backToKw pos (keywordEach kws X.env)).all (·.1.isSome) = true := by rfl) (hks : (backToKw pos (keywordEach kws X.env)).filterMap (·.1) = ks := by rfl) (hdb : (name == ("__debug__" : Str)) = false := by decide)
    (hpl : ((backTo pos (starEach [] X.env)).any (·.1) || (backToKw pos (keywordEach kws X.env)).any (·.1.isNone)) = false := by rfl) :
    PE X (.Call (.Name name p) [] kws pos) (tCallN sp is E0 tk) := by
  obtain ⟨f, fd, F, m, kp, b⟩ := h.ex
  constructor
  intro pins s σ H Q I q
  apply wpAny_Call_Name_kw
  apply ld_glob I hgl m _ hdb
  apply PySem.W.callWith_KW0 (h₀ := X.base) I.ok.mod.kin kp hall _ hpl
  apply thn (hkw.run pos pins s σ H _ I q)
  rintro ws s2 ⟨zs, H2, I2, rz, q2⟩
  refine ⟨I2.kIn, ?_⟩
  rw [hks]
  have rv := b.rel rz
  have hl : (pick is ws).length = ps.length := by rw [← rv.length]; exact F.count _ _ _ _ q2
  refine wpAny_call (codeAny_mono (callG F hg hr pass0 I2 (b.to s2 ws I2.kIn hl) rv q2) fun res s' hq => ?_)
  cases res with
  | error e => exact hq
  | ok fl => cases fl <;> first | exact hq | exact hq.elim
end
section
variable {K : PySem.W.Frag} {bor : List Nat} {tk : TA} {is : List Nat}
def dCallN (sem : List D → (Sl → Prop) → Prop) (is : List Nat) (A : TDA) : TDE := fun ρ Q => A ρ fun ds ρ1 => sem (pick is ds) fun r => ∃ d, r = .sh d ∧ Q d ρ1
end
end TN
set_option Elab.async false
set_option linter.all false
set_option maxRecDepth 100000
set_option maxHeartbeats 2000000
set_option autoImplicit false
namespace TN
open PySem PySem.Spec PyProof.Rows L2
section
variable {K : PySem.W.Frag} {bor : List Nat} {te : TE} {f : FE}
end
end TN
set_option Elab.async false
set_option linter.all false
set_option maxRecDepth 100000
set_option maxHeartbeats 2000000
set_option autoImplicit false
namespace TN
open PySem PySem.Spec PyProof.Rows L2
section
variable {K : PySem.W.Frag}
theorem rc_any : RC K (rAny K) oAny := fun {G H vs ds z Q} s p e k => by
  unfold oAny at e
  split at e
  · rename_i xs
    cases q : blsOf xs with
    | none => rw [q] at e; cases e
    | some bs =>
      rw [q] at e
      injection e with e; subst e
      cases p with
      | cons a b =>
        cases b
        rw [blsOf_is q] at a
        obtain ⟨x, us, rfl, h1, h2⟩ := a.list s
        rw [dq_bls h2] at h1
        exact ⟨x, bs, rfl, h1, k _ G H (.refl s) (.bl _)⟩
  · cases e
end
end TN
set_option Elab.async false
set_option linter.all false
set_option maxRecDepth 100000
set_option maxHeartbeats 2000000
set_option autoImplicit false
namespace TN
open PySem PySem.Spec PyProof.Rows L2
section
variable {K : PySem.W.Frag} {bor : List Nat} {ta tb : TE} {tc : TT} {A B : TDE} {f g : FE} {C : TDT}
def dAndV (A B : TDE) : TDE := fun ρ Q => A ρ fun d ρ1 => ∃ b, d = .bool b ∧ (b = true → B ρ1 Q) ∧ (b = false → Q (.bool false) ρ1)
theorem le_andV (h1 : LE K bor ta A) (h2 : LE K bor tb B) : LE K bor (tAndV ta tb) (dAndV A B) := fun {c G σ H ρ Qd Q} hc R q k =>
  h1 hc R q fun v H1 G1 ρ1 d s1 R1 p1 ⟨b, e, q1, q2⟩ => by
    subst e
    cases p1
    cases b with
    | true => exact ⟨true, rfl, iteT (h2 hc R1 (q1 rfl) fun v H2 G2 ρ2 d s2 R2 p q' => k v H2 G2 ρ2 d (s1.trans s2) R2 p q')⟩
    | false => exact ⟨false, rfl, iteF (k _ H1 G1 ρ1 _ s1 R1 (.bl _) (q2 rfl))⟩
def dOrV (A B : TDE) : TDE := fun ρ Q => A ρ fun d ρ1 => ∃ b, d = .bool b ∧ (b = true → Q (.bool true) ρ1) ∧ (b = false → B ρ1 Q)
def dNotV (A : TDE) : TDE := fun ρ Q => A ρ fun d ρ1 => ∃ b, d = .bool b ∧ Q (.bool (!b)) ρ1
def dIfL (C : TDT) (A B : TDL) : TDL := fun ρ Q => C ρ fun b ρ1 => (b = true → A ρ1 Q) ∧ (b = false → B ρ1 Q)
theorem ll_ifE {A B : TDL} (h : LT K bor tc C) (h1 : LL K bor ta A) (h2 : LL K bor tb B) : LL K bor (tIf tc ta tb) (dIfL C A B) := fun {c G σ H ρ Qd Q} hc R q k =>
  h hc R q fun b H1 G1 ρ1 s1 R1 ⟨q1, q2⟩ => by
    cases b with
    | true => exact iteT (h1 hc R1 (q1 rfl) fun a vs H2 G2 ρ2 d s2 R2 m p q' => k a vs H2 G2 ρ2 d (s1.trans s2) R2 m p q')
    | false => exact iteF (h2 hc R1 (q2 rfl) fun a vs H2 G2 ρ2 d s2 R2 m p q' => k a vs H2 G2 ρ2 d (s1.trans s2) R2 m p q')

def idxS (y : Str) : List Str → Option Nat
  | [] => none
  | x :: xs => if x = y then some 0 else (idxS y xs).map (· + 1)
theorem idxS_is {y : Str} : ∀ {xs : List Str} {j : Nat}, idxS y xs = some j → xs[j]? = some y ∧ ∀ m, m < j → xs[m]? ≠ some y
  | [], j, e => by cases e
  | x :: xs, j, e => by
    unfold idxS at e
    split at e
    · rename_i h
      injection e with e; subst e; subst h
      exact ⟨rfl, fun m hm => absurd hm (Nat.not_lt_zero _)⟩
    · rename_i h
      cases q : idxS y xs with
      | none => rw [q] at e; cases e
      | some i =>
        rw [q] at e
        injection e with e; subst e
        obtain ⟨h1, h2⟩ := idxS_is q
        refine ⟨h1, fun m hm => ?_⟩
        cases m with
        | zero => intro z; injection z with z; exact h z
        | succ m => exact h2 m (Nat.lt_of_succ_lt_succ hm)
def tIdx (K : PySem.W.Frag) (ta : TE) (tb : TA) : TE := fun σ H Q => ta σ H fun x H1 => ∃ p ws, x = V.ref p ∧ TupX K H1 p ws ∧
  tb σ H1 fun vs H2 => ∃ (ys : List Str) (z : Str) (j : Nat), vs = [V.str z] ∧ SqT K H2 p (ys.map V.str) ∧ ys[j]? = some z ∧ (∀ m, m < j → ys[m]? ≠ some z) ∧ Q (.int (j : Nat)) H2
def oTIdx : F2 := fun d e => match d, e with
  | .tuple xs, .str y => (strsOf xs).bind fun ys => (idxS y ys).map fun (j : Nat) => .int j
  | _, _ => none
theorem lp_tindex (h1 : LM K bor ta f) (h2 : LM K bor tb g) : LP K bor (tIdx K ta (tCons tb tNil)) (f2 oTIdx f g) := fun {c G σ H ρ d Q} hc R e k => by
  unfold f2 at e
  split at e
  · rename_i d1 d2 e1 e2
    unfold oTIdx at e
    split at e
    · rename_i xs y
      cases q : strsOf xs with
      | none => rw [q] at e; cases e
      | some ys =>
        rw [q] at e
        have e : (idxS y ys).map (fun (j : Nat) => PyData.int j) = some d := e
        cases q2 : idxS y ys with
        | none => rw [q2] at e; cases e
        | some j =>
          rw [q2] at e
          injection e with e; subst e
          rw [strsOf_is q] at e1
          obtain ⟨i1, i2⟩ := idxS_is q2
          refine h1 hc R e1 fun v G1 H1 g1 p1 => ?_
          obtain ⟨a, vs, rfl, x1, x2⟩ := p1.tupX g1.s
          refine ⟨a, vs, rfl, x1, h2 hc (R.grow g1) e2 fun w G2 H2 g2 p2 => ?_⟩
          rw [dq_strs x2] at x1
          exact ⟨ys, y, j, by rw [p2.str], (tupS g2.h x1).sq, i1, i2, k _ G2 H2 (g1.trans g2) (.int _)⟩
    · cases e
  · cases e

def oLIdx : F2 := fun d e => match d, e with
  | .list xs, .str y => (strsOf xs).bind fun ys => (idxS y ys).map fun (j : Nat) => .int j
  | _, _ => none
theorem lp_lindex (h1 : LM K bor ta f) (h2 : LM K bor tb g) : LP K bor (tBM K "list" (rIndex K) ta (tCons tb tNil)) (f2 oLIdx f g) := fun {c G σ H ρ d Q} hc R e k => by
  unfold f2 at e
  split at e
  · rename_i d1 d2 e1 e2
    unfold oLIdx at e
    split at e
    · rename_i xs y
      cases q : strsOf xs with
      | none => rw [q] at e; cases e
      | some ys =>
        rw [q] at e
        have e : (idxS y ys).map (fun (j : Nat) => PyData.int j) = some d := e
        cases q2 : idxS y ys with
        | none => rw [q2] at e; cases e
        | some j =>
          rw [q2] at e
          injection e with e; subst e
          rw [strsOf_is q] at e1
          obtain ⟨i1, i2⟩ := idxS_is q2
          refine h1 hc R e1 fun v G1 H1 g1 p1 => ?_
          obtain ⟨a, vs, rfl, x1, x2⟩ := p1.list g1.s
          have ew := dq_strs x2
          subst ew
          refine ⟨.inl ⟨rfl, _, rdL x1⟩, h2 hc (R.grow g1) e2 fun w G2 H2 g2 p2 => ?_⟩
          refine ⟨a, ys.map V.str, .str y, j, .str y, rfl, by rw [p2.str], rdL (rdS g2.h x1), rfl, TN.flat_strs ys, by rw [List.getElem?_map, i1]; rfl, ?_, fun m z' hm hz => ?_, k _ G2 H2 (g1.trans g2) (.int _)⟩
          · show decide (y = y) = true
            exact decide_eq_true rfl
          · rw [List.getElem?_map] at hz
            cases q3 : ys[m]? with
            | none => rw [q3] at hz; cases hz
            | some z =>
              rw [q3] at hz
              injection hz with hz; subst hz
              show decide (z = y) = false
              exact decide_eq_false fun z1 => i2 m hm (by rw [q3, z1])
    · cases e
  · cases e

def litGet : List (Str × Int) → Str → Int → Int
  | [], _, d => d
  | (k, v) :: r, x, d => if k = x then v else litGet r x d
end
section
variable {X : Cx}
theorem pe_tidx {o e : Expr} {to ta : TE} {apos cpos : Pos} (ho : PE X o to) (ha : PE X e ta)
    (hbase : attributeBase o "index" X.env (eval o X.env) = eval o X.env := by rfl)
    (hfew : ((backTo cpos (starEach [e] X.env)).all (fun x => !x.1) && (backToKw cpos (keywordEach [] X.env)).all (fun x => x.1.isSome)
      && decide (([e] : List Expr).length + ([] : List Keyword).length + (if ([] : List Keyword).isEmpty then 0 else 1) < 30)) = true := by rfl)
    (hline : (apos.endLine == cpos.line) = true := by rfl) (hs : starEach [e] X.env = (false, eval e X.env) :: starEach [] X.env := by rfl) :
    PE X (.Call (.Attribute o "index" apos) [e] [] cpos) (tIdx X.K to (tCons ta tNil)) := by
  constructor
  intro pins s σ H Q I h
  apply wpAny_Call_method_late hbase hfew hline rfl
  apply thn (ho.run pins s σ H _ I h)
  rintro v s1 ⟨x, H1, I1, r1, p, ws, rfl, known, q1⟩
  cases r1
  have obj : ∃ ob, s1.heap.get? p = some ob ∧ ob.dict = none ∧ ob.cls = .type "tuple" := by
    rcases known with ⟨o, hu, hd⟩ | ⟨o, its, n, hk, hc, hd, _⟩
    · obtain ⟨g1, _, _, _, ob, g2, g3, _⟩ := I1.hok p _ hu
      rw [g1] at g2
      injection g2 with g2; subst g2
      exact ⟨o, g1, hd, g3⟩
    · exact ⟨o, I1.kIn p o hk, hd, hc⟩
  obtain ⟨ob, e1, e2, e3⟩ := obj
  refine ⟨"tuple", "tuple.index", PySem.F.plainAttrs_tuple, PySem.F.slot_tuple_index, PySem.F.type_tuple_index, ⟨ob, e1, e3⟩, fun a z => ?_, ?_⟩
  · injection z with z; subst z; exact ⟨ob, e1, e2⟩
  · have hA := (pa_cons ha pa_nil hs).run cpos pins s1 σ H1 _ I1 q1
    rw [hs] at hA ⊢
    refine Calls.callWith_builtin rfl (Calls.evalArgs_plain (thn hA ?_))
    rintro us s2 ⟨vs, H2, I2, r2, ys, z, j, rfl, hq, h1, h2, q2⟩
    exact mt_tup_index pins s2 σ H2 (.ref p) [.str z] (.ref p) us Q I2 rfl r2 ⟨p, ys, z, j, rfl, rfl, hq, h1, h2, q2⟩
end
end TN
set_option Elab.async false
set_option linter.all false
set_option maxRecDepth 100000
set_option maxHeartbeats 2000000
set_option autoImplicit false
namespace TN
open PySem PySem.Spec PyProof.Rows L2
section
variable {K : PySem.W.Frag} {bor : List Nat} {ta tb : TE} {f g : FE}
def litK (ps : List (Str × Int)) : List (Key × V) := ps.map fun p => (Sum.inr p.1, V.int p.2)
def litT (ps : List (Str × Int)) : List (TE × TE) := ps.map fun p => (tC (.str p.1), tC (.int p.2))
theorem lit_val (y : Str) (d : Int) : ∀ ps : List (Str × Int), (valV (litK ps) (Sum.inr y)).getD (.int d) = .int (litGet ps y d)
  | [] => rfl
  | (k, v) :: ps => by
    have ih := lit_val y d ps
    show (valV ((Sum.inr k, V.int v) :: litK ps) (Sum.inr y)).getD (.int d) = .int (if k = y then v else litGet ps y d)
    by_cases h : k = y
    · rw [valV_pos (by show (Sum.inr k : Key) = Sum.inr y; rw [h]), if_pos h]; rfl
    · rw [valV_neg (by intro z; injection z with z; exact h z), if_neg h]; exact ih
theorem lit_pairs {σ : L2.St} {H : Hp} {Q : List (V × V) → Hp → Prop} : ∀ ps : List (Str × Int), Q ((litK ps).map fun kv => (kV kv.1, kv.2)) H → tPairs (litT ps) σ H Q
  | [], h => h
  | (k, v) :: ps, h => by
    show tPairs (litT ps) σ H fun ps' H3 => Q ((V.str k, V.int v) :: ps') H3
    exact lit_pairs ps h
def oLit (ps : List (Str × Int)) : F2 := fun d e => match d, e with
  | .str y, .int z => some (.int (litGet ps y z))
  | _, _ => none
theorem lp_getLit (ps : List (Str × Int)) (few : ps.length ≤ 15) (once : mergeK [] (litK ps) = litK ps) (h1 : LM K bor ta f) (h2 : LM K bor tb g) : LP K bor (tDGet2 (tDisp (litT ps)) ta tb) (f2 (oLit ps) f g) := fun {c G σ H ρ d Q} hc R e k => by
  unfold f2 at e
  split at e
  · rename_i d1 d2 e1 e2
    unfold oLit at e
    split at e
    · rename_i y z
      injection e with e; subst e
      intro p hp
      refine lit_pairs ps ⟨upd_same, litK ps, rfl, by unfold litK; rw [List.length_map]; exact few, ?_⟩
      rw [once, upd_upd]
      have g0 := grow_own (o := .dK (litK ps)) R.sub hp
      refine ⟨p, rfl, .inl ⟨litK ps, .inl upd_same⟩, h1 hc (R.grow g0) e1 fun v G1 H1 g1 p1 => h2 hc (R.grow (g0.trans g1)) e2 fun w G2 H2 g2 p2 => ?_⟩
      have at2 : H2 p = some (.dK (litK ps)) := g2.h _ _ (g1.h _ _ upd_same)
      rw [p1.str, p2.int]
      refine ⟨_, DGet.k (k := Sum.inr y) at2, ?_⟩
      rw [lit_val]
      exact k _ G2 H2 (g0.trans (g1.trans g2)) (.int _)
    · cases e
  · cases e

theorem lp_ctup {a : Addr} {o : Obj} {its : Array Value} {n : Nat} {xs : List Str} (hk : K.lookup a = some o) (hc : o.cls = .type "tuple") (hd : o.dict = none) (hs : o.data = .seq its n) (hz : its.size ≤ sizeLine) (hv : Vals (xs.map V.str) its.toList) :
    LP K bor (tC (.ref a)) (fC (.tuple (xs.map PyData.str))) := fun {c G σ H ρ d Q} hc' R e k => by
  injection e with e; subst e
  exact k _ G H (.refl R.sub) (.tup (.inr ⟨o, its, n, hk, hc, hd, hs, hz, hv⟩) (dq_strs' _))
end
end TN
set_option Elab.async false
set_option linter.all false
set_option maxRecDepth 100000
set_option maxHeartbeats 2000000
set_option autoImplicit false
namespace TN
open PySem PySem.Spec PyProof.Rows L2
def isL (x : Str) : Prop := ∃ c : Nat, x = ⟨#[c]⟩ ∧ 97 ≤ c ∧ c ≤ 122
structure GRow (r : List Str) : Prop where
  ne : r ≠ []
  few : r.length ≤ 16
  nd : r.Nodup
  let' : ∀ x ∈ r, isL x
abbrev tupL (r : List Str) : D := .tuple (r.map PyData.str)
abbrev lstL (r : List Str) : D := .list (r.map PyData.str)
abbrev pairS (t h : List Str) : D := .tuple [TN.tupL t, TN.tupL h]
structure GPair (t h : List Str) : Prop where
  gt : GRow t
  gh : GRow h
  pm : t.Perm h

def toF (r : List Str) (p : Nat) : List Str := [r.getD p ""] ++ r.take p ++ r.drop (p + 1)
end TN
set_option Elab.async false
set_option linter.all false
set_option maxRecDepth 100000
set_option maxHeartbeats 2000000
set_option autoImplicit false
namespace TN
open PySem PySem.Spec PyProof.Rows L2
def Spl (n : Int) (xs : List D) : Prop := ∃ a b c : Int, xs = [.int a, .int b, .int c] ∧ 0 ≤ a ∧ 0 ≤ b ∧ b < 100000000000000000000000000000000000000000 ∧ 0 ≤ c ∧ c ≤ n
theorem Spl.up {n m : Int} {xs : List D} (h : Spl n xs) (le : n ≤ m) : Spl m xs := by
  obtain ⟨a, b, c, e, h1, h2, h3, h4, h5⟩ := h
  exact ⟨a, b, c, e, h1, h2, h3, h4, by omega⟩
abbrev big : Int := 1000000000000

def semWind (xs ds : List D) (Q : Sl → List D → Prop) : Prop := ∃ n w : Int, Spl n xs ∧ n ≤ big ∧ ds = [.int w] ∧ 0 < w ∧ w < 1073741824 ∧
  ∀ (r : Int) (ys : List D), 0 ≤ r → r < w → Spl (n + 1) ys → Q (.sh (.int r)) ys

def semMixed (xs ds : List D) (Q : Sl → List D → Prop) : Prop := ∃ (n : Int) (d : D) (L : List D), Spl n xs ∧ n + 100 ≤ big ∧ ds = [d] ∧ oList [d] = some L ∧ oLen [d] = some (.int L.length) ∧ L.length ≤ 64 ∧
  ∀ (L' ys : List D), L'.Perm L → Spl (n + 100) ys → Q (.sh (.tuple L')) ys

structure Ltr (r : List Str) : Prop where
  nd : r.Nodup
  let' : ∀ x ∈ r, isL x

def semLetters (xs ds : List D) (Q : Sl → List D → Prop) : Prop := ∃ (n m : Int), Spl n xs ∧ n + 200 ≤ big ∧ ds = [.int m] ∧ 1 ≤ m ∧ m ≤ 16 ∧
  ∀ (r : List Str) (ys : List D), GRow r → (r.length : Int) ≤ m → Spl (n + 200) ys → Q (.sh (lstL r)) ys

def semTwo (xs ds : List D) (Q : Sl → List D → Prop) : Prop := ∃ (n m : Int), Spl n xs ∧ n + 1000 ≤ big ∧ ds = [.int m] ∧ 1 ≤ m ∧ m ≤ 16 ∧
  ∀ (t h : List Str) (ys : List D), GPair t h → (t.length : Int) ≤ m → Spl (n + 1000) ys → Q (.sh (pairS t h)) ys

inductive Ev where
  | place (p : Nat) | name (x : Str) | lost (p : Nat) | twice (p : Nat) | as' (p q : Nat)
def Ev.d : Ev → D
  | .place p => .tuple [.str "place", .int p]
  | .name x => .tuple [.str "name", .str x]
  | .lost p => .tuple [.str "lost", .int p]
  | .twice p => .tuple [.str "twice", .int p]
  | .as' p q => .tuple [.str "as", .int p, .int q]
def Ev.kind : Ev → Str
  | .place _ => "place" | .name _ => "name" | .lost _ => "lost" | .twice _ => "twice" | .as' _ _ => "as"

def Ev.ok (r : List Str) : Ev → Prop
  | .place p | .lost p | .twice p => p < r.length
  | .name x => x ∈ r
  | .as' p q => p < r.length ∧ q < r.length ∧ p ≠ q
def words : List Str := ["place", "name", "lost", "twice", "as"]

def Kinds (ks : List Str) : Prop := ks ≠ [] ∧ ks.length ≤ 8 ∧ ∀ k ∈ ks, k ∈ words

def semEvent (xs ds : List D) (Q : Sl → List D → Prop) : Prop := ∃ (n : Int) (r ks : List Str), Spl n xs ∧ n + 10 ≤ big ∧ ds = [tupL r, lstL ks] ∧ GRow r ∧ Kinds ks ∧
  ∀ (e : Ev) (ys : List D), e.ok r → (e.kind ∈ ks ∨ e = .place 0) → Spl (n + 10) ys → Q (.sh e.d) ys

def semLetter (ds : List D) (Q : Sl → Prop) : Prop := ∃ x, ds = [.str x] ∧ isL x ∧ Q (.sh (.bool true))
def semRow (ds : List D) (Q : Sl → Prop) : Prop := ∃ r, ds = [tupL r] ∧ GRow r ∧ Q (.sh (.bool true))
def semPair (ds : List D) (Q : Sl → Prop) : Prop := ∃ t h, ds = [pairS t h] ∧ GPair t h ∧ Q (.sh (.bool true))
def semNeedPair (ds : List D) (Q : Sl → Prop) : Prop := ∃ t h, ds = [pairS t h] ∧ GPair t h ∧ Q (.sh .none)
def semPlace (ds : List D) (Q : Sl → Prop) : Prop := ∃ (r : List Str) (p : Nat), ds = [tupL r, .int p] ∧ p < r.length ∧ Q (.sh (.bool true))
def semUnlike (ds : List D) (Q : Sl → Prop) : Prop := ∃ (r : List Str) (p q : Nat), ds = [tupL r, .int p, .int q] ∧ p < r.length ∧ q < r.length ∧ p ≠ q ∧ Q (.sh (.bool true))
def semEventOf (ds : List D) (Q : Sl → Prop) : Prop := ∃ (r : List Str) (e : Ev), ds = [tupL r, e.d] ∧ GRow r ∧ e.ok r ∧ Q (.sh (.bool true))
def semNeedEvents (ds : List D) (Q : Sl → Prop) : Prop := ∃ (t h : List Str) (es : List Ev), ds = [pairS t h, .list (es.map Ev.d)] ∧ GPair t h ∧ es.length ≤ 100000 ∧ (∀ e ∈ es, e.ok t) ∧ Q (.sh .none)
def Ev.at (r : List Str) : Ev → Nat
  | .place p | .lost p | .twice p => p
  | .name x => (idxS x r).getD 0
  | .as' p _ => p
def Ev.takes (r : List Str) : Ev → List Nat
  | .place p => [p]
  | .lost _ => []
  | .twice p => [p, p]
  | .name x => [(idxS x r).getD 0]
  | .as' _ q => [q]
def takeAll : List Str → List Nat → List Str × List Str
  | r, [] => (r, [])
  | r, p :: ps => let q := takeAll (toF r p) ps; (q.1, r.getD p "" :: q.2)
def runT : List Str → List Ev → List Str × List Str
  | r, [] => (r, [])
  | r, e :: es => let q := runT (toF r (e.at r)) es; (q.1, r.getD (e.at r) "" :: q.2)
def runH : List Str → List Ev → List Str × List Str
  | r, [] => (r, [])
  | r, e :: es => let a := takeAll r (e.takes r); let q := runH a.1 es; (q.1, a.2 ++ q.2)
end TN
set_option Elab.async false
set_option linter.all false
set_option maxRecDepth 100000
set_option maxHeartbeats 2000000
set_option autoImplicit false
namespace TN
open PySem PySem.Spec PyProof.Rows L2
theorem imp_ff {a : Prop} : (false = true → a) ↔ True := by simp
theorem imp_tf {a : Prop} : (true = false → a) ↔ True := by simp
theorem imp_tt {a : Prop} : (true = true → a) ↔ a := by simp

inductive Fine : Nat → D → Prop
  | none {k : Nat} : Fine k .none
  | int {k : Nat} (i : Int) : Fine k (.int i)
  | str {k : Nat} {x : Str} (h : x.cps.all (· < 0x110000) = true) : Fine k (.str x)
  | list {k : Nat} {xs : List D} (h : ∀ x ∈ xs, Fine k x) : Fine (k + 1) (.list xs)
  | tuple {k : Nat} {xs : List D} (h : ∀ x ∈ xs, Fine k x) : Fine (k + 1) (.tuple xs)
theorem layAll {xs : List D} (h : ∀ x ∈ xs, x.canLay0 = true) : PyData.canLayAll0 xs = true := by
  induction xs with
  | nil => rfl
  | cons x xs ih =>
    rw [PyData.canLayAll0, h x List.mem_cons_self, ih fun y hy => h y (List.mem_cons_of_mem _ hy)]; rfl
theorem depAll {xs : List D} {k : Nat} (h : ∀ x ∈ xs, x.depth ≤ k) : PyData.depthAll xs ≤ k := by
  induction xs with
  | nil => rw [PyData.depthAll]; omega
  | cons x xs ih =>
    rw [PyData.depthAll]
    have := h x List.mem_cons_self
    have := ih fun y hy => h y (List.mem_cons_of_mem _ hy)
    omega
theorem Fine.lay {k : Nat} {d : D} (h : Fine k d) : d.canLay0 = true := by
  induction h with
  | none => rfl
  | int => rfl
  | str h => rw [PyData.canLay0]; exact h
  | list h ih => rw [PyData.canLay0]; exact layAll ih
  | tuple h ih => rw [PyData.canLay0]; exact layAll ih
theorem Fine.dep {k : Nat} {d : D} (h : Fine k d) : d.depth ≤ k := by
  induction h with
  | none => simp [PyData.depth]
  | int => simp [PyData.depth]
  | str h => simp [PyData.depth]
  | list h ih => rw [PyData.depth]; exact Nat.succ_le_succ (depAll ih)
  | tuple h ih => rw [PyData.depth]; exact Nat.succ_le_succ (depAll ih)
theorem Fine.sh {k : Nat} {d : D} (h : Fine k d) (le : k ≤ 64) : SeqAt.shaped d = true := by
  unfold SeqAt.shaped; rw [h.lay, Bool.true_and]; exact decide_eq_true (Nat.le_trans h.dep le)
theorem eqvAll_iff {xs : List D} : ∀ {ys : List D}, (∀ x ∈ xs, ∀ y ∈ ys, (PyData.eqv x y = true ↔ x = y)) → (PyData.eqvAll xs ys = true ↔ xs = ys) := by
  induction xs with
  | nil =>
    intro ys h
    cases ys <;> simp [PyData.eqvAll]
  | cons x xs ih =>
    intro ys h
    cases ys with
    | nil => simp [PyData.eqvAll]
    | cons y ys =>
      rw [PyData.eqvAll, Bool.and_eq_true, h x List.mem_cons_self y List.mem_cons_self, ih fun a ha b hb => h a (List.mem_cons_of_mem _ ha) b (List.mem_cons_of_mem _ hb), List.cons.injEq]
theorem Fine.eqv {k : Nat} {d : D} (h : Fine k d) : ∀ {l : Nat} {e : D}, Fine l e → (PyData.eqv d e = true ↔ d = e) := by
  induction h with
  | none => intro l e g; cases g <;> simp [PyData.eqv]
  | int => intro l e g; cases g <;> simp [PyData.eqv]
  | str h => intro l e g; cases g <;> simp [PyData.eqv]
  | list h ih =>
    intro l e g
    cases g with
    | list g => rw [PyData.eqv, PyData.list.injEq]; exact eqvAll_iff fun x hx y hy => ih x hx (g y hy)
    | _ => simp [PyData.eqv]
  | tuple h ih =>
    intro l e g
    cases g with
    | tuple g => rw [PyData.eqv, PyData.tuple.injEq]; exact eqvAll_iff fun x hx y hy => ih x hx (g y hy)
    | _ => simp [PyData.eqv]
open Classical in
theorem oEq_is {d e : D} (h : Fine 9 d) (g : Fine 9 e) : oEq d e = some (.bool (decide (d = e))) := by
  unfold oEq
  rw [if_pos ⟨h.sh (by decide), g.sh (by decide)⟩, Bool.eq_iff_iff.mpr ((h.eqv g).trans (decide_eq_true_iff (p := d = e)).symm)]
open Classical in
theorem oNe_is {d e : D} (h : Fine 9 d) (g : Fine 9 e) : oNe d e = some (.bool (!decide (d = e))) := by
  unfold oNe
  rw [if_pos ⟨h.sh (by decide), g.sh (by decide)⟩, Bool.eq_iff_iff.mpr ((h.eqv g).trans (decide_eq_true_iff (p := d = e)).symm)]
theorem oEq_int {i j : Int} : oEq (.int i) (.int j) = some (.bool (decide (i = j))) := by
  rw [oEq_is (.int _) (.int _)]; simp
theorem oNe_int {i j : Int} : oNe (.int i) (.int j) = some (.bool (!decide (i = j))) := by
  rw [oNe_is (.int _) (.int _)]; simp
abbrev okS (x : Str) : Prop := x.cps.all (· < 0x110000) = true
theorem oEq_str {x y : Str} (h : okS x) (g : okS y) : oEq (.str x) (.str y) = some (.bool (decide (x = y))) := by
  rw [oEq_is (.str h) (.str g)]; simp
theorem oNe_str {x y : Str} (h : okS x) (g : okS y) : oNe (.str x) (.str y) = some (.bool (!decide (x = y))) := by
  rw [oNe_is (.str h) (.str g)]; simp
theorem isL.ok {x : Str} (h : isL x) : okS x := by
  obtain ⟨c, rfl, h1, h2⟩ := h
  simp [okS]; omega
theorem isL.len {x : Str} (h : isL x) : x.length = 1 := by
  obtain ⟨c, rfl, h1, h2⟩ := h; rfl
theorem fine_strs {k : Nat} {xs : List Str} (h : ∀ x ∈ xs, okS x) : ∀ d ∈ xs.map PyData.str, Fine k d := fun d hd => by
  obtain ⟨x, hx, rfl⟩ := List.mem_map.mp hd
  exact .str (h x hx)
theorem fine_tupL {k : Nat} {xs : List Str} (h : ∀ x ∈ xs, okS x) : Fine (k + 1) (tupL xs) := .tuple (fine_strs h)
theorem fine_lstL {k : Nat} {xs : List Str} (h : ∀ x ∈ xs, okS x) : Fine (k + 1) (lstL xs) := .list (fine_strs h)
theorem GRow.oks {r : List Str} (h : GRow r) : ∀ x ∈ r, okS x := fun x hx => (h.let' x hx).ok
theorem getD_of {α : Type} {r : List α} {p : Nat} {x : α} (h : p < r.length) : r.getD p x = r[p] := by
  simp [List.getD, List.getElem?_eq_getElem h]

theorem ixN_nat {n p : Nat} (h : p < n) : ixN n (p : Int) = some p := by
  unfold ixN; rw [if_pos (by omega), if_pos (by omega), Int.toNat_natCast]
theorem atI_nat {α : Type} {xs : List α} {p : Nat} (h : p < xs.length) : atI xs (p : Int) = some xs[p] := by
  unfold atI; rw [ixN_nat h]; exact List.getElem?_eq_getElem h
theorem oIx_tupL {r : List Str} {p : Nat} (h : p < r.length) : oIx (tupL r) (.int p) = some (.str (r.getD p "")) := by
  show atI (r.map PyData.str) p = _
  rw [atI_nat (by rw [List.length_map]; exact h), List.getElem_map, getD_of h]
theorem oIx_lstL {r : List Str} {p : Nat} (h : p < r.length) : oIx (lstL r) (.int p) = some (.str (r.getD p "")) := by
  show atI (r.map PyData.str) p = _
  rw [atI_nat (by rw [List.length_map]; exact h), List.getElem_map, getD_of h]
theorem oLen_tupL {r : List Str} : oLen [tupL r] = some (.int r.length) := by
  show some (PyData.int (r.map PyData.str).length) = _; rw [List.length_map]
theorem oLen_lstL {r : List Str} : oLen [lstL r] = some (.int r.length) := by
  show some (PyData.int (r.map PyData.str).length) = _; rw [List.length_map]
theorem blsOf_rep : ∀ n : Nat, blsOf (List.replicate n (.bool true)) = some (List.replicate n true)
  | 0 => rfl
  | n + 1 => by rw [List.replicate_succ, blsOf, blsOf_rep n]; rfl
theorem oAll_rep (n : Nat) : oAll [.list (List.replicate n (.bool true))] = some (.bool true) := by
  show (blsOf _).map _ = _
  rw [blsOf_rep]; simp
theorem cut_to {xs : List D} {p : Nat} : cutD xs none (some p) = xs.take p := by
  unfold cutD; rw [HT.sIx_none, HT.sIx_nat, Nat.sub_zero, List.drop_zero]
  by_cases h : p ≤ xs.length
  · rw [Nat.min_eq_left h]
  · rw [Nat.min_eq_right (by omega), List.take_of_length_le (Nat.le_refl _), List.take_of_length_le (by omega)]
theorem cut_from {xs : List D} {p : Nat} : cutD xs (some p) none = xs.drop p := by
  unfold cutD; rw [HT.sIx_none, HT.sIx_nat]
  by_cases h : p ≤ xs.length
  · rw [Nat.min_eq_left h, List.take_of_length_le (by rw [List.length_drop]; omega)]
  · rw [Nat.min_eq_right (by omega), List.drop_eq_nil_of_le (Nat.le_refl _), List.drop_eq_nil_of_le (by omega)]; simp
theorem oSl_to {r : List Str} {p : Nat} : oSlice none (some p) (tupL r) = some (tupL (r.take p)) := by
  show some (PyData.tuple (cutD _ _ _)) = _; rw [cut_to, ← List.map_take]
theorem oAdd_int {i j : Int} : oAdd (.int i) (.int j) = some (.int (i + j)) := rfl
theorem oU_int {c : Int → Int → Bool} {d : Str → Str → Bool} {i j : Int} : oU c d (.int i) (.int j) = some (.bool (c i j)) := rfl
theorem oU_str {c : Int → Int → Bool} {d : Str → Str → Bool} {i j : Str} : oU c d (.str i) (.str j) = some (.bool (d i j)) := rfl
theorem comp_all {j : Nat} {vs : List Nat} {A : TDE} {Q : List D → List Sl → Prop} {ρ0 : List Sl} (I : D → Prop) (out : D → D)
    (own : (vs.all fun v => plainAt v ρ0) = true) (back : ∀ d, backD ρ0 ((wipeD ρ0 vs).set j (.sh d)) vs = ρ0)
    (turn : ∀ d (R : D → List Sl → Prop), I d → R (out d) ((wipeD ρ0 vs).set j (.sh d)) → A ((wipeD ρ0 vs).set j (.sh d)) R) :
    ∀ (ds acc : List D), (∀ d ∈ ds, I d) → acc.length + ds.length ≤ 100000 → Q (acc ++ ds.map out) ρ0 → compD j vs dYes A Q ds acc ρ0
  | [], acc, _, _, q => by simpa [compD] using q
  | d :: ds, acc, h, few, q => by
    refine ⟨own, fun _ => ?_, fun z => by cases z⟩
    refine turn d _ (h d List.mem_cons_self) ⟨by rw [List.length_cons] at few; omega, ?_⟩
    rw [back]
    refine comp_all I out own back turn ds _ (fun e he => h e (List.mem_cons_of_mem _ he)) (by rw [List.length_append]; rw [List.length_cons] at few; simp only [List.length_cons, List.length_nil]; omega) ?_
    rw [List.append_assoc]; exact q
theorem w_eq {a : Str} (ha : okS a) : oEq (.str a) (.str a) = some (.bool true) := by rw [oEq_str ha ha, decide_eq_true rfl]
theorem w_ne {a b : Str} (ha : okS a) (hb : okS b) (h : a ≠ b) : oEq (.str a) (.str b) = some (.bool false) := by rw [oEq_str ha hb, decide_eq_false h]
theorem n_eq {a : Str} (ha : okS a) : oNe (.str a) (.str a) = some (.bool false) := by rw [oNe_str ha ha, decide_eq_true rfl]; rfl
theorem n_ne {a b : Str} (ha : okS a) (hb : okS b) (h : a ≠ b) : oNe (.str a) (.str b) = some (.bool true) := by rw [oNe_str ha hb, decide_eq_false h]; rfl
theorem w_place_place : oEq (.str (Str.ofString "place")) (.str (Str.ofString "place")) = some (.bool true) := w_eq (by decide +kernel)
theorem n_place_place : oNe (.str (Str.ofString "place")) (.str (Str.ofString "place")) = some (.bool false) := n_eq (by decide +kernel)
theorem w_place_name : oEq (.str (Str.ofString "place")) (.str (Str.ofString "name")) = some (.bool false) := w_ne (by decide +kernel) (by decide +kernel) (by decide +kernel)
theorem n_place_name : oNe (.str (Str.ofString "place")) (.str (Str.ofString "name")) = some (.bool true) := n_ne (by decide +kernel) (by decide +kernel) (by decide +kernel)
theorem w_place_lost : oEq (.str (Str.ofString "place")) (.str (Str.ofString "lost")) = some (.bool false) := w_ne (by decide +kernel) (by decide +kernel) (by decide +kernel)
theorem n_place_lost : oNe (.str (Str.ofString "place")) (.str (Str.ofString "lost")) = some (.bool true) := n_ne (by decide +kernel) (by decide +kernel) (by decide +kernel)
theorem w_place_twice : oEq (.str (Str.ofString "place")) (.str (Str.ofString "twice")) = some (.bool false) := w_ne (by decide +kernel) (by decide +kernel) (by decide +kernel)
theorem n_place_twice : oNe (.str (Str.ofString "place")) (.str (Str.ofString "twice")) = some (.bool true) := n_ne (by decide +kernel) (by decide +kernel) (by decide +kernel)
theorem w_place_as : oEq (.str (Str.ofString "place")) (.str (Str.ofString "as")) = some (.bool false) := w_ne (by decide +kernel) (by decide +kernel) (by decide +kernel)
theorem n_place_as : oNe (.str (Str.ofString "place")) (.str (Str.ofString "as")) = some (.bool true) := n_ne (by decide +kernel) (by decide +kernel) (by decide +kernel)
theorem w_name_place : oEq (.str (Str.ofString "name")) (.str (Str.ofString "place")) = some (.bool false) := w_ne (by decide +kernel) (by decide +kernel) (by decide +kernel)
theorem n_name_place : oNe (.str (Str.ofString "name")) (.str (Str.ofString "place")) = some (.bool true) := n_ne (by decide +kernel) (by decide +kernel) (by decide +kernel)
theorem w_name_name : oEq (.str (Str.ofString "name")) (.str (Str.ofString "name")) = some (.bool true) := w_eq (by decide +kernel)
theorem n_name_name : oNe (.str (Str.ofString "name")) (.str (Str.ofString "name")) = some (.bool false) := n_eq (by decide +kernel)
theorem w_name_lost : oEq (.str (Str.ofString "name")) (.str (Str.ofString "lost")) = some (.bool false) := w_ne (by decide +kernel) (by decide +kernel) (by decide +kernel)
theorem n_name_lost : oNe (.str (Str.ofString "name")) (.str (Str.ofString "lost")) = some (.bool true) := n_ne (by decide +kernel) (by decide +kernel) (by decide +kernel)
theorem w_name_twice : oEq (.str (Str.ofString "name")) (.str (Str.ofString "twice")) = some (.bool false) := w_ne (by decide +kernel) (by decide +kernel) (by decide +kernel)
theorem n_name_twice : oNe (.str (Str.ofString "name")) (.str (Str.ofString "twice")) = some (.bool true) := n_ne (by decide +kernel) (by decide +kernel) (by decide +kernel)
theorem w_name_as : oEq (.str (Str.ofString "name")) (.str (Str.ofString "as")) = some (.bool false) := w_ne (by decide +kernel) (by decide +kernel) (by decide +kernel)
theorem n_name_as : oNe (.str (Str.ofString "name")) (.str (Str.ofString "as")) = some (.bool true) := n_ne (by decide +kernel) (by decide +kernel) (by decide +kernel)
theorem w_lost_place : oEq (.str (Str.ofString "lost")) (.str (Str.ofString "place")) = some (.bool false) := w_ne (by decide +kernel) (by decide +kernel) (by decide +kernel)
theorem n_lost_place : oNe (.str (Str.ofString "lost")) (.str (Str.ofString "place")) = some (.bool true) := n_ne (by decide +kernel) (by decide +kernel) (by decide +kernel)
theorem w_lost_name : oEq (.str (Str.ofString "lost")) (.str (Str.ofString "name")) = some (.bool false) := w_ne (by decide +kernel) (by decide +kernel) (by decide +kernel)
theorem n_lost_name : oNe (.str (Str.ofString "lost")) (.str (Str.ofString "name")) = some (.bool true) := n_ne (by decide +kernel) (by decide +kernel) (by decide +kernel)
theorem w_lost_lost : oEq (.str (Str.ofString "lost")) (.str (Str.ofString "lost")) = some (.bool true) := w_eq (by decide +kernel)
theorem n_lost_lost : oNe (.str (Str.ofString "lost")) (.str (Str.ofString "lost")) = some (.bool false) := n_eq (by decide +kernel)
theorem w_lost_twice : oEq (.str (Str.ofString "lost")) (.str (Str.ofString "twice")) = some (.bool false) := w_ne (by decide +kernel) (by decide +kernel) (by decide +kernel)
theorem n_lost_twice : oNe (.str (Str.ofString "lost")) (.str (Str.ofString "twice")) = some (.bool true) := n_ne (by decide +kernel) (by decide +kernel) (by decide +kernel)
theorem w_lost_as : oEq (.str (Str.ofString "lost")) (.str (Str.ofString "as")) = some (.bool false) := w_ne (by decide +kernel) (by decide +kernel) (by decide +kernel)
theorem n_lost_as : oNe (.str (Str.ofString "lost")) (.str (Str.ofString "as")) = some (.bool true) := n_ne (by decide +kernel) (by decide +kernel) (by decide +kernel)
theorem w_twice_place : oEq (.str (Str.ofString "twice")) (.str (Str.ofString "place")) = some (.bool false) := w_ne (by decide +kernel) (by decide +kernel) (by decide +kernel)
theorem n_twice_place : oNe (.str (Str.ofString "twice")) (.str (Str.ofString "place")) = some (.bool true) := n_ne (by decide +kernel) (by decide +kernel) (by decide +kernel)
theorem w_twice_name : oEq (.str (Str.ofString "twice")) (.str (Str.ofString "name")) = some (.bool false) := w_ne (by decide +kernel) (by decide +kernel) (by decide +kernel)
theorem n_twice_name : oNe (.str (Str.ofString "twice")) (.str (Str.ofString "name")) = some (.bool true) := n_ne (by decide +kernel) (by decide +kernel) (by decide +kernel)
theorem w_twice_lost : oEq (.str (Str.ofString "twice")) (.str (Str.ofString "lost")) = some (.bool false) := w_ne (by decide +kernel) (by decide +kernel) (by decide +kernel)
theorem n_twice_lost : oNe (.str (Str.ofString "twice")) (.str (Str.ofString "lost")) = some (.bool true) := n_ne (by decide +kernel) (by decide +kernel) (by decide +kernel)
theorem w_twice_twice : oEq (.str (Str.ofString "twice")) (.str (Str.ofString "twice")) = some (.bool true) := w_eq (by decide +kernel)
theorem n_twice_twice : oNe (.str (Str.ofString "twice")) (.str (Str.ofString "twice")) = some (.bool false) := n_eq (by decide +kernel)
theorem w_twice_as : oEq (.str (Str.ofString "twice")) (.str (Str.ofString "as")) = some (.bool false) := w_ne (by decide +kernel) (by decide +kernel) (by decide +kernel)
theorem n_twice_as : oNe (.str (Str.ofString "twice")) (.str (Str.ofString "as")) = some (.bool true) := n_ne (by decide +kernel) (by decide +kernel) (by decide +kernel)
theorem w_as_place : oEq (.str (Str.ofString "as")) (.str (Str.ofString "place")) = some (.bool false) := w_ne (by decide +kernel) (by decide +kernel) (by decide +kernel)
theorem n_as_place : oNe (.str (Str.ofString "as")) (.str (Str.ofString "place")) = some (.bool true) := n_ne (by decide +kernel) (by decide +kernel) (by decide +kernel)
theorem w_as_name : oEq (.str (Str.ofString "as")) (.str (Str.ofString "name")) = some (.bool false) := w_ne (by decide +kernel) (by decide +kernel) (by decide +kernel)
theorem n_as_name : oNe (.str (Str.ofString "as")) (.str (Str.ofString "name")) = some (.bool true) := n_ne (by decide +kernel) (by decide +kernel) (by decide +kernel)
theorem w_as_lost : oEq (.str (Str.ofString "as")) (.str (Str.ofString "lost")) = some (.bool false) := w_ne (by decide +kernel) (by decide +kernel) (by decide +kernel)
theorem n_as_lost : oNe (.str (Str.ofString "as")) (.str (Str.ofString "lost")) = some (.bool true) := n_ne (by decide +kernel) (by decide +kernel) (by decide +kernel)
theorem w_as_twice : oEq (.str (Str.ofString "as")) (.str (Str.ofString "twice")) = some (.bool false) := w_ne (by decide +kernel) (by decide +kernel) (by decide +kernel)
theorem n_as_twice : oNe (.str (Str.ofString "as")) (.str (Str.ofString "twice")) = some (.bool true) := n_ne (by decide +kernel) (by decide +kernel) (by decide +kernel)
theorem w_as_as : oEq (.str (Str.ofString "as")) (.str (Str.ofString "as")) = some (.bool true) := w_eq (by decide +kernel)
theorem n_as_as : oNe (.str (Str.ofString "as")) (.str (Str.ofString "as")) = some (.bool false) := n_eq (by decide +kernel)
theorem ix0 {x : D} {xs : List D} : oIx (.tuple (x :: xs)) (.int 0) = some x := by
  show atI _ _ = _
  have := atI_nat (xs := x :: xs) (p := 0) (by simp)
  simpa using this
theorem ix1 {x y : D} {xs : List D} : oIx (.tuple (x :: y :: xs)) (.int 1) = some y := by
  show atI _ _ = _
  have := atI_nat (xs := x :: y :: xs) (p := 1) (by simp)
  simpa using this
theorem ix2 {x y z : D} {xs : List D} : oIx (.tuple (x :: y :: z :: xs)) (.int 2) = some z := by
  show atI _ _ = _
  have := atI_nat (xs := x :: y :: z :: xs) (p := 2) (by simp)
  simpa using this
theorem ixl0 {x : D} {xs : List D} : oIx (.list (x :: xs)) (.int 0) = some x := ix0
theorem ixl1 {x y : D} {xs : List D} : oIx (.list (x :: y :: xs)) (.int 1) = some y := ix1
theorem ixl2 {x y z : D} {xs : List D} : oIx (.list (x :: y :: z :: xs)) (.int 2) = some z := ix2
theorem ixm2 {x y : D} : oIx (.tuple [x, y]) (.int (-1)) = some y := rfl
theorem ixm3 {x y z : D} : oIx (.tuple [x, y, z]) (.int (-1)) = some z := rfl
theorem len2 {x y : D} : oLen [.tuple [x, y]] = some (.int 2) := rfl
theorem len3 {x y z : D} : oLen [.tuple [x, y, z]] = some (.int 3) := rfl
theorem neg1 : oNeg (.int 1) = some (.int (-1)) := rfl
theorem ty_tup {xs : List D} : tyD (.tuple xs) = "tuple" := rfl
theorem ty_lst {xs : List D} : tyD (.list xs) = "list" := rfl
theorem ty_str {xs : Str} : tyD (.str xs) = "str" := rfl
theorem ty_int {i : Int} : tyD (.int i) = "int" := rfl
theorem idxS_mem {x : Str} : ∀ {r : List Str}, x ∈ r → ∃ j, idxS x r = some j ∧ j < r.length
  | [], h => by cases h
  | y :: r, h => by
    unfold idxS
    by_cases e : y = x
    · exact ⟨0, by rw [if_pos e], by simp⟩
    · rw [if_neg e]
      rcases List.mem_cons.mp h with z | z
      · exact absurd z.symm e
      · obtain ⟨j, h1, h2⟩ := idxS_mem z
        exact ⟨j + 1, by rw [h1]; rfl, by rw [List.length_cons]; omega⟩
theorem idx_lt {x : Str} {r : List Str} (h : x ∈ r) : (idxS x r).getD 0 < r.length := by
  obtain ⟨j, h1, h2⟩ := idxS_mem h
  rw [h1]; exact h2
theorem metS_nd {r : List Str} (h : r.Nodup) : metS r = r := by
  have key : ∀ (l acc : List Str), (acc ++ l).Nodup → l.foldl (fun acc x => if x ∈ acc then acc else acc ++ [x]) acc = acc ++ l := by
    intro l
    induction l with
    | nil => intro acc _; simp
    | cons x l ih =>
      intro acc nd
      have hx : x ∉ acc := fun z => by
        rw [List.nodup_append] at nd
        exact nd.2.2 x z x List.mem_cons_self rfl
      rw [List.foldl_cons, if_neg hx, ih (acc ++ [x]) (by rw [List.append_assoc]; exact nd), List.append_assoc]; rfl
  have := key r [] h
  simpa [metS] using this
theorem oLenSet_nd {r : List Str} (h : r.Nodup) (few : r.length < 4000) : oLenSet (tupL r) = some (.int r.length) := by
  show (strsOf (r.map PyData.str)).bind _ = _
  rw [strsOf_map, Option.bind_some, if_pos few, metS_nd h]
theorem oSorted_tupL {r : List Str} (few : r.length < 64) : oSorted [tupL r] = some ((sortS r).map PyData.str) := by
  show (strsOf (r.map PyData.str)).bind _ = _
  rw [strsOf_map, Option.bind_some, if_pos few]
theorem oAll_tt {xs : List D} : oAll [.list (xs.map fun _ => PyData.bool true)] = some (.bool true) := by
  rw [List.map_const']; exact oAll_rep _
theorem oSL_of {r : List Str} (few : r.length < 64) : oL oSorted [tupL r] = some (lstL (sortS r)) := by
  unfold oL; rw [oSorted_tupL few]; rfl
theorem oIn_strs {x : Str} {r : List Str} (h : x ∈ r) : oIn false (.str x) (tupL r) = some (.bool true) := by
  show (((strsOf (r.map PyData.str)).map fun ys => decide (x ∈ ys)).or _).map _ = _
  rw [strsOf_map]
  show some (PyData.bool (decide (x ∈ r))) = _
  rw [decide_eq_true h]
theorem GPair.len {t h : List Str} (p : GPair t h) : h.length = t.length := p.pm.length_eq.symm
theorem oMul_l {i j : Int} (h : -18446744073709551616 < i ∧ i < 18446744073709551616) : oMul (.int i) (.int j) = some (.int (i * j)) := if_pos (.inl h)
theorem oPow3 {x : Int} (h0 : 0 ≤ x) (h1 : x < 1000000000000000000000000000000000000000000) : oPow (.int x) (.int 3) = some (.int (x ^ 3)) :=
  if_pos ⟨by omega, by omega, Nat.lt_of_lt_of_le (show x.natAbs < 1000000000000000000000000000000000000000000 by omega) (by decide +kernel)⟩
theorem oPow_p {x : Int} {k : Nat} {z : Int} (hk : k ≤ 1000) (h : x.natAbs < 1000000) (e : x ^ k = z) : oPow (.int x) (.int k) = some (.int z) := by
  show (if 0 ≤ (k : Int) ∧ (k : Int) ≤ 1000 ∧ x.natAbs < 2 ^ 1024 then some (PyData.int (x ^ (k : Int).toNat)) else none) = _
  rw [if_pos ⟨by omega, by omega, Nat.lt_trans h (by decide +kernel)⟩, Int.toNat_natCast, e]
theorem pw38 : oPow (.int 10) (.int 38) = some (.int 100000000000000000000000000000000000000) := oPow_p (k := 38) (by decide) (by decide) (by decide +kernel)
theorem pw35 : oPow (.int 10) (.int 35) = some (.int 100000000000000000000000000000000000) := oPow_p (k := 35) (by decide) (by decide) (by decide +kernel)
theorem pw37 : oPow (.int 10) (.int 37) = some (.int 10000000000000000000000000000000000000) := oPow_p (k := 37) (by decide) (by decide) (by decide +kernel)
theorem pw18 : oPow (.int 10) (.int 18) = some (.int 1000000000000000000) := oPow_p (k := 18) (by decide) (by decide) (by decide +kernel)
theorem oMod_p {i j : Int} (h : 0 < j) : oMod (.int i) (.int j) = some (.int (i % j)) := if_pos h
theorem oDiv_p {i j : Int} (h : 0 < j) (g : j < 1073741824) : oDiv (.int i) (.int j) = some (.int (i / j)) := if_pos ⟨h, g⟩
end TN
set_option Elab.async false
set_option linter.all false
set_option maxRecDepth 100000
set_option maxHeartbeats 2000000
set_option autoImplicit false
namespace TN
open PySem PySem.Spec PyProof.Rows L2
theorem split_at {r : List Str} {p : Nat} (h : p < r.length) : r.take p ++ ([r.getD p ""] ++ r.drop (p + 1)) = r := by
  rw [getD_of h]
  show r.take p ++ (r[p] :: r.drop (p + 1)) = r
  rw [← List.drop_eq_getElem_cons h, List.take_append_drop]
theorem toF_perm {r : List Str} {p : Nat} (h : p < r.length) : (toF r p).Perm r := by
  have e := split_at h
  unfold toF
  rw [List.append_assoc]
  refine (List.Perm.trans ?_ (List.Perm.of_eq e))
  rw [← List.append_assoc, ← List.append_assoc]
  exact List.Perm.append_right _ List.perm_append_comm
theorem toF_len {r : List Str} {p : Nat} (h : p < r.length) : (toF r p).length = r.length := (toF_perm h).length_eq
theorem Ev.ok_perm {r r' : List Str} (p : r.Perm r') {e : Ev} (h : e.ok r) : e.ok r' := by
  have l := p.length_eq
  cases e with
  | name x => exact p.mem_iff.mp h
  | as' a b => exact ⟨l ▸ h.1, l ▸ h.2.1, h.2.2⟩
  | _ q => exact (l ▸ h : q < r'.length)
theorem Ev.at_lt {r : List Str} {e : Ev} (h : e.ok r) : e.at r < r.length := by
  cases e with
  | name x => exact idx_lt h
  | as' a b => exact h.1
  | _ q => exact h
theorem Ev.takes_lt {r : List Str} {e : Ev} (h : e.ok r) : ∀ p ∈ e.takes r, p < r.length := by
  intro p hp
  cases e with
  | name x => simp [Ev.takes] at hp; subst hp; exact idx_lt h
  | as' a b => simp [Ev.takes] at hp; subst hp; exact h.2.1
  | place q => simp [Ev.takes] at hp; subst hp; exact h
  | lost q => simp [Ev.takes] at hp
  | twice q => simp [Ev.takes] at hp; subst hp; exact h
theorem takeAll_perm : ∀ (ps : List Nat) {r : List Str}, (∀ p ∈ ps, p < r.length) → (takeAll r ps).1.Perm r
  | [], r, _ => .refl _
  | p :: ps, r, h => by
    have h0 := h p List.mem_cons_self
    exact (takeAll_perm ps (r := toF r p) fun q hq => toF_len h0 ▸ h q (List.mem_cons_of_mem _ hq)).trans (toF_perm h0)
abbrev mixEl : TDE := dPopAt 2 (dCallB semWind 0 (dCons (dP (fCB oLen (fCons (fPeek 2) fNil))) dNil))
theorem perm_out {L : List D} {k : Nat} {d : D} (h : L[k]? = some d) : L.Perm (d :: L.eraseIdx k) := by
  obtain ⟨hk, e⟩ := List.getElem?_eq_some_iff.mp h
  rw [List.eraseIdx_eq_take_drop_succ]
  refine List.Perm.trans (List.Perm.of_eq ?_) (List.perm_middle (a := d) (l₁ := L.take k) (l₂ := L.drop (k + 1)))
  rw [← e, ← List.drop_eq_getElem_cons hk, List.take_append_drop]
theorem mix_turns {Q : List D → List Sl → Prop} {a1 : Sl} : ∀ (ds acc L xs : List D) (n : Int), Spl n xs → n + ds.length ≤ big → ds.length = L.length → acc.length + L.length ≤ 1000 →
    (∀ L' ys, L'.Perm (acc ++ L) → Spl (n + ds.length) ys → Q L' [.ow ys, a1, .ow [], .no]) →
    compD 3 [3] dYes mixEl Q ds acc [.ow xs, a1, .ow L, .no]
  | [], acc, L, xs, n, sp, _, el, few, q => by
    have : L = [] := List.length_eq_zero_iff.mp el.symm
    subst this
    exact q acc xs (by rw [List.append_nil]) (by simpa using sp)
  | d :: ds, acc, L, xs, n, sp, hb, el, few, q => by
    rw [List.length_cons] at el
    have hb' : n + ((ds.length + 1 : Nat) : Int) ≤ 1000000000000 := hb
    refine ⟨rfl, fun _ => ?_, (fun z => by cases z)⟩
    (simp only [TN.sSeq, TN.sNext, TN.sDrop, TN.sRet, TN.sRetL, TN.sRetN, TN.sIf, TN.sAsg, TN.sAsgL, TN.sStore, TN.sForL, TN.sForT, TN.sForR, TN.sForR2, TN.tgN, TN.tgTup, TN.tgCons, TN.tgNil, TN.dP, TN.dB, TN.dCall, TN.dCallL, TN.dCallB, TN.dCallBL, TN.dCons, TN.dNil, TN.dTup, TN.dLst, TN.dKeep, TN.dVar, TN.fVar, TN.fPeek, TN.fC, TN.f2, TN.d2, TN.d2V, TN.f1, TN.d1, TN.fCB, TN.dCB, TN.dCBL, TN.fNil, TN.fCons, TN.asBool, TN.dTest, TN.bAnd, TN.bOr, TN.bNot, TN.dAnd, TN.dOr, TN.dNot, TN.fAndV, TN.fOrV, TN.fNotV, TN.dAndV, TN.dOrV, TN.dNotV, TN.dIfE, TN.dIfL, TN.fIfE, TN.fChain, TN.fSlice, TN.dSlice, TN.fNo, TN.fEnd, TN.dAppend, TN.dInsert, TN.dPopAt, TN.ownL, TN.start0, TN.begB, TN.backD, TN.wipeD, TN.dYes, TN.sNever, List.getElem?_cons_zero, List.getElem?_cons_succ, List.set_cons_zero, List.set_cons_succ, List.map_cons, List.map_nil, List.length_cons, List.length_nil, List.cons_append, List.nil_append, List.replicate_succ, List.replicate_zero, Option.map_some, Option.map_none, Nat.add_one_sub_one, Nat.sub_zero, Nat.sub_self, Nat.zero_add, reduceCtorEq, Option.some.injEq, PyData.int.injEq, PyData.str.injEq, PyData.bool.injEq, PyData.list.injEq, PyData.tuple.injEq, Sl.sh.injEq, Sl.ow.injEq, List.cons.injEq, exists_eq_left', exists_eq_left, true_implies, false_implies, and_true, true_and, forall_const, Option.isSome_some, TN.imp_ff, TN.imp_tf, TN.imp_tt, exists_eq_left, exists_eq_left', exists_eq])
    have l1 : oLen [.list L] = some (.int L.length) := rfl
    rw [l1]
    refine ⟨_, rfl, n, (L.length : Int), sp, by show n ≤ 1000000000000; omega, rfl, by omega, by omega, fun r ys r0 r1 sp' => ⟨_, rfl, ?_⟩⟩
    obtain ⟨k, rfl⟩ : ∃ k : Nat, r = k := ⟨r.toNat, by omega⟩
    have hk : k < L.length := by omega
    have hd : L[k]? = some L[k] := List.getElem?_eq_getElem hk
    refine ⟨L, (k : Int), k, L[k], rfl, by omega, rfl, ixN_nat hk, hd, by omega, ?_⟩
    have pe := perm_out hd
    have le := List.length_eraseIdx_of_lt hk
    refine mix_turns ds (acc ++ [L[k]]) (L.eraseIdx k) ys (n + 1) sp' (by show n + 1 + (ds.length : Int) ≤ 1000000000000; omega) (by omega) (by rw [List.length_append, List.length_singleton]; omega) fun L' ys' p sp2 => ?_
    refine q L' ys' (p.trans ?_) ?_
    · rw [List.append_assoc]
      exact List.Perm.append_left _ pe.symm
    · rw [List.length_cons]
      exact (by have : n + 1 + (ds.length : Int) = n + ((ds.length + 1 : Nat) : Int) := by omega
                rw [← this]; exact sp2)
theorem windN {n w : Int} {xs : List D} {Q : Sl → List D → Prop} (sp : Spl n xs) (hn : n ≤ big) (w0 : 0 < w) (w1 : w < 1073741824) (q : ∀ (k : Nat) (ys : List D), (k : Int) < w → Spl (n + 1) ys → Q (.sh (.int k)) ys) : semWind xs [.int w] Q :=
  ⟨n, w, sp, hn, rfl, w0, w1, fun r ys r0 r1 sp' => by
    obtain ⟨k, rfl⟩ : ∃ k : Nat, r = k := ⟨r.toNat, by omega⟩
    exact q k ys r1 sp'⟩
def unS : D → Str
  | .str s => s
  | _ => Str.empty
theorem mixS {n : Int} {d : D} {l : List Str} {xs : List D} {Q : Sl → List D → Prop} (sp : Spl n xs) (hn : n + 100 ≤ big) (l1 : oList [d] = some (l.map PyData.str)) (l2 : oLen [d] = some (.int l.length)) (few : l.length ≤ 64)
    (q : ∀ (l' : List Str) (ys : List D), l'.Perm l → Spl (n + 100) ys → Q (.sh (tupL l')) ys) : semMixed xs [d] Q :=
  ⟨n, d, l.map PyData.str, sp, hn, rfl, l1, by rw [List.length_map]; exact l2, by rw [List.length_map]; exact few, fun L' ys p sp' => by
    have un : ∀ L : List D, (∀ x ∈ L, ∃ s, x = PyData.str s) → ∃ l : List Str, L = l.map PyData.str := by
      intro L
      induction L with
      | nil => intro _; exact ⟨[], rfl⟩
      | cons x L ih =>
        intro h
        obtain ⟨s, rfl⟩ := h x List.mem_cons_self
        obtain ⟨l, rfl⟩ := ih fun y hy => h y (List.mem_cons_of_mem _ hy)
        exact ⟨s :: l, rfl⟩
    obtain ⟨l', rfl⟩ := un L' fun x hx => by
      obtain ⟨s, _, e⟩ := List.mem_map.mp (p.mem_iff.mp hx)
      exact ⟨s, e.symm⟩
    have p2 := p.map unS
    rw [List.map_map, List.map_map] at p2
    have e : unS ∘ PyData.str = id := rfl
    rw [e, List.map_id, List.map_id] at p2
    exact q l' ys p2 sp'⟩
abbrev SIGNS : Str := Str.ofString "abcdefghijklmnopqrstuvwxyz"
def alpha (n : Nat) : List Str := (List.range n).map fun c => (⟨#[97 + c]⟩ : Str)
theorem alpha_cut {n : Nat} (h : n ≤ 26) : ∃ z, oSlice none (some (n : Int)) (.str SIGNS) = some (.str z) ∧ oList [.str z] = some ((alpha n).map PyData.str) := by
  have key : ∀ n : Fin 27, (cutS SIGNS none (some ((n.val : Nat) : Int))).cps.toList = (List.range n.val).map (97 + ·) := by decide +kernel
  have k := key ⟨n, by omega⟩
  have few : SIGNS.length ≤ 100000 := by decide +kernel
  refine ⟨cutS SIGNS none (some (n : Int)), by show (if SIGNS.length ≤ 100000 then some (PyData.str (cutS SIGNS none (some (n : Int)))) else none) = _; rw [if_pos few], ?_⟩
  have sz : (cutS SIGNS none (some (n : Int))).cps.size ≤ 100000 := by
    rw [← Array.length_toList, k, List.length_map, List.length_range]; omega
  refine (if_pos sz).trans ?_
  rw [k, alpha, List.map_map, List.map_map]; rfl
theorem alpha_len (n : Nat) : (alpha n).length = n := by unfold alpha; rw [List.length_map, List.length_range]
theorem alpha_nd (n : Nat) : (alpha n).Nodup := by
  unfold alpha
  have hn : (List.range n).Nodup := List.nodup_range
  unfold List.Nodup at *
  rw [List.pairwise_map]
  refine hn.imp fun {a b} h z => h ?_
  injection z with z
  have : ([97 + a] : List Nat) = [97 + b] := congrArg Array.toList z
  injection this with this
  omega
theorem alpha_let {n : Nat} (h : n ≤ 26) : ∀ x ∈ alpha n, isL x := by
  intro x hx
  obtain ⟨c, hc, rfl⟩ := List.mem_map.mp hx
  have := List.mem_range.mp hc
  exact ⟨97 + c, rfl, by omega, by omega⟩
theorem row_take {l : List Str} {n : Nat} (p : l.Perm (alpha 26)) (h0 : 0 < n) (h1 : n ≤ 16) : GRow (l.take n) where
  ne := by
    have := p.length_eq
    rw [alpha_len] at this
    intro z
    have := congrArg List.length z
    rw [List.length_take, List.length_nil] at this
    omega
  few := by rw [List.length_take]; omega
  nd := (p.nodup_iff.mpr (alpha_nd 26)).sublist (List.take_sublist _ _)
  let' := fun x hx => alpha_let (by decide) x (p.mem_iff.mp (List.mem_of_mem_take hx))
theorem row_alpha {n : Nat} (h0 : 0 < n) (h1 : n ≤ 16) : GRow (alpha n) where
  ne := by
    intro z
    have := congrArg List.length z
    rw [alpha_len, List.length_nil] at this
    omega
  few := by rw [alpha_len]; omega
  nd := alpha_nd n
  let' := alpha_let (by omega)
theorem GRow.perm {r r' : List Str} (h : GRow r) (p : r'.Perm r) : GRow r' where
  ne := fun z => h.ne (by subst z; exact p.nil_eq.symm)
  few := by rw [p.length_eq]; exact h.few
  nd := p.nodup_iff.mpr h.nd
  let' := fun x hx => h.let' x (p.mem_iff.mp hx)
abbrev twoEl : TDS := sDrop (dInsert 4 (dP (fC (.int 0))) (dPopAt 4 (dCallB semWind 0 (dCons (dP (fCB oLen (fCons (fPeek 4) fNil))) dNil))))
theorem two_turns {E : DEnds} {a1 a2 a3 : Sl} : ∀ (ds : List D) (l : List Str) (xs : List D) (n : Int) (z : Sl), Spl n xs → n + ds.length ≤ big → l ≠ [] → l.length ≤ 1000 →
    (∀ (l' : List Str) (ys : List D) (z' : Sl), l'.Perm l → Spl (n + ds.length) ys → E.nx [.ow ys, a1, a2, a3, .ow (l'.map PyData.str), z']) →
    forD (tgN 5) twoEl E ds [.ow xs, a1, a2, a3, .ow (l.map PyData.str), z]
  | [], l, xs, n, z, sp, _, _, _, q => q l xs z (.refl _) (by simpa using sp)
  | d :: ds, l, xs, n, z, sp, hb, ne, few, q => by
    rw [List.length_cons] at hb
    have hb' : n + ((ds.length + 1 : Nat) : Int) ≤ 1000000000000 := hb
    have l0 : 0 < l.length := List.length_pos_iff.mpr ne
    show twoEl _ _
    (simp only [TN.sSeq, TN.sNext, TN.sDrop, TN.sRet, TN.sRetL, TN.sRetN, TN.sIf, TN.sAsg, TN.sAsgL, TN.sStore, TN.sForL, TN.sForT, TN.sForR, TN.sForR2, TN.tgN, TN.tgTup, TN.tgCons, TN.tgNil, TN.dP, TN.dB, TN.dCall, TN.dCallL, TN.dCallB, TN.dCallBL, TN.dCons, TN.dNil, TN.dTup, TN.dLst, TN.dKeep, TN.dVar, TN.fVar, TN.fPeek, TN.fC, TN.f2, TN.d2, TN.d2V, TN.f1, TN.d1, TN.fCB, TN.dCB, TN.dCBL, TN.fNil, TN.fCons, TN.asBool, TN.dTest, TN.bAnd, TN.bOr, TN.bNot, TN.dAnd, TN.dOr, TN.dNot, TN.fAndV, TN.fOrV, TN.fNotV, TN.dAndV, TN.dOrV, TN.dNotV, TN.dIfE, TN.dIfL, TN.fIfE, TN.fChain, TN.fSlice, TN.dSlice, TN.fNo, TN.fEnd, TN.dAppend, TN.dInsert, TN.dPopAt, TN.ownL, TN.start0, TN.begB, TN.backD, TN.wipeD, TN.dYes, TN.sNever, List.getElem?_cons_zero, List.getElem?_cons_succ, List.set_cons_zero, List.set_cons_succ, List.map_cons, List.map_nil, List.length_cons, List.length_nil, List.cons_append, List.nil_append, List.replicate_succ, List.replicate_zero, Option.map_some, Option.map_none, Nat.add_one_sub_one, Nat.sub_zero, Nat.sub_self, Nat.zero_add, reduceCtorEq, Option.some.injEq, PyData.int.injEq, PyData.str.injEq, PyData.bool.injEq, PyData.list.injEq, PyData.tuple.injEq, Sl.sh.injEq, Sl.ow.injEq, List.cons.injEq, exists_eq_left', exists_eq_left, true_implies, false_implies, and_true, true_and, forall_const, Option.isSome_some, TN.imp_ff, TN.imp_tf, TN.imp_tt, exists_eq_left, exists_eq_left', exists_eq])
    have l1 : oLen [.list (l.map PyData.str)] = some (.int l.length) := oLen_lstL
    rw [l1]
    refine ⟨_, rfl, windN sp (by show n ≤ 1000000000000; omega) (by omega) (by omega) fun k ys hk sp' => ⟨_, rfl, ?_⟩⟩
    have hk : k < l.length := by omega
    have hk2 : k < (l.map PyData.str).length := by rw [List.length_map]; exact hk
    have hd : (l.map PyData.str)[k]? = some (PyData.str l[k]) := by rw [List.getElem?_map, List.getElem?_eq_getElem hk]; rfl
    refine ⟨_, (k : Int), k, _, rfl, by rw [List.length_map]; omega, rfl, ixN_nat hk2, hd, _, 0, rfl, by rw [List.length_eraseIdx_of_lt hk2, List.length_map]; omega, rfl, by omega, by omega, ?_⟩
    have e : List.take (0 : Int).toNat ((l.map PyData.str).eraseIdx k) ++ PyData.str l[k] :: List.drop (0 : Int).toNat ((l.map PyData.str).eraseIdx k) = (l[k] :: l.eraseIdx k).map PyData.str := by
      show PyData.str l[k] :: (l.map PyData.str).eraseIdx k = _
      rw [List.eraseIdx_eq_take_drop_succ, List.eraseIdx_eq_take_drop_succ, List.map_cons, List.map_append, List.map_take, List.map_drop]
    rw [e]
    have pe : l.Perm (l[k] :: l.eraseIdx k) := by
      rw [List.eraseIdx_eq_take_drop_succ]
      refine List.Perm.trans (List.Perm.of_eq ?_) (List.perm_middle (a := l[k]) (l₁ := l.take k) (l₂ := l.drop (k + 1)))
      rw [← List.drop_eq_getElem_cons hk, List.take_append_drop]
    refine two_turns ds (l[k] :: l.eraseIdx k) ys (n + 1) _ sp' (by show n + 1 + (ds.length : Int) ≤ 1000000000000; omega) (by simp) (by rw [← pe.length_eq]; exact few) fun l' ys' z' p sp2 => ?_
    refine q l' ys' z' (p.trans pe.symm) ?_
    rw [List.length_cons]
    have : n + 1 + (ds.length : Int) = n + ((ds.length + 1 : Nat) : Int) := by omega
    rw [← this]; exact sp2
abbrev GEv (r ks : List Str) (e : Ev) : Prop := e.ok r ∧ (e.kind ∈ ks ∨ e = .place 0)
abbrev evEl : TDE := dCallB semEvent 0 (dCons (dP (fVar 1)) (dCons (dP (fVar 3)) dNil))
theorem ev_turns {Q : List D → List Sl → Prop} {a2 : Sl} {r ks : List Str} (hr : GRow r) (hk : TN.Kinds ks) : ∀ (ds : List D) (es : List Ev) (xs : List D) (n : Int), Spl n xs → n + 10 * (ds.length : Int) ≤ big → es.length + ds.length ≤ 1000 → (∀ e ∈ es, GEv r ks e) →
    (∀ (es' : List Ev) (ys : List D), (∀ e ∈ es', GEv r ks e) → es'.length = es.length + ds.length → Spl (n + 10 * (ds.length : Int)) ys → Q (es'.map Ev.d) [.ow ys, .sh (tupL r), a2, .sh (lstL ks), .no]) →
    compD 4 [4] dYes evEl Q ds (es.map Ev.d) [.ow xs, .sh (tupL r), a2, .sh (lstL ks), .no]
  | [], es, xs, n, sp, _, _, h, q => q es xs h rfl (by simpa using sp)
  | d :: ds, es, xs, n, sp, hb, few, h, q => by
    have hb' : n + 10 * ((ds.length + 1 : Nat) : Int) ≤ 1000000000000 := hb
    rw [List.length_cons] at few
    refine ⟨rfl, fun _ => ?_, (fun z => by cases z)⟩
    (simp only [TN.sSeq, TN.sNext, TN.sDrop, TN.sRet, TN.sRetL, TN.sRetN, TN.sIf, TN.sAsg, TN.sAsgL, TN.sStore, TN.sForL, TN.sForT, TN.sForR, TN.sForR2, TN.tgN, TN.tgTup, TN.tgCons, TN.tgNil, TN.dP, TN.dB, TN.dCall, TN.dCallL, TN.dCallB, TN.dCallBL, TN.dCons, TN.dNil, TN.dTup, TN.dLst, TN.dKeep, TN.dVar, TN.fVar, TN.fPeek, TN.fC, TN.f2, TN.d2, TN.d2V, TN.f1, TN.d1, TN.fCB, TN.dCB, TN.dCBL, TN.fNil, TN.fCons, TN.asBool, TN.dTest, TN.bAnd, TN.bOr, TN.bNot, TN.dAnd, TN.dOr, TN.dNot, TN.fAndV, TN.fOrV, TN.fNotV, TN.dAndV, TN.dOrV, TN.dNotV, TN.dIfE, TN.dIfL, TN.fIfE, TN.fChain, TN.fSlice, TN.dSlice, TN.fNo, TN.fEnd, TN.dAppend, TN.dInsert, TN.dPopAt, TN.ownL, TN.start0, TN.begB, TN.backD, TN.wipeD, TN.dYes, TN.sNever, List.getElem?_cons_zero, List.getElem?_cons_succ, List.set_cons_zero, List.set_cons_succ, List.map_cons, List.map_nil, List.length_cons, List.length_nil, List.cons_append, List.nil_append, List.replicate_succ, List.replicate_zero, Option.map_some, Option.map_none, Nat.add_one_sub_one, Nat.sub_zero, Nat.sub_self, Nat.zero_add, reduceCtorEq, Option.some.injEq, PyData.int.injEq, PyData.str.injEq, PyData.bool.injEq, PyData.list.injEq, PyData.tuple.injEq, Sl.sh.injEq, Sl.ow.injEq, List.cons.injEq, exists_eq_left', exists_eq_left, true_implies, false_implies, and_true, true_and, forall_const, Option.isSome_some, TN.imp_ff, TN.imp_tf, TN.imp_tt, exists_eq_left, exists_eq_left', exists_eq])
    refine ⟨n, r, ks, sp, by show n + 10 ≤ 1000000000000; omega, rfl, hr, hk, fun e ys e1 e2 sp' => ⟨_, rfl, by rw [List.length_map]; omega, ?_⟩⟩
    have ee : es.map Ev.d ++ [e.d] = (es ++ [e]).map Ev.d := by rw [List.map_append]; rfl
    rw [ee]
    refine ev_turns hr hk ds (es ++ [e]) ys (n + 10) sp' (by show n + 10 + 10 * (ds.length : Int) ≤ 1000000000000; omega) (by rw [List.length_append, List.length_singleton]; omega) (fun x hx => ?_) fun es' ys' h1 h2 sp2 => ?_
    · rcases List.mem_append.mp hx with z | z
      · exact h x z
      · rw [List.mem_singleton.mp z]; exact ⟨e1, e2⟩
    · rw [List.length_append, List.length_singleton] at h2
      refine q es' ys' h1 (by rw [List.length_cons]; omega) ?_
      rw [List.length_cons]
      have : n + 10 + 10 * (ds.length : Int) = n + 10 * ((ds.length + 1 : Nat) : Int) := by omega
      rw [← this]; exact sp2
theorem pick3 {a b c : Int} {k : Nat} (h : (k : Int) < 3) {P : Int → Prop} (ha : P a) (hb : P b) (hc : P c) : ∃ x, oIx (.list [.int a, .int b, .int c]) (.int k) = some (.int x) ∧ P x := by
  have : k = 0 ∨ k = 1 ∨ k = 2 := by omega
  rcases this with rfl | rfl | rfl
  · exact ⟨a, rfl, ha⟩
  · exact ⟨b, rfl, hb⟩
  · exact ⟨c, rfl, hc⟩
theorem rangeD_len {j : Int} {n : Nat} : (rangeD j n).length = n := by unfold rangeD; rw [List.length_map, List.length_range]
end TN
set_option Elab.async false
set_option linter.all false
set_option maxRecDepth 100000
set_option maxHeartbeats 2000000
set_option autoImplicit false
namespace TN
open PySem PySem.Spec PyProof.Rows L2
section
variable {X : Cx} {K : PySem.W.Frag} {bor : List Nat} {ta tb te : TE} {f : FE} {A : TDL}
end
def semSpool (ds : List D) (Q : Sl → Prop) : Prop := ∃ (ns : List Int) (k : Nat), ds = [.list (ns.map PyData.int), .int k] ∧ k ≤ 1000 ∧ ns.length ≤ 1000 ∧ ∀ xs : List D, Spl 0 xs → Q (.ow xs)

def Ev.un : Ev → Prop
  | .name _ => False
  | _ => True
def Ev.p1 : Ev → Nat
  | .place p | .lost p | .twice p | .as' p _ => p
  | .name _ => 0
def semLaw (ds : List D) (Q : Sl → Prop) : Prop := ∃ ns : List Int, ds = [.list (ns.map PyData.int)] ∧ ns.length ≤ 63 ∧ Q (.sh (.bool true))
end TN
set_option Elab.async false
set_option linter.all false
set_option maxRecDepth 100000
set_option maxHeartbeats 2000000
set_option autoImplicit false
namespace TN
open PySem PySem.Spec PyProof.Rows L2
theorem runT_ok : ∀ (es : List Ev) (t : List Str), (∀ e ∈ es, e.ok t) → (runT t es).1.Perm t ∧ ∀ x ∈ (runT t es).2, x ∈ t
  | [], t, _ => ⟨.refl _, fun x hx => by cases hx⟩
  | e :: es, t, h => by
    have h0 := Ev.at_lt (h e List.mem_cons_self)
    have p := toF_perm h0
    obtain ⟨a, b⟩ := runT_ok es (toF t (e.at t)) fun x hx => Ev.ok_perm p.symm (h x (List.mem_cons_of_mem _ hx))
    refine ⟨a.trans p, fun x hx => ?_⟩
    rcases List.mem_cons.mp hx with rfl | z
    · rw [getD_of h0]; exact List.getElem_mem _
    · exact p.mem_iff.mp (b x z)
theorem takeAll_mem : ∀ (ps : List Nat) (r : List Str), (∀ p ∈ ps, p < r.length) → ∀ x ∈ (takeAll r ps).2, x ∈ r
  | [], r, _ => fun x hx => by cases hx
  | p :: ps, r, h => fun x hx => by
    have h0 := h p List.mem_cons_self
    rcases List.mem_cons.mp hx with rfl | z
    · rw [getD_of h0]; exact List.getElem_mem _
    · exact (toF_perm h0).mem_iff.mp (takeAll_mem ps (toF r p) (fun q hq => toF_len h0 ▸ h q (List.mem_cons_of_mem _ hq)) x z)
theorem runH_ok : ∀ (es : List Ev) (t : List Str), (∀ e ∈ es, e.ok t) → (runH t es).1.Perm t ∧ ∀ x ∈ (runH t es).2, x ∈ t
  | [], t, _ => ⟨.refl _, fun x hx => by cases hx⟩
  | e :: es, t, h => by
    have h0 := Ev.takes_lt (h e List.mem_cons_self)
    have p := takeAll_perm (e.takes t) h0
    obtain ⟨a, b⟩ := runH_ok es (takeAll t (e.takes t)).1 fun x hx => Ev.ok_perm p.symm (h x (List.mem_cons_of_mem _ hx))
    refine ⟨a.trans p, fun x hx => ?_⟩
    rcases List.mem_append.mp hx with z | z
    · exact takeAll_mem _ t h0 x z
    · exact p.mem_iff.mp (b x z)
theorem oNe_same {d : D} (h : Fine 9 d) : oNe d d = some (.bool false) := by rw [oNe_is h h]; simp
theorem lit_place : oLit [(Str.ofString "lost", 0), (Str.ofString "twice", 2)] (.str (Str.ofString "place")) (.int 1) = some (.int 1) := by
  show some (PyData.int (litGet [(Str.ofString "lost", 0), (Str.ofString "twice", 2)] (Str.ofString "place") 1)) = _
  rw [show litGet [(Str.ofString "lost", 0), (Str.ofString "twice", 2)] (Str.ofString "place") 1 = 1 from by decide +kernel]
theorem lit_lost : oLit [(Str.ofString "lost", 0), (Str.ofString "twice", 2)] (.str (Str.ofString "lost")) (.int 1) = some (.int 0) := by
  show some (PyData.int (litGet [(Str.ofString "lost", 0), (Str.ofString "twice", 2)] (Str.ofString "lost") 1)) = _
  rw [show litGet [(Str.ofString "lost", 0), (Str.ofString "twice", 2)] (Str.ofString "lost") 1 = 0 from by decide +kernel]
theorem lit_twice : oLit [(Str.ofString "lost", 0), (Str.ofString "twice", 2)] (.str (Str.ofString "twice")) (.int 1) = some (.int 2) := by
  show some (PyData.int (litGet [(Str.ofString "lost", 0), (Str.ofString "twice", 2)] (Str.ofString "twice") 1)) = _
  rw [show litGet [(Str.ofString "lost", 0), (Str.ofString "twice", 2)] (Str.ofString "twice") 1 = 2 from by decide +kernel]
theorem lit_as : oLit [(Str.ofString "lost", 0), (Str.ofString "twice", 2)] (.str (Str.ofString "as")) (.int 1) = some (.int 1) := by
  show some (PyData.int (litGet [(Str.ofString "lost", 0), (Str.ofString "twice", 2)] (Str.ofString "as") 1)) = _
  rw [show litGet [(Str.ofString "lost", 0), (Str.ofString "twice", 2)] (Str.ofString "as") 1 = 1 from by decide +kernel]
end TN
set_option Elab.async false
set_option linter.all false
set_option maxRecDepth 100000
set_option maxHeartbeats 4000000
set_option autoImplicit false
namespace TN
open PySem PySem.Spec PyProof.Rows
section
variable {prog : Program} {w : World} {A : Around} {E : Value → Shared → Prop} {s : Shared} {z TI TO i1 i2 S0 : Addr} {fp1 fp2 : List Addr} {n1 n2 i : Nat} {P1 P2 : Nat → Value → Prop} {St1 St2 : Nat → Heap → Prop}
theorem zipH_item {T : Addr} {f : Bool} {oT : Obj} {Q : Value → Shared → Prop} (S : ZipSep2 z TI TO i1 i2 fp1 fp2) (D1 : Draws prog w A i1 fp1 n1 P1 St1) (D2 : Draws prog w A i2 fp2 n2 P2 St2)
    (hz : IsZipHeld s.heap z TI TO T f) (hT : s.heap.get? T = some oT) (hTI : IsTupOf2 s.heap TI (.ref i1) (.ref i2)) (st1 : St1 i s.heap) (st2 : St2 i s.heap) (hlt1 : i < n1) (hlt2 : i < n2)
    (hQ : ∀ x1 x2 h' tk, P1 i x1 → P2 i x2 → IsZipHeld h' z TI TO T true → St1 (i + 1) h' → St2 (i + 1) h' → IsTupOf2 h' s.heap.objs.size x1 x2 → h'.objs.size = s.heap.objs.size + 1 →
      (∀ c o, c ≠ z → c ≠ i1 → c ≠ i2 → s.heap.get? c = some o → h'.get? c = some o) → Q (.ref s.heap.objs.size) { s with heap := h', toks := tk }) :
    wpAny (model prog w) A (Builtin.«zip.__next__» ⟨[.ref z], []⟩) (fun fin s' => ∃ v, fin = .done (.ret v) ∧ Q v s') E s := by
  obtain ⟨hp, g, d, tk0, os⟩ := s
  show wpAny _ _ (field (.ref z) 2 >>= _) _ _ _
  refine wpAny_bind (wpAny_field hz rfl (x := .bool false) rfl ?_)
  show wpAny _ _ (field (.ref z) 3 >>= _) _ _ _
  refine wpAny_bind (wpAny_field hz rfl (x := .ref TI) rfl ?_)
  refine wpAny_bind (wpAny_seqItems hTI rfl ?_)
  show wpAny _ _ (Builtin.SmallTypes.ownedTupleIsFree (.ref z) >>= _) _ _ _
  refine wpAny_bind (wpAny_tupleHeld_zip hz hT fun g0 hz0 hs0 => ?_)
  replace hs0 : Heap.SameBut z hp g0 := hs0
  simp only [Bool.false_eq_true, if_false]
  refine wpAny_bind ?_
  rw [← Array.forIn_toList]
  simp only [List.forIn_cons, List.forIn_nil]
  refine wpAny_bind (wpAny_bind (wpAny_holding ?_))
  show wpAny _ _ (Builtin.SmallTypes.nextOf (.ref i1) >>= _) _ _ ⟨g0, g, d, tk0, os⟩
  refine wpAny_bind (D1.item i _ _ _ hlt1 (D1.over st1 hs0 S.zf1) fun x1 p1 tk1 hx1 sn1 hp1 => wpAny_pure ?_)
  replace hp1 : Heap.SameBut i1 g0 p1 := hp1
  refine wpAny_pure ?_
  refine wpAny_bind (wpAny_bind (wpAny_holding ?_))
  show wpAny _ _ (Builtin.SmallTypes.nextOf (.ref i2) >>= _) _ _ ⟨p1, g, d, tk1, os⟩
  refine wpAny_bind (D2.item i _ _ _ hlt2 (D2.over (D2.over st2 hs0 S.zf2) hp1 S.sep1_2) fun x2 p2 tk2 hx2 sn2 hp2 => wpAny_pure ?_)
  replace hp2 : Heap.SameBut i2 p1 p2 := hp2
  refine wpAny_pure (wpAny_pure ?_)
  show wpAny _ _ (newTuple [x1, x2] >>= _) _ _ _
  refine wpAny_bind (wpAny_newTuple ?_)
  have hsz : p2.objs.size = hp.objs.size := by rw [hp2.1, hp1.1, hs0.1]
  have hz3 : IsZipHeld p2 z TI TO T true := hp2.extBut _ _ S.zi2 (hp1.extBut _ _ S.zi1 hz0)
  have hk : ∀ c o, c ≠ z → c ≠ i1 → c ≠ i2 → hp.get? c = some o → p2.get? c = some o := fun c o c1 c2 c3 e => hp2.extBut _ _ c3 (hp1.extBut _ _ c2 (hs0.extBut _ _ c1 e))
  refine wpAny_pure ⟨_, rfl, ?_⟩
  show Q (.ref p2.objs.size) ⟨p2.push { cls := .type "tuple", data := .seq #[x1, x2] }, g, d, tk2, os⟩
  have hp4 : IsTupOf2 (p2.push { cls := .type "tuple", data := .seq #[x1, x2] }) p2.objs.size x1 x2 := Heap.get?_push_size _ rfl
  have hz4 : (p2.push { cls := .type "tuple", data := .seq #[x1, x2] }).objs.size = p2.objs.size + 1 := Heap.size_push ..
  have up : ∀ c o, p2.get? c = some o → (p2.push { cls := .type "tuple", data := .seq #[x1, x2] }).get? c = some o := fun c o e => Heap.get?_push_of_some _ e
  rw [hsz] at hp4 hz4 ⊢
  exact hQ x1 x2 _ tk2 hx1 hx2 (up _ _ hz3) (D1.frame _ _ _ (D1.over sn1 hp2 S.sep2_1) fun b _ o e => up b o e) (D2.frame _ _ _ sn2 fun b _ o e => up b o e) hp4 hz4 fun c o c1 c2 c3 e => up _ _ (hk c o c1 c2 c3 e)
theorem zipH_end {T : Addr} {f : Bool} {oT : Obj} {Q : Fin → Shared → Prop} (S : ZipSep2 z TI TO i1 i2 fp1 fp2) (D1 : Draws prog w A i1 fp1 n1 P1 St1) (D2 : Draws prog w A i2 fp2 n2 P2 St2)
    (hz : IsZipHeld s.heap z TI TO T f) (hT : s.heap.get? T = some oT) (hTI : IsTupOf2 s.heap TI (.ref i1) (.ref i2)) (st1 : St1 i s.heap) (st2 : St2 i s.heap) (hle1 : i ≤ n1) (hle2 : i ≤ n2) (hend : i = n1 ∨ i = n2)
    (hE : ∀ h' tk e, (∀ c o, c ≠ z → c ≠ i1 → c ≠ i2 → s.heap.get? c = some o → h'.get? c = some o) → (∃ o, h'.get? e = some o ∧ o.cls = .type "StopIteration") → E (.ref e) { s with heap := h', toks := tk }) :
    wpAny (model prog w) A (Builtin.«zip.__next__» ⟨[.ref z], []⟩) Q E s := by
  obtain ⟨hp, g, d, tk0, os⟩ := s
  show wpAny _ _ (field (.ref z) 2 >>= _) _ _ _
  refine wpAny_bind (wpAny_field hz rfl (x := .bool false) rfl ?_)
  show wpAny _ _ (field (.ref z) 3 >>= _) _ _ _
  refine wpAny_bind (wpAny_field hz rfl (x := .ref TI) rfl ?_)
  refine wpAny_bind (wpAny_seqItems hTI rfl ?_)
  show wpAny _ _ (Builtin.SmallTypes.ownedTupleIsFree (.ref z) >>= _) _ _ _
  refine wpAny_bind (wpAny_tupleHeld_zip hz hT fun g0 hz0 hs0 => ?_)
  replace hs0 : Heap.SameBut z hp g0 := hs0
  simp only [Bool.false_eq_true, if_false]
  refine wpAny_bind ?_
  rw [← Array.forIn_toList]
  simp only [List.forIn_cons, List.forIn_nil]
  refine wpAny_bind (wpAny_bind (wpAny_holding ?_))
  show wpAny _ _ (Builtin.SmallTypes.nextOf (.ref i1) >>= _) _ _ ⟨g0, g, d, tk0, os⟩
  by_cases h1 : i = n1
  · subst h1
    refine wpAny_bind (D1.done _ _ _ (D1.over st1 hs0 S.zf1) fun p1 e hp1 he => ?_)
    exact hE p1 tk0 e (fun c o c1 c2 _ x => hp1 _ _ c2 (hs0.extBut _ _ c1 x)) he
  · refine wpAny_bind (D1.item i _ _ _ (by omega) (D1.over st1 hs0 S.zf1) fun x1 p1 tk1 hx1 sn1 hp1 => wpAny_pure ?_)
    replace hp1 : Heap.SameBut i1 g0 p1 := hp1
    refine wpAny_pure ?_
    have h2 : i = n2 := hend.resolve_left h1
    subst h2
    refine wpAny_bind (wpAny_bind (wpAny_holding ?_))
    show wpAny _ _ (Builtin.SmallTypes.nextOf (.ref i2) >>= _) _ _ ⟨p1, g, d, tk1, os⟩
    refine wpAny_bind (D2.done _ _ _ (D2.over (D2.over st2 hs0 S.zf2) hp1 S.sep1_2) fun p2 e hp2 he => ?_)
    exact hE p2 tk1 e (fun c o c1 c2 c3 x => hp2 _ _ c3 (hp1.extBut _ _ c2 (hs0.extBut _ _ c1 x))) he


structure ZSt (z TI TO i1 i2 S0 : Addr) (St1 St2 : Nat → Heap → Prop) (i : Nat) (h : Heap) : Prop where
  ti : IsTupOf2 h TI (.ref i1) (.ref i2)
  s1 : St1 i h
  s2 : St2 i h
  zz : (IsZip h z TI TO .none ∧ ∃ a b, IsTupOf2 h TO a b) ∨ ∃ T f oT, IsZipHeld h z TI TO T f ∧ h.get? T = some oT ∧ T ≠ z ∧ T ≠ i1 ∧ T ≠ i2 ∧ T ≠ S0
theorem ZSt.frame {h h' : Heap} (S : ZipSep2 z TI TO i1 i2 fp1 fp2) (D1 : Draws prog w A i1 fp1 n1 P1 St1) (D2 : Draws prog w A i2 fp2 n2 P2 St2) (n0 : S0 ≠ z ∧ S0 ≠ TI ∧ S0 ≠ TO ∧ S0 ∉ fp1 ∧ S0 ∉ fp2)
    (st : ZSt z TI TO i1 i2 S0 St1 St2 i h) (k : ∀ b o, b ≠ S0 → h.get? b = some o → h'.get? b = some o) : ZSt z TI TO i1 i2 S0 St1 St2 i h' where
  ti := k _ _ (Ne.symm n0.2.1) st.ti
  s1 := D1.frame _ _ _ st.s1 fun b hb o e => k b o (fun x => n0.2.2.2.1 (x ▸ hb)) e
  s2 := D2.frame _ _ _ st.s2 fun b hb o e => k b o (fun x => n0.2.2.2.2 (x ▸ hb)) e
  zz := by
    rcases st.zz with ⟨a, x, y, b⟩ | ⟨T, f, oT, a, b, c1, c2, c3, c4⟩
    · exact .inl ⟨k _ _ (Ne.symm n0.1) a, x, y, k _ _ (Ne.symm n0.2.2.1) b⟩
    · exact .inr ⟨T, f, oT, k _ _ (Ne.symm n0.1) a, k _ _ c4 b, c1, c2, c3, c4⟩
theorem zip_pull {Q : Option Value → Shared → Prop} (S : ZipSep2 z TI TO i1 i2 fp1 fp2) (D1 : Draws prog w A.in1 i1 fp1 n1 P1 St1) (D2 : Draws prog w A.in1 i2 fp2 n2 P2 St2) (hS : S0 < s.heap.objs.size)
    (st : ZSt z TI TO i1 i2 S0 St1 St2 i s.heap) (hlt1 : i < n1) (hlt2 : i < n2)
    (hQ : ∀ x1 x2 h' tk, P1 i x1 → P2 i x2 → ZSt z TI TO i1 i2 S0 St1 St2 (i + 1) h' → IsTupOf2 h' s.heap.objs.size x1 x2 → h'.objs.size = s.heap.objs.size + 1 →
      (∀ c o, c ≠ z → c ≠ TO → c ≠ i1 → c ≠ i2 → s.heap.get? c = some o → h'.get? c = some o) → Q (some (.ref s.heap.objs.size)) { s with heap := h', toks := tk }) :
    wpAny (model prog w) A (pyNext (.ref z)) Q E s := by
  obtain ⟨o1, l1⟩ := D1.live _ _ st.s1
  obtain ⟨o2, l2⟩ := D2.live _ _ st.s2
  have lt : ∀ {c o}, s.heap.get? c = some o → s.heap.objs.size ≠ c := fun e => Nat.ne_of_gt (Heap.lt_size e)
  rcases st.zz with ⟨hz, a, b, hTO⟩ | ⟨T, f, oT, hz, hT, r1, r2, r3, r4⟩
  · have hTy : s.TypeIs (.ref z) "zip" := ⟨_, hz, rfl⟩
    unfold pyNext
    refine wpAny_bind (wpAny_attempt (wpAny_callSpecial?_slot (name := Str.ofString "__next__") hTy F.slot_zip_next
      (wpAny_call_entry F.slot_zip_next hTy F.entry_zip_next
        (zipD2_next_item S D1 D2 hz st.ti hTO st.s1 st.s2 hlt1 hlt2 fun x1 x2 h' tk q1 q2 a1 a2 a3 a4 a5 a6 kk => wpAny_pure ?_) (F.args_zip_next_1 _))))
    exact hQ x1 x2 h' tk q1 q2 ⟨kk _ _ S.TIz S.TITO S.TIi1 S.TIi2 st.ti, a3, a4, .inr ⟨s.heap.objs.size, false, _, a1, a5, lt hz, lt l1, lt l2, Nat.ne_of_gt hS⟩⟩ a5 a6 kk
  · have hTy : s.TypeIs (.ref z) "zip" := ⟨_, hz, rfl⟩
    unfold pyNext
    refine wpAny_bind (wpAny_attempt (wpAny_callSpecial?_slot (name := Str.ofString "__next__") hTy F.slot_zip_next
      (wpAny_call_entry F.slot_zip_next hTy F.entry_zip_next
        (zipH_item S D1 D2 hz hT st.ti st.s1 st.s2 hlt1 hlt2 fun x1 x2 h' tk q1 q2 a1 a3 a4 a5 a6 kk => wpAny_pure ?_) (F.args_zip_next_1 _))))
    exact hQ x1 x2 h' tk q1 q2 ⟨kk _ _ S.TIz S.TIi1 S.TIi2 st.ti, a3, a4, .inr ⟨T, true, oT, a1, kk _ _ r1 r2 r3 hT, r1, r2, r3, r4⟩⟩ a5 a6 fun c o c1 _ c3 c4 e => kk c o c1 c3 c4 e
theorem zip_stop {Q : Option Value → Shared → Prop} (S : ZipSep2 z TI TO i1 i2 fp1 fp2) (D1 : Draws prog w A.in1 i1 fp1 n1 P1 St1) (D2 : Draws prog w A.in1 i2 fp2 n2 P2 St2)
    (st : ZSt z TI TO i1 i2 S0 St1 St2 i s.heap) (hle1 : i ≤ n1) (hle2 : i ≤ n2) (hend : i = n1 ∨ i = n2)
    (hQ : ∀ h' tk, (∀ c o, c ≠ z → c ≠ TO → c ≠ i1 → c ≠ i2 → s.heap.get? c = some o → h'.get? c = some o) → Q none { s with heap := h', toks := tk }) :
    wpAny (model prog w) A (pyNext (.ref z)) Q E s := by
  rcases st.zz with ⟨hz, a, b, hTO⟩ | ⟨T, f, oT, hz, hT, r1, r2, r3, r4⟩
  · have hTy : s.TypeIs (.ref z) "zip" := ⟨_, hz, rfl⟩
    unfold pyNext
    refine wpAny_bind (wpAny_attempt (wpAny_callSpecial?_slot (name := Str.ofString "__next__") hTy F.slot_zip_next
      (wpAny_call_entry F.slot_zip_next hTy F.entry_zip_next (zipD2_next_end S D1 D2 hz st.ti hTO st.s1 st.s2 hle1 hle2 hend fun h' tk e kk he => ?_) (F.args_zip_next_1 _))))
    obtain ⟨o, ho, hc⟩ := he
    refine wpAny_bind (wpAny_isInstance (T := "StopIteration") (b := true) ⟨o, ho, hc⟩ isSubtype_stop ?_)
    exact wpAny_pure (hQ _ tk kk)
  · have hTy : s.TypeIs (.ref z) "zip" := ⟨_, hz, rfl⟩
    unfold pyNext
    refine wpAny_bind (wpAny_attempt (wpAny_callSpecial?_slot (name := Str.ofString "__next__") hTy F.slot_zip_next
      (wpAny_call_entry F.slot_zip_next hTy F.entry_zip_next (zipH_end S D1 D2 hz hT st.ti st.s1 st.s2 hle1 hle2 hend fun h' tk e kk he => ?_) (F.args_zip_next_1 _))))
    obtain ⟨o, ho, hc⟩ := he
    refine wpAny_bind (wpAny_isInstance (T := "StopIteration") (b := true) ⟨o, ho, hc⟩ isSubtype_stop ?_)
    exact wpAny_pure (hQ _ tk fun c o c1 _ c3 c4 e => kk c o c1 c3 c4 e)
end
end TN
set_option Elab.async false
set_option linter.all false
set_option maxRecDepth 100000
set_option maxHeartbeats 4000000
set_option autoImplicit false
namespace TN
open PySem PySem.Spec PyProof.Rows
theorem ngt {a b N : Addr} (h : a < N) (g : N ≤ b) : b ≠ a := Nat.ne_of_gt (Nat.lt_of_lt_of_le h g)

def Got (N : Addr) (P1 P2 : Nat → Value → Prop) (i : Nat) (acc : Array Value) (h : Heap) : Prop :=
  ∃ Ts : List Addr, acc.toList = Ts.map Value.ref ∧ Ts.length = i ∧ Ts.Pairwise (· < ·) ∧ ∀ (j : Nat) (T : Addr), Ts[j]? = some T → N ≤ T ∧ T < h.objs.size ∧ ∃ x y, P1 j x ∧ P2 j y ∧ IsTupOf2 h T x y
theorem Got.nil {N : Addr} {P1 P2 : Nat → Value → Prop} {h : Heap} : Got N P1 P2 0 #[] h := ⟨[], rfl, rfl, .nil, fun j T e => by simp at e⟩
theorem Got.size {N : Addr} {P1 P2 : Nat → Value → Prop} {h : Heap} {i : Nat} {acc : Array Value} (g : Got N P1 P2 i acc h) : acc.size = i := by
  obtain ⟨Ts, e, l, _⟩ := g
  rw [← Array.length_toList, e, List.length_map, l]
theorem Got.keep {N : Addr} {P1 P2 : Nat → Value → Prop} {h h' : Heap} {i : Nat} {acc : Array Value} (g : Got N P1 P2 i acc h) (sz : h.objs.size ≤ h'.objs.size) (k : ∀ b o, N ≤ b → h.get? b = some o → h'.get? b = some o) : Got N P1 P2 i acc h' := by
  obtain ⟨Ts, e, l, pw, a⟩ := g
  refine ⟨Ts, e, l, pw, fun j T hj => ?_⟩
  obtain ⟨a1, a2, x, y, p, q, t⟩ := a j T hj
  exact ⟨a1, Nat.lt_of_lt_of_le a2 sz, x, y, p, q, k _ _ a1 t⟩
theorem Got.push {N : Addr} {P1 P2 : Nat → Value → Prop} {h h' : Heap} {i : Nat} {acc : Array Value} {x y : Value} (g : Got N P1 P2 i acc h) (hN : N ≤ h.objs.size) (sz : h'.objs.size = h.objs.size + 1) (k : ∀ b o, N ≤ b → h.get? b = some o → h'.get? b = some o)
    (p : P1 i x) (q : P2 i y) (t : IsTupOf2 h' h.objs.size x y) : Got N P1 P2 (i + 1) (acc.push (.ref h.objs.size)) h' := by
  obtain ⟨Ts, e, l, pw, a⟩ := g
  have below : ∀ T ∈ Ts, T < h.objs.size := fun T hT => by
    obtain ⟨j, hj, e⟩ := List.mem_iff_getElem.mp hT
    exact (a j T (by rw [List.getElem?_eq_getElem hj, e])).2.1
  refine ⟨Ts ++ [h.objs.size], by rw [Array.toList_push, e, List.map_append]; rfl, by rw [List.length_append, l]; rfl, ?_, fun j T hj => ?_⟩
  · refine List.pairwise_append.mpr ⟨pw, List.pairwise_singleton _ _, fun a ha b hb => ?_⟩
    rw [List.mem_singleton.mp hb]; exact below a ha
  · by_cases hi : j < Ts.length
    · rw [List.getElem?_append_left hi] at hj
      obtain ⟨a1, a2, x', y', p', q', t'⟩ := a j T hj
      exact ⟨a1, by rw [sz]; exact Nat.lt_succ_of_lt a2, x', y', p', q', k _ _ a1 t'⟩
    · rw [List.getElem?_append_right (by omega)] at hj
      have : j - Ts.length = 0 := by
        cases h0 : j - Ts.length with
        | zero => rfl
        | succ m => rw [h0] at hj; simp at hj
      rw [this] at hj
      injection hj with hj
      subst hj
      have : j = i := by omega
      subst this
      exact ⟨hN, by rw [sz]; exact Nat.lt_succ_self _, x, y, p, q, t⟩
section
variable {prog : Program} {w : World} {A : Around} {E : Value → Shared → Prop} {s : Shared} {z TI TO i1 i2 S0 N : Addr} {fp1 fp2 : List Addr} {n1 n2 n : Nat} {P1 P2 : Nat → Value → Prop} {St1 St2 : Nat → Heap → Prop}
abbrev lsAt (h : Heap) (S : Addr) (acc : Array Value) (c : Nat) : Prop := h.get? S = some { cls := .type "list", dict := none, data := .seq acc c, slots := #[] }
theorem zip_loop {R : Result → Shared → Prop} (S : ZipSep2 z TI TO i1 i2 fp1 fp2) (D1 : Draws prog w A.in1.in1 i1 fp1 n1 P1 St1) (D2 : Draws prog w A.in1.in1 i2 fp2 n2 P2 St2) (n0 : S0 ≠ z ∧ S0 ≠ TI ∧ S0 ≠ TO ∧ S0 ∉ fp1 ∧ S0 ∉ fp2)
    (big : z < N ∧ TO < N ∧ i1 < N ∧ i2 < N ∧ S0 < N) (hn : n ≤ n1 ∧ n ≤ n2 ∧ (n = n1 ∨ n = n2)) (hz : n ≤ sizeLine) (res : Value) :
    ∀ (k i : Nat) (s : Shared) (acc : Array Value) (c : Nat), n - i = k → i ≤ n → ZSt z TI TO i1 i2 S0 St1 St2 i s.heap → lsAt s.heap S0 acc c → N ≤ s.heap.objs.size → Got N P1 P2 i acc s.heap →
    (∀ h' tk acc' c', (∀ b o, b ≠ S0 → b ≠ z → b ≠ TO → b ≠ i1 → b ≠ i2 → s.heap.get? b = some o → h'.get? b = some o) → lsAt h' S0 acc' c' → Got N P1 P2 n acc' h' → R (.ok (.ret res)) { s with heap := h', toks := tk }) →
    codeAny (model prog w) A (.builtin "list.extend.loop" ⟨[.ref S0, .ref z, res], []⟩) R s := by
  intro k
  induction k with
  | zero =>
    intro i s acc c hk hi st hS hN g hR
    have hin : i = n := by omega
    subst hin
    refine codeAny_builtin F.entry_extend_loop ?_
    rw [Around.under_plainId F.plain_extend_loop _]
    show wpAny _ A.in1 (pyNext (.ref z) >>= _) _ _ s
    refine wpAny_bind (zip_stop S D1 D2 st hn.1 hn.2.1 hn.2.2 fun h' tk kk => ?_)
    refine wpAny_pure (hR h' tk acc c (fun b o b0 b1 b2 b3 b4 e => kk b o b1 b2 b3 b4 e) (kk _ _ n0.1 n0.2.2.1 (fun x => n0.2.2.2.1 (x ▸ S.mem1)) (fun x => n0.2.2.2.2 (x ▸ S.mem2)) hS) ?_)
    obtain ⟨Ts, e, l, pw, a⟩ := g
    refine ⟨Ts, e, l, pw, fun j T hj => ?_⟩
    obtain ⟨a1, a2, x, y, p, q, t⟩ := a j T hj
    have t' := kk _ _ (ngt big.1 a1) (ngt big.2.1 a1) (ngt big.2.2.1 a1) (ngt big.2.2.2.1 a1) t
    exact ⟨a1, Heap.lt_size t', x, y, p, q, t'⟩
  | succ k ih =>
    intro i s acc c hk hi st hS hN g hR
    have hlt : i < n := by omega
    refine codeAny_builtin F.entry_extend_loop ?_
    rw [Around.under_plainId F.plain_extend_loop _]
    show wpAny _ A.in1 (pyNext (.ref z) >>= _) _ _ s
    refine wpAny_bind (zip_pull S D1 D2 (Heap.lt_size hS) st (by omega) (by omega) fun x1 x2 h' tk p1 p2 st' t' sz kk => ?_)
    have hS' : lsAt h' S0 acc c := kk _ _ n0.1 n0.2.2.1 (fun x => n0.2.2.2.1 (x ▸ S.mem1)) (fun x => n0.2.2.2.2 (x ▸ S.mem2)) hS
    have g' := g.push hN sz (fun b o hb e => kk b o (ngt big.1 hb) (ngt big.2.1 hb) (ngt big.2.2.1 hb) (ngt big.2.2.2.1 hb) e) p1 p2 t'
    have as := g.size
    show wpAny _ A.in1 (updateSeq S0 (·.push (.ref s.heap.objs.size)) >>= _) _ _ _
    refine wpAny_bind ?_
    have oth : ∀ b o, b ≠ S0 → h'.get? b = some o → (h'.update S0 (Obj.mapSeq (·.push (.ref s.heap.objs.size)))).get? b = some o := fun b o hb e => (Heap.get?_update_other _ _ (Ne.symm hb)).trans e
    refine wpAny_updateSeq hS' rfl (wpAny_pure ⟨plainId_quiet F.plain_extend_loop _, ih (i + 1) { s with heap := h'.update S0 (Obj.mapSeq (·.push (.ref s.heap.objs.size))), toks := tk } (acc.push (.ref s.heap.objs.size)) _ (by omega) hlt (st'.frame S D1 D2 n0 oth) (Heap.get?_update_self _ hS' rfl)
      (by show N ≤ (h'.update S0 _).objs.size; rw [Heap.size_update, sz]; exact Nat.le_succ_of_le hN) (g'.keep (by rw [Heap.size_update]; exact Nat.le_refl _) fun b o hb e => oth b o (ngt big.2.2.2.2 hb) e) fun h'' tk' acc' c' kk' hS'' g'' => ?_⟩)
      (by rw [as]; omega) (by show (acc.push (.ref s.heap.objs.size)).size ≤ sizeLine + 1; rw [Array.size_push, as]; omega)
    exact hR h'' tk' acc' c' (fun b o b0 b1 b2 b3 b4 e => kk' b o b0 b1 b2 b3 b4 (oth b o b0 (kk b o b1 b2 b3 b4 e))) hS'' g''
theorem zip_no_len : typeLookup (.type "zip") "__len__" = pure none := am_miss_of_fast (by decide +kernel)
theorem zip_no_hint : typeLookup (.type "zip") "__length_hint__" = pure none := am_miss_of_fast (by decide +kernel)
theorem zip_hint {Q : Bool → Shared → Prop} (hT : s.TypeIs (.ref z) "zip") (h : Q false s) (h2 : Q true s) : wpAny (model prog w) A (Builtin.List.listLengthHint (.ref z)) Q E s := by
  unfold Builtin.List.listLengthHint
  refine wpAny_bind (wpAny_specialOf hT zip_no_len ?_)
  show wpAny _ A (specialOf (Value.ref z) (Str.ofString "__length_hint__") >>= _) _ _ _
  refine wpAny_bind (wpAny_specialOf hT zip_no_hint ?_)
  first | exact wpAny_pure h | exact wpAny_pure h2
theorem zip_extend {R : Result → Shared → Prop} (S : ZipSep2 z TI TO i1 i2 fp1 fp2) (D1 : Draws prog w A.in1.in1 i1 fp1 n1 P1 St1) (D2 : Draws prog w A.in1.in1 i2 fp2 n2 P2 St2) (n0 : S0 ≠ z ∧ S0 ≠ TI ∧ S0 ≠ TO ∧ S0 ∉ fp1 ∧ S0 ∉ fp2)
    (big : z < N ∧ TO < N ∧ i1 < N ∧ i2 < N ∧ S0 < N) (hn : n ≤ n1 ∧ n ≤ n2 ∧ (n = n1 ∨ n = n2)) (hz : n ≤ sizeLine) (res : Value) (c₀ : Nat) (st : ZSt z TI TO i1 i2 S0 St1 St2 0 s.heap) (hz0 : IsZip s.heap z TI TO .none) (hS : lsAt s.heap S0 #[] c₀) (hN : N ≤ s.heap.objs.size)
    (hR : ∀ h' tk acc' c', (∀ b o, b ≠ S0 → b ≠ z → b ≠ TO → b ≠ i1 → b ≠ i2 → s.heap.get? b = some o → h'.get? b = some o) → lsAt h' S0 acc' c' → Got N P1 P2 n acc' h' → R (.ok (.ret res)) { s with heap := h', toks := tk }) :
    wpAny (model prog w) A.in1 (Builtin.List.listExtendWith (.ref S0) (.ref z) res)
      (fun fin s' => match fin with | .done f => R (.ok f) s' | .again c' => c'.quiet = true ∧ codeAny (model prog w) A c' R s') (fun e s' => R (.error e) s') s := by
  have hT : s.TypeIs (.ref z) "zip" := ⟨_, hz0, rfl⟩
  have key : ∀ (h : Heap) (c₁ tk : Nat), N ≤ h.objs.size → (∀ b o, b ≠ S0 → s.heap.get? b = some o → h.get? b = some o) → lsAt h S0 #[] c₁ →
      codeAny (model prog w) A (.builtin "list.extend.loop" ⟨[.ref S0, .ref z, res], []⟩) R { s with heap := h, toks := tk } := fun h c₁ tk hN' kk hS₁ =>
    zip_loop S D1 D2 n0 big hn hz res n 0 _ #[] c₁ rfl (Nat.zero_le _) (st.frame S D1 D2 n0 kk) hS₁ hN' .nil fun h' tk' acc' c' k2 hS' g => hR h' tk' acc' c' (fun b o b0 b1 b2 b3 b4 e => k2 b o b0 b1 b2 b3 b4 (kk b o b0 e)) hS' g
  unfold Builtin.List.listExtendWith
  refine wpAny_bind (wpAny_typeOf (T := "zip") hT ?_)
  have h1 : Builtin.List.listSameRef (.ref S0) (.ref z) = false := by simp [Builtin.List.listSameRef, n0.1]
  have h2 : (Value.type "zip" == Value.type "list") = false := by decide
  have h3 : (Value.type "zip" == Value.type "tuple") = false := by decide
  simp only [h1, h2, h3, Bool.or_false, Bool.false_eq_true, if_false]
  refine wpAny_bind (wpAny_pyIter_zip hz0 ?_)
  refine wpAny_bind (wpAny_holding (zip_hint hT ?_ ?_))
  all_goals
    first
    | exact wpAny_pure ⟨plainId_quiet PySem.F.plain_extend_loop _, key _ c₀ _ hN (fun _ _ _ e => e) hS⟩
    | skip
  all_goals
    refine wpAny_ite_split (fun _ => ?_) (fun _ => wpAny_pure ⟨plainId_quiet PySem.F.plain_extend_loop _, key _ c₀ _ hN (fun _ _ _ e => e) hS⟩)
    refine wpAny_bind (wpAny_rule ?_)
    refine wpAny_bind ?_
    show wpAny _ _ (updateSeq S0 (·.push .none) >>= fun _ => updateSeq S0 (·.pop)) _ _ _
    refine wpAny_bind (wpAny_updateSeq hS rfl ?_)
    have hS₂ := Heap.get?_update_self (Obj.mapSeq (·.push Value.none)) hS rfl
    refine wpAny_updateSeq (hz := by seq_fits) hS₂ rfl ?_
    have hS₃ := Heap.get?_update_self (Obj.mapSeq (·.pop)) hS₂ rfl
    refine wpAny_pure ⟨plainId_quiet PySem.F.plain_extend_loop _, key _ _ _ (by rw [Heap.size_update, Heap.size_update]; exact hN) (fun b o hb e => (Heap.get?_update_other _ _ (Ne.symm hb)).trans ((Heap.get?_update_other _ _ (Ne.symm hb)).trans e)) hS₃⟩
end
end TN
set_option Elab.async false
set_option linter.all false
set_option maxRecDepth 100000
set_option maxHeartbeats 4000000
set_option autoImplicit false
namespace TN
open PySem PySem.Spec PyProof.Rows
section
variable {prog : Program} {w : World} {A : Around} {E : Value → Shared → Prop} {s : Shared} {z TI TO i1 i2 N : Addr} {fp1 fp2 : List Addr} {n1 n2 n : Nat} {P1 P2 : Nat → Value → Prop} {St1 St2 : Nat → Heap → Prop}
structure ZBeg (prog : Program) (w : World) (z TI TO i1 i2 N : Addr) (fp1 fp2 : List Addr) (n1 n2 n : Nat) (P1 P2 : Nat → Value → Prop) (St1 St2 : Nat → Heap → Prop) (h : Heap) : Prop where
  sep : ZipSep2 z TI TO i1 i2 fp1 fp2
  d1 : ∀ A : Around, A.handled = none → Draws prog w A i1 fp1 n1 P1 St1
  d2 : ∀ A : Around, A.handled = none → Draws prog w A i2 fp2 n2 P2 St2
  lo : z < N ∧ TI < N ∧ TO < N ∧ i1 < N ∧ i2 < N ∧ (∀ b ∈ fp1, b < N) ∧ ∀ b ∈ fp2, b < N
  hn : n ≤ n1 ∧ n ≤ n2 ∧ (n = n1 ∨ n = n2)
  hz : n ≤ sizeLine
  z0 : IsZip h z TI TO .none
  ti : IsTupOf2 h TI (.ref i1) (.ref i2)
  to : ∃ a b, IsTupOf2 h TO a b
  s1 : St1 0 h
  s2 : St2 0 h
theorem ZBeg.keep {h h' : Heap} (hh : A.handled = none) (B : ZBeg prog w z TI TO i1 i2 N fp1 fp2 n1 n2 n P1 P2 St1 St2 h) (k : ∀ b o, b < N → h.get? b = some o → h'.get? b = some o) : ZBeg prog w z TI TO i1 i2 N fp1 fp2 n1 n2 n P1 P2 St1 St2 h' where
  sep := B.sep
  d1 := B.d1
  d2 := B.d2
  lo := B.lo
  hn := B.hn
  hz := B.hz
  z0 := k _ _ B.lo.1 B.z0
  ti := k _ _ B.lo.2.1 B.ti
  to := let ⟨a, b, e⟩ := B.to; ⟨a, b, k _ _ B.lo.2.2.1 e⟩
  s1 := (B.d1 A hh).frame _ _ _ B.s1 fun b hb o e => k b o (B.lo.2.2.2.2.2.1 b hb) e
  s2 := (B.d2 A hh).frame _ _ _ B.s2 fun b hb o e => k b o (B.lo.2.2.2.2.2.2 b hb) e
theorem ZBeg.extend {S0 : Addr} {R : Result → Shared → Prop} (hh : A.handled = none) (B : ZBeg prog w z TI TO i1 i2 S0 fp1 fp2 n1 n2 n P1 P2 St1 St2 s.heap) (res : Value) (c₀ : Nat) (hS : lsAt s.heap S0 #[] c₀)
    (hR : ∀ h' tk acc' c', (∀ b o, b ≠ S0 → b ≠ z → b ≠ TO → b ≠ i1 → b ≠ i2 → s.heap.get? b = some o → h'.get? b = some o) → lsAt h' S0 acc' c' → Got (S0 + 1) P1 P2 n acc' h' → R (.ok (.ret res)) { s with heap := h', toks := tk }) :
    wpAny (model prog w) A.in1 (Builtin.List.listExtendWith (.ref S0) (.ref z) res)
      (fun fin s' => match fin with | .done f => R (.ok f) s' | .again c' => c'.quiet = true ∧ codeAny (model prog w) A c' R s') (fun e s' => R (.error e) s') s := by
  obtain ⟨l1, l2, l3, l4, l5, l6, l7⟩ := B.lo
  refine zip_extend (N := S0 + 1) B.sep (B.d1 _ hh) (B.d2 _ hh) ⟨Nat.ne_of_gt l1, Nat.ne_of_gt l2, Nat.ne_of_gt l3, fun x => Nat.lt_irrefl _ (l6 _ x), fun x => Nat.lt_irrefl _ (l7 _ x)⟩
    ⟨Nat.lt_succ_of_lt l1, Nat.lt_succ_of_lt l3, Nat.lt_succ_of_lt l4, Nat.lt_succ_of_lt l5, Nat.lt_succ_self _⟩ B.hn B.hz res c₀ ⟨B.ti, B.s1, B.s2, .inl ⟨B.z0, B.to⟩⟩ B.z0 hS (Heap.lt_size hS) hR

theorem ZBeg.list {Q : Value → Shared → Prop} (hh : A.handled = none) (B : ZBeg prog w z TI TO i1 i2 s.heap.objs.size fp1 fp2 n1 n2 n P1 P2 St1 St2 s.heap)
    (hQ : ∀ h' tk acc' c', (∀ b o, b ≠ z → b ≠ TO → b ≠ i1 → b ≠ i2 → s.heap.get? b = some o → h'.get? b = some o) → lsAt h' s.heap.objs.size acc' c' → Got (s.heap.objs.size + 1) P1 P2 n acc' h' → Q (.ref s.heap.objs.size) { s with heap := h', toks := tk }) :
    wpAny (model prog w) A (call (.type "list") [.ref z]) Q E s := by
  refine callType_codes (Q₁ := fun obj s₁ => obj = .ref s.heap.objs.size ∧ s₁ = { s with heap := s.heap.push { cls := .type "list", data := .seq #[] } }) PySem.F.called_list (PySem.F.typeCall_list_1 _) PySem.F.entry_list_init
    (code_list_new _ ⟨rfl, rfl⟩) fun obj s₁ h₁ => ?_
  obtain ⟨rfl, rfl⟩ := h₁
  have hS : (s.heap.push { cls := .type "list", data := .seq #[] }).get? s.heap.objs.size = some { cls := .type "list", data := .seq #[] } := Heap.get?_push_size _ rfl
  have oth : ∀ b o, s.heap.get? b = some o → ((s.heap.push { cls := .type "list", data := .seq #[] }).update s.heap.objs.size (Obj.mapSeq (fun _ => (#[] : Array Value)))).get? b = some o := fun b o e =>
    (Heap.get?_update_other _ _ (Nat.ne_of_gt (Heap.lt_size e))).trans (Heap.get?_push_of_some _ e)
  refine ⟨⟨_, hS, rfl⟩, PySem.F.args_list_init_2 _ _, ?_⟩
  show wpAny _ A.in1.in1 (do let old ← Builtin.List.listItems (.ref s.heap.objs.size); Builtin.List.listUpdate (.ref s.heap.objs.size) (fun _ => #[]); letGo old.toList.reverse; Builtin.List.listExtendWith (.ref s.heap.objs.size) (.ref z) .none) _ _ _
  refine wpAny_bind ?_
  unfold Builtin.List.listItems
  refine wpAny_bind (wpAny_seqItems hS rfl (wpAny_pure ?_))
  show wpAny _ _ (updateSeq s.heap.objs.size (fun _ => #[]) >>= fun _ => letGo (#[] : Array Value).toList.reverse >>= fun _ => Builtin.List.listExtendWith (.ref s.heap.objs.size) (.ref z) .none) _ _ _
  refine wpAny_bind (wpAny_updateSeq hS rfl ?_)
  have hS₂ := Heap.get?_update_self (Obj.mapSeq (fun _ => (#[] : Array Value))) hS rfl
  refine wpAny_bind (wpAny_letGo ?_)
  refine ZBeg.extend (A := A.in1) (s := { s with heap := (s.heap.push { cls := .type "list", data := .seq #[] }).update s.heap.objs.size (Obj.mapSeq (fun _ => (#[] : Array Value))) }) hh (B.keep hh fun b o _ e => oth b o e) .none _ hS₂ fun h' tk acc' c' kk hS' g => ?_
  exact ⟨rfl, hQ h' tk acc' c' (fun b o b1 b2 b3 b4 e => kk b o (Nat.ne_of_lt (Heap.lt_size e)) b1 b2 b3 b4 (oth b o e)) hS' g⟩

theorem ZBeg.collect {R : List Value → Shared → Prop} (hh : A.handled = none) (B : ZBeg prog w z TI TO i1 i2 s.heap.objs.size fp1 fp2 n1 n2 n P1 P2 St1 St2 s.heap)
    (h : ∀ (h' : Heap) (tk : Nat) (acc : Array Value), (∀ b o, b ≠ z → b ≠ TO → b ≠ i1 → b ≠ i2 → s.heap.get? b = some o → h'.get? b = some o) → s.heap.objs.size < h'.objs.size → Got (s.heap.objs.size + 1) P1 P2 n acc h' → R acc.toList { s with heap := h', toks := tk }) :
    wpAny (model prog w) A (collect (.ref z)) R E s := by
  unfold PySem.collect
  refine wpAny_bind (wpAny_runValue (codeAny_builtin entry_proto_collect' ?_))
  rw [Around.under_plainId PySem.F.plain_proto_collect _]
  show wpAny _ A.in1 (newList [] >>= fun l => again (.builtin "list.__iadd__" ⟨[l, .ref z], []⟩)) _ _ s
  refine wpAny_bind (wpAny_newObj_type ?_)
  refine wpAny_pure ⟨plainId_quiet PySem.F.plain_list_iadd _, codeAny_builtin entry_list_iadd' ?_⟩
  rw [Around.under_plainId PySem.F.plain_list_iadd _]
  have hS₁ : (s.heap.push { cls := .type "list", data := .seq ([] : List Value).toArray }).get? s.heap.objs.size = some { cls := .type "list", data := .seq #[] } := Heap.get?_push_size _ rfl
  show wpAny _ A.in1 (Builtin.List.listExtendWith (.ref s.heap.objs.size) (.ref z) (.ref s.heap.objs.size)) _ _ _
  have key := ZBeg.extend (A := A) (s := { s with heap := s.heap.push { cls := .type "list", data := .seq ([] : List Value).toArray } })
    (R := fun (q : Result) (s' : Shared) => ∃ (h' : Heap) (tk : Nat) (acc' : Array Value) (c' : Nat), q = .ok (.ret (.ref s.heap.objs.size)) ∧ s' = { s with heap := h', toks := tk } ∧
      (∀ b o, b ≠ z → b ≠ TO → b ≠ i1 → b ≠ i2 → s.heap.get? b = some o → h'.get? b = some o) ∧ h'.get? s.heap.objs.size = some { cls := .type "list", dict := none, data := .seq acc' c', slots := #[] } ∧ Got (s.heap.objs.size + 1) P1 P2 n acc' h')
    hh (B.keep hh fun b o _ e => Heap.get?_push_of_some _ e) (.ref s.heap.objs.size) 0 hS₁
    (fun h' tk acc' c' hk hS' hacc => ⟨h', tk, acc', c', rfl, rfl, fun b o b1 b2 b3 b4 e => hk b o (Nat.ne_of_lt (Heap.lt_size e)) b1 b2 b3 b4 (Heap.get?_push_of_some _ e), hS', hacc⟩)
  refine wpAny_mono key (fun fin s' x => ?_) fun e s' x => ?_
  · cases fin with
    | done f =>
      obtain ⟨h', tk, acc', c', e, rfl, hk, hS', hacc⟩ := x
      cases e
      show wpAny _ A (load s.heap.objs.size >>= _) _ _ _
      refine wpAny_bind (wpAny_load hS' ?_)
      exact wpAny_pure (h h' tk acc' hk (Heap.lt_size hS') hacc)
    | again c₁ =>
      refine ⟨x.1, codeAny_mono x.2 fun q s₂ y => ?_⟩
      obtain ⟨h', tk, acc', c', rfl, rfl, hk, hS', hacc⟩ := y
      show wpAny _ A (load s.heap.objs.size >>= _) _ _ _
      refine wpAny_bind (wpAny_load hS' ?_)
      exact wpAny_pure (h h' tk acc' hk (Heap.lt_size hS') hacc)
  · obtain ⟨_, _, _, _, e', _⟩ := x
    cases e'
theorem ZBeg.sorted {ltv : Heap → Value → Value → Bool} {Q : Value → Shared → Prop} (hh : A.handled = none) (B : ZBeg prog w z TI TO i1 i2 s.heap.objs.size fp1 fp2 n1 n2 n P1 P2 St1 St2 s.heap)
    (h : ∀ (h' : Heap) (tk : Nat) (acc : Array Value), (∀ b o, b ≠ z → b ≠ TO → b ≠ i1 → b ≠ i2 → s.heap.get? b = some o → h'.get? b = some o) → s.heap.objs.size < h'.objs.size → Got (s.heap.objs.size + 1) P1 P2 n acc h' →
      SrtO.Swo (ltv h') ∧ (2 ≤ acc.size → SrtO.SortableO prog w A.in1.in1 { s with heap := h'.push (seqObj "list" acc.toList.toArray 0), toks := tk } h'.objs.size acc.toList (ltv h')) ∧
      ∀ (h'' : Heap) (tk' : Nat) (out : List Value) (c : Nat), SrtO.Srtd (ltv h') out → SrtO.Stb (ltv h') out acc.toList → (∀ b o, h'.get? b = some o → h''.get? b = some o) → h''.get? h'.objs.size = some (seqObj "list" out.toArray c) → Q (.ref h'.objs.size) { s with heap := h'', toks := tk' }) :
    wpAny (model prog w) A (call (.builtin "sorted") [.ref z]) Q E s := by
  refine Calls.call_function_entry kind_sorted plain_sorted entry_sorted (args_sorted1 _) ?_
  unfold Builtin.«sorted»
  refine wpAny_bind (m := checkCount "sorted" 1 1 _) (wpAny_pure ?_)
  refine wpAny_bind (ZBeg.collect (A := A.in1) hh B fun h' tk acc hk lt hacc => ?_)
  obtain ⟨O, srt, fin⟩ := h h' tk acc hk lt hacc
  have hz : acc.toList.length ≤ sizeLine := by rw [Array.length_toList, hacc.size]; exact B.hz
  refine wpAny_bind (wpAny_newList ?_ hz)
  have hoL : (h'.push (seqObj "list" acc.toList.toArray 0)).get? h'.objs.size = some (seqObj "list" acc.toList.toArray 0) := Heap.get?_push_size _ rfl
  refine wpAny_bind (wpAny_holding (wpAny_call_entry slot_list_sort ⟨_, hoL, rfl⟩ entry_list_sort (SrtO.list_sort_ord O hoL hz (fun h2 => srt (by rw [← Array.length_toList]; exact h2)) fun out hs hb => ⟨_, rfl, ?_⟩) (args_list_sort _)))
  refine wpAny_pure ⟨_, rfl, ?_⟩
  obtain ⟨e, he⟩ := sortedHeap_at (out := out.toArray) hoL
  refine fin _ tk out e hs hb (fun b o e => ?_) he
  have hlt : b < h'.objs.size := Heap.lt_size e
  rw [sortedHeap_old (Nat.ne_of_lt hlt) (by rw [size_push']; exact Nat.lt_succ_of_lt hlt)]
  exact Heap.get?_push_of_some _ e
end
def ltT : List Str → List Str → Bool
  | [], [] => false
  | [], _ :: _ => true
  | _ :: _, [] => false
  | a :: as, b :: bs => if a = b then ltT as bs else decide (a.cps.toList < b.cps.toList)
theorem ltS_tri {a b : Str} (h1 : ¬ a.cps.toList < b.cps.toList) (h2 : ¬ b.cps.toList < a.cps.toList) : a = b := by
  exact leS_antisymm (by unfold leS; simpa using h2) (by unfold leS; simpa using h1)
theorem ltT_asym : ∀ {a b : List Str}, ltT a b = true → ltT b a = false
  | [], [], h => rfl
  | [], _ :: _, h => rfl
  | _ :: _, [], h => by cases h
  | a :: as, b :: bs, h => by
    unfold ltT at h ⊢
    by_cases e : a = b
    · subst e
      rw [if_pos rfl] at h ⊢
      exact ltT_asym h
    · rw [if_neg e] at h
      rw [if_neg (Ne.symm e)]
      have h := of_decide_eq_true h
      exact decide_eq_false fun z => List.lt_asymm h z
theorem ltT_no_trans : ∀ {a b c : List Str}, ltT b a = false → ltT c b = false → ltT c a = false
  | [], _, [], _, _ => rfl
  | [], [], _ :: _, _, h => h
  | [], _ :: _, _ :: _, _, _ => rfl
  | _ :: _, [], _, h, _ => by cases h
  | _ :: _, _ :: _, [], h, k => by cases k
  | a :: as, b :: bs, c :: cs, h, k => by
    unfold ltT at h k ⊢
    by_cases e1 : b = a
    · subst e1
      rw [if_pos rfl] at h
      by_cases e2 : c = b
      · subst e2
        rw [if_pos rfl] at k ⊢
        exact ltT_no_trans h k
      · rw [if_neg e2] at k ⊢; exact k
    · rw [if_neg e1] at h
      by_cases e2 : c = b
      · subst e2
        rw [if_neg e1]; exact h
      · rw [if_neg e2] at k
        have h := of_decide_eq_false h
        have k := of_decide_eq_false k
        have le1 : leS a b = true := by unfold leS; simpa using h
        have le2 : leS b c = true := by unfold leS; simpa using k
        have le3 := leS_trans _ _ _ le1 le2
        by_cases e3 : c = a
        · subst e3
          exact absurd (leS_antisymm le2 le1) (fun z => e1 z)
        · rw [if_neg e3]
          unfold leS at le3
          exact decide_eq_false (by simpa using le3)
theorem ltT_tri : ∀ {a b : List Str}, ltT a b = false → ltT b a = false → a = b
  | [], [], _, _ => rfl
  | [], _ :: _, h, _ => by cases h
  | _ :: _, [], _, h => by cases h
  | a :: as, b :: bs, h, k => by
    unfold ltT at h k
    by_cases e : a = b
    · subst e
      rw [if_pos rfl] at h k
      rw [ltT_tri h k]
    · rw [if_neg e] at h
      rw [if_neg (Ne.symm e)] at k
      exact absurd (ltS_tri (of_decide_eq_false h) (of_decide_eq_false k)) e
open L2
def IsTx (h : Heap) (v : Value) (xs : List Str) : Prop := ∃ (a : Addr) (o : Obj) (its : Array Value) (n : Nat), v = .ref a ∧ h.get? a = some o ∧ o.cls = .type "tuple" ∧ o.data = .seq its n ∧ Vals (xs.map V.str) its.toList
theorem IsTx.keeps {h h' : Heap} {v : Value} {xs : List Str} (t : IsTx h v xs) (k : ∀ b o, h.get? b = some o → o.cls = .type "tuple" → h'.get? b = some o) : IsTx h' v xs := by
  obtain ⟨a, o, its, n, e, ho, hc, hd, r⟩ := t
  exact ⟨a, o, its, n, e, k _ _ ho hc, hc, hd, r⟩
section
variable {prog : Program} {w : World} {A : Around} {s : Shared}
end
end TN
set_option Elab.async false
set_option linter.all false
set_option maxRecDepth 100000
set_option maxHeartbeats 4000000
set_option autoImplicit false
namespace TN
open PySem PySem.Spec PyProof.Rows L2
structure SrcB (prog : Program) (w : World) (h : Heap) (u : Value) (xs : List V) : Prop where
  ex : ∃ (o : Obj) (Hc : Heap → Prop) (fp : List Addr) (P : Nat → Value → Prop) (St : Addr → Nat → Heap → Prop), Begins u o Hc ∧ Hc h ∧ (∀ b ∈ fp, b < h.objs.size) ∧
    (∀ it, h.objs.size ≤ it → ∀ A : Around, A.handled = none → Draws prog w A it (it :: fp) xs.length P (St it)) ∧
    (∀ it h', (∀ b o, h.get? b = some o → h'.get? b = some o) → h'.get? it = some o → St it 0 h') ∧ ∀ j x, P j x → ∃ v, xs[j]? = some v ∧ RelV v x
end TN
set_option Elab.async false
set_option linter.all false
set_option maxRecDepth 100000
set_option maxHeartbeats 4000000
set_option autoImplicit false
namespace TN
open PySem PySem.Spec PyProof.Rows L2
section
variable {X : Cx} {pins : List (Addr × Obj)} {σ : L2.St} {H : Hp} {s : Shared} {v1 v2 : V} {xs ys : List V}
end
section
variable {X : Cx} {e1 e2 : Expr} {p p2 pos pos2 : Pos} {ta : TA}
end
end TN
set_option Elab.async false
set_option linter.all false
set_option maxRecDepth 100000
set_option maxHeartbeats 2000000
set_option autoImplicit false
namespace TN
open PySem PySem.Spec PyProof.Rows L2
section
variable {K : PySem.W.Frag} {bor : List Nat} {ta tb : TA} {te tf : TE}
def keyK : D → Option Key
  | .int i => some (.inl i)
  | .str x => some (.inr x)
  | _ => none
def dctD (kvs : List (Key × D)) : List (D × D) := kvs.map fun p => (keyD p.1, p.2)
end
end TN
set_option Elab.async false
set_option linter.all false
set_option maxRecDepth 100000
set_option maxHeartbeats 2000000
set_option autoImplicit false
namespace TN
open PySem PySem.Spec PyProof.Rows L2
section
variable {prog : Program} {w : World} {A : Around} {E : Value → Shared → Prop} {s : Shared}
theorem fm_map {α β : Type} {f : α → Option β} {g : α → β} : ∀ l : List α, (∀ x ∈ l, f x = some (g x)) → l.filterMap f = l.map g
  | [], _ => rfl
  | x :: l, h => by
    rw [List.filterMap_cons, h x List.mem_cons_self, List.map_cons, fm_map l fun y hy => h y (List.mem_cons_of_mem _ hy)]
theorem turned {items : Array Value} : ((List.range items.size).filterMap fun (k : Nat) => items[((items.size : Int) - 1 + (k : Int) * (-1)).toNat]?).toArray = items.toList.reverse.toArray := by
  congr 1
  apply List.ext_getElem?
  intro i
  have all : (List.range items.size).filterMap (fun (k : Nat) => items[((items.size : Int) - 1 + (k : Int) * (-1)).toNat]?) = (List.range items.size).map (fun (k : Nat) => items.toList.getD (items.size - 1 - k) Value.none) := by
    refine fm_map _ fun k hk => ?_
    have hk := List.mem_range.mp hk
    have e : ((items.size : Int) - 1 + (k : Int) * (-1)).toNat = items.size - 1 - k := by omega
    have lt : items.size - 1 - k < items.toList.length := by rw [Array.length_toList]; omega
    rw [e]
    simp [List.getD, List.getElem?_eq_getElem lt]
  rw [all]
  by_cases hi : i < items.size
  · have l2 : items.toList.length - 1 - i < items.toList.length := by rw [Array.length_toList]; omega
    rw [List.getElem?_map, List.getElem?_range hi, List.getElem?_reverse (by rw [Array.length_toList]; exact hi)]
    rw [Array.length_toList] at l2 ⊢
    show some (items.toList.getD (items.size - 1 - i) Value.none) = _
    rw [List.getElem?_eq_getElem (by rw [Array.length_toList]; exact l2), getD_of (by rw [Array.length_toList]; exact l2)]
  · rw [List.getElem?_eq_none (by rw [List.length_map, List.length_range]; omega), List.getElem?_eq_none (by rw [List.length_reverse, Array.length_toList]; omega)]
end
section
variable {X : Cx} {K : PySem.W.Frag} {bor : List Nat} {te : TE} {f : FE} {A : TDE}
end
end TN
set_option Elab.async false
set_option linter.all false
set_option maxRecDepth 100000
set_option maxHeartbeats 2000000
set_option autoImplicit false
namespace TN
open PySem PySem.Spec PyProof.Rows L2
def Ev.even : Ev → Prop
  | .place _ | .name _ => True
  | _ => False
theorem even_run : ∀ (es : List Ev) (r : List Str), (∀ e ∈ es, e.even) → runH r es = runT r es
  | [], r, _ => rfl
  | e :: es, r, h => by
    have he := h e List.mem_cons_self
    have tk : e.takes r = [e.at r] := by cases e <;> first | rfl | exact he.elim
    show ((runH (takeAll r (e.takes r)).1 es).1, (takeAll r (e.takes r)).2 ++ (runH (takeAll r (e.takes r)).1 es).2) = ((runT (toF r (e.at r)) es).1, r.getD (e.at r) "" :: (runT (toF r (e.at r)) es).2)
    rw [tk]
    show ((runH (toF r (e.at r)) es).1, r.getD (e.at r) "" :: (runH (toF r (e.at r)) es).2) = _
    rw [even_run es _ fun x hx => h x (List.mem_cons_of_mem _ hx)]

theorem idx_at {x : Str} {r : List Str} (h : x ∈ r) : r.getD ((idxS x r).getD 0) "" = x := by
  obtain ⟨j, h1, h2⟩ := idxS_mem h
  rw [h1]
  show r.getD j "" = x
  obtain ⟨h3, _⟩ := idxS_is h1
  rw [List.getD, h3]; rfl
end TN
set_option Elab.async false
set_option linter.all false
set_option maxRecDepth 100000
set_option maxHeartbeats 2000000
set_option autoImplicit false
namespace TN
open PySem PySem.Spec PyProof.Rows L2
structure Seen (P : Program) (w : World) (K : PySem.W.Frag) (H : Hp) (t : Shared) (p : Addr) : Prop where
  good : HOk P w H t.heap
  one : ∀ q, H q ≠ none → q = p
  far : H p ≠ none → K.lookup p = none
  frz : ∀ q, H q = none ∨ ∃ o ws, H q = some (.frz o (.lst ws))

structure Left (K : PySem.W.Frag) (mg mb : Str → Option Value) (t : Shared) : Prop where
  kin : K.In t.heap
  main : t.heap.Ns mainGlobals mg
  blt : t.heap.Ns builtinsNs mb
  boot : ∀ y : Str, y ≠ "__name__" → mb y = bootBuiltins y
  free : t.heap.NoLimit
  gens : t.gens = #[]
section
variable {P : Program} {w : World} {K : PySem.W.Frag} {mg mb : Str → Option Value} {t : Shared} {p : Addr} {items : List Value} {H : Hp}
theorem Seen.dict (S : Seen P w K H t p) (at' : t.heap.get? p = some { cls := .type "list", data := .seq items.toArray }) {q : Addr} {o : Obj} {es : Array DictEntry} {n : Nat} (e : t.heap.get? q = some o) (d : o.data = .dict es n) : H q = none := by
  rcases hq : H q with _ | u
  · rfl
  · exfalso
    have := S.one q (by rw [hq]; exact Option.some_ne_none _)
    subst this
    rw [at'] at e
    injection e with e
    subst e
    exact Data.noConfusion d
theorem Seen.ns (S : Seen P w K H t p) (at' : t.heap.get? p = some { cls := .type "list", data := .seq items.toArray }) {q : Addr} {m : Str → Option Value} (h : t.heap.Ns q m) : (hidT t.heap H).Ns q m := by
  obtain ⟨o, es, n, e, d, more⟩ := h
  exact ⟨o, es, n, hidT_get e (S.dict at' e d), d, more⟩
theorem Seen.kin (S : Seen P w K H t p) (L : Left K mg mb t) : K.In (hidT t.heap H) := by
  intro q o e
  refine hidT_get (L.kin q o e) ?_
  rcases hq : H q with _ | u
  · rfl
  · exfalso
    have := S.one q (by rw [hq]; exact Option.some_ne_none _)
    subst this
    rw [S.far (by rw [hq]; exact Option.some_ne_none _)] at e
    cases e
theorem Seen.env (S : Seen P w K H t p) (L : Left K mg mb t) (at' : t.heap.get? p = some { cls := .type "list", data := .seq items.toArray }) : Env0 P w K mg (hidT t.heap H) callerA [] t H := by
  obtain ⟨mc, l1, l2⟩ := L.free
  have m : Mod K mg (hidT t.heap H) := ⟨S.kin L, S.ns at' L.main, ⟨mb, S.ns at' L.blt, L.boot⟩, mc, S.ns at' l1, l2⟩
  refine ⟨rfl, m, fun q o e => of_hidT e, Nat.le_of_eq (hidT_size _ _), trivial, fun q hq => ?_, S.good, .of_eq L.gens⟩
  cases hq

theorem law_goes {k : Nat} {fa : Addr} {fd : FuncData} {x : Str} {sp : Sp} (S : Seen P w K H t p) (L : Left K mg mb t) (at' : t.heap.get? p = some { cls := .type "list", data := .seq items.toArray }) (room : Room k callerA)
    (F : ∀ base : Heap, K.In base → base.Ns mainGlobals mg → FnG P w K mg base CX0 k fa fd [x] sp) (bind : ∀ (s : Shared) (u : Value), BindsTo s fd ⟨[u], []⟩ [(x, u)])
    (q : sp [.ref p] H (fun v _ => v = .bl true) fun _ _ _ => False) :
    codeAny (model P w) callerA (.call (.ref fa) ⟨[.ref p], []⟩) (fun r s' => r = .ok (.ret (.bool true)) ∧ OldK t.heap s'.heap ∧ s'.os = t.os ∧ AllBare s'.gens) t := by
  have run := (F _ (S.kin L) (S.ns at' L.main)).go callerA [] t H ⟨[.ref p], []⟩ [.ref p] [.ref p] _ _ rfl room (S.env L at') (bind t (.ref p)) (.cons rfl .nil) q
  refine codeAny_mono run fun r s' h => ?_
  rcases r with z | fl
  · exact (h : False).elim
  rcases fl with _ | _ | _ | u
  all_goals first | exact (h : False).elim | skip
  obtain ⟨v, H2, h1, h2, h3, h4, h5, h6⟩ := h
  subst h6
  have : u = Value.bool true := h5
  subst this
  refine ⟨rfl, OldK.of_keep fun y o e => ?_, h1, h2⟩
  rcases hy : H y with _ | u
  · exact h3.keep y o e hy (by intro z; cases z) (by simp)
  · rcases S.frz y with z | ⟨o', ws, z⟩
    · rw [hy] at z; cases z
    · obtain ⟨a1, _⟩ := S.good y _ z
      obtain ⟨b1, _⟩ := h4 y _ (h3.frzs y o' _ z)
      rw [a1] at e
      injection e with e
      rw [← e]; exact b1

theorem seen_script {ns : List Int} (at' : t.heap.get? p = some { cls := .type "list", data := .seq items.toArray }) (L : Left K mg mb t) (i : IntsAre items ns) (few : ns.length ≤ sizeLine) :
    ∃ H, Seen P w K H t p ∧ SqL K H p (ns.map V.int) := by
  have il := i.length
  have rv : Vals (ns.map V.int) items := vals_ints i
  rcases hk : K.lookup p with _ | o
  · let H : Hp := fun y => if y = p then some (.frz { cls := .type "list", data := .seq items.toArray } (.lst (ns.map V.int))) else none
    have at1 : H p = some (.frz { cls := .type "list", data := .seq items.toArray } (.lst (ns.map V.int))) := if_pos rfl
    have off : ∀ y, y ≠ p → H y = none := fun y hy => if_neg hy
    refine ⟨H, ⟨fun y u e => ?_, fun y hy => ?_, fun _ => hk, fun y => ?_⟩, .inl (.inr ⟨_, at1⟩)⟩
    · by_cases hy : y = p
      · subst hy
        rw [at1] at e
        injection e with e
        subst e
        exact ⟨at', by rw [List.length_map]; exact few, items, _, rv, at'⟩
      · rw [off y hy] at e; cases e
    · exact Classical.byContradiction fun z => hy (off y z)
    · by_cases hy : y = p
      · subst hy; exact .inr ⟨_, _, at1⟩
      · exact .inl (off y hy)
  · have e := L.kin p o hk
    rw [at'] at e
    injection e with e
    subst e
    refine ⟨fun _ => none, ⟨(fun y u z => by cases z), fun y z => absurd rfl z, fun z => absurd rfl z, fun _ => .inl rfl⟩, .inr ⟨_, items.toArray, _, hk, rfl, rfl, rfl, by rw [List.size_toArray, il]; exact few, by simpa using rv⟩⟩
end
theorem dq_nums {K : PySem.W.Frag} {G : Hp} : ∀ ns : List Int, DqAll K G (ns.map V.int) (ns.map PyData.int)
  | [] => .nil
  | n :: ns => .cons (.int n) (dq_nums ns)

theorem law_by {l : PySem.W.OpenLaw} {n k : Nat} {pr : Program} {loose : List Str} {XP : (Str → Option Value) → Heap → Prop} {YP : World → Heap → Prop} {d : DefRec} {K : Params → PySem.W.Frag} {x : Str} {sem : List D → (Sl → Prop) → Prop}
    (most : l.most = some n) (small : n ≤ sizeLine) (plain : d.params.defaults = []) (room : Room k callerA) (kin : ∀ (w : World) (h : Heap), YP w h → (K w.params).In h)
    (F : ∀ (w : World) (mg : Str → Option Value) (fa : Addr) (h : Heap), (K w.params).In h → h.Ns mainGlobals mg → mg d.name = some (.ref fa) →
      ∃ fd : FuncData, (∀ (s : Shared) (u : Value), BindsTo s fd ⟨[u], []⟩ [(x, u)]) ∧ ∀ base : Heap, (K w.params).In base → base.Ns mainGlobals mg → FnG l.prog w (K w.params) mg base CX0 k fa fd [x] (sp0 (K w.params) sem))
    (yes : ∀ (ns : List Int) (Q : Sl → Prop), ns.length ≤ n → Q (.sh (.bool true)) → sem [.list (ns.map PyData.int)] Q) :
    PySem.W.WalkO pr loose XP YP l.row.toRowW d [] (fun f vs => PySem.call f vs) := by
  refine Att.attach_call most plain fun w s₀ t mg mb fa o pm cd doc p items ns G Y ho hd hcd hmg at' nums len gens => ?_
  have L : Left (K w.params) mg mb t := ⟨kin w _ Y, G.T.g, G.T.b, G.T.builtins, G.T.nolimit, gens⟩
  obtain ⟨fd, bind, promise⟩ := F w mg fa _ L.kin G.T.g hmg
  obtain ⟨H, S, sq⟩ := seen_script (P := l.prog) (w := w) at' L nums (Nat.le_trans len small)
  refine law_goes S L at' room promise bind ?_
  exact ⟨H, [.list (ns.map PyData.int)], fun r => r = .sh (.bool true), fun _ _ e => e, .cons (.lst sq (dq_nums ns)) .nil, yes ns _ len rfl, fun v G2 H2 r _ ok e => by
    subst e
    have ok : Dq (K w.params) G2 v (.bool true) := ok
    cases ok; rfl⟩
end TN
set_option Elab.async false
set_option linter.all false
set_option maxRecDepth 100000
set_option maxHeartbeats 2000000
set_option autoImplicit false
namespace TN
open PySem PySem.Spec PyProof.Rows L2
def semLetterOf (ds : List D) (Q : Sl → Prop) : Prop := ∃ (r : List Str) (x : Str), ds = [tupL r, .str x] ∧ GRow r ∧ x ∈ r ∧ Q (.sh (.bool true))
theorem px0 {a b : List Str} : oIx (pairS a b) (.int 0) = some (tupL a) := ix0
theorem px1 {a b : List Str} : oIx (pairS a b) (.int 1) = some (tupL b) := ix1
end TN
set_option Elab.async false
set_option linter.all false
set_option maxRecDepth 100000
set_option maxHeartbeats 2000000
set_option autoImplicit false
namespace TN
open PySem PySem.Spec PyProof.Rows L2
def fOf (ks vs : List Str) (x : Str) : Str := vs.getD ((idxS x ks).getD 0) ""
theorem fOf_mem {ks vs : List Str} {x : Str} (e : ks.length = vs.length) (h : x ∈ ks) : fOf ks vs x ∈ vs := by
  obtain ⟨j, h1, h2⟩ := idxS_mem h
  unfold fOf
  rw [h1, Option.getD_some, getD_of (by omega)]
  exact List.getElem_mem _
theorem idxS_nd : ∀ {ks : List Str} {j : Nat}, ks.Nodup → (h : j < ks.length) → idxS ks[j] ks = some j
  | k :: ks, 0, nd, h => by unfold idxS; rw [List.getElem_cons_zero, if_pos rfl]
  | k :: ks, j + 1, nd, h => by
    rw [List.nodup_cons] at nd
    unfold idxS
    rw [List.getElem_cons_succ, if_neg (fun z => nd.1 (by rw [z]; exact List.getElem_mem _)), idxS_nd nd.2 (by simpa using h)]; rfl
theorem map_fOf {ks vs : List Str} (nd : ks.Nodup) (e : ks.length = vs.length) : ks.map (fOf ks vs) = vs := by
  apply List.ext_getElem
  · rw [List.length_map, e]
  · intro j h1 h2
    rw [List.getElem_map]
    unfold fOf
    rw [idxS_nd nd (by rw [List.length_map] at h1; exact h1), Option.getD_some, getD_of h2]
theorem fOf_inj {ks vs : List Str} (nd : ks.Nodup) (nv : vs.Nodup) (e : ks.length = vs.length) {x y : Str} (hx : x ∈ ks) (hy : y ∈ ks) (h : fOf ks vs x = fOf ks vs y) : x = y := by
  obtain ⟨i, h1, h2⟩ := idxS_mem hx
  obtain ⟨j, h3, h4⟩ := idxS_mem hy
  unfold fOf at h
  rw [h1, h3, Option.getD_some, Option.getD_some, getD_of (by omega), getD_of (by omega)] at h
  have := (List.getElem_inj nv).mp h
  subst this
  have a := (idxS_is h1).1
  have b := (idxS_is h3).1
  rw [a] at b
  injection b

theorem toF_map (f : Str → Str) {r : List Str} {p : Nat} (h : p < r.length) : toF (r.map f) p = (toF r p).map f := by
  unfold toF
  rw [getD_of (by rw [List.length_map]; exact h), getD_of h, List.getElem_map, ← List.map_take, ← List.map_drop, List.map_append, List.map_append]; rfl
theorem getD_map (f : Str → Str) {r : List Str} {p : Nat} (h : p < r.length) : (r.map f).getD p "" = f (r.getD p "") := by
  rw [getD_of (by rw [List.length_map]; exact h), getD_of h, List.getElem_map]
def Ev.ren (f : Str → Str) : Ev → Ev
  | .name x => .name (f x)
  | e => e
theorem idxS_map (f : Str → Str) {x : Str} : ∀ {r : List Str}, (∀ y ∈ r, f x = f y → x = y) → idxS (f x) (r.map f) = idxS x r
  | [], _ => rfl
  | y :: r, h => by
    rw [List.map_cons]
    unfold idxS
    by_cases e : y = x
    · rw [if_pos e, if_pos (by rw [e])]
    · rw [if_neg e, if_neg (fun z => e (h y List.mem_cons_self z.symm).symm), idxS_map f fun z hz => h z (List.mem_cons_of_mem _ hz)]
theorem Ev.at_ren (f : Str → Str) {r : List Str} {e : Ev} (inj : ∀ x ∈ r, ∀ y ∈ r, f x = f y → x = y) (h : e.ok r) : (e.ren f).at (r.map f) = e.at r := by
  cases e with
  | name x => show (idxS (f x) (r.map f)).getD 0 = _; rw [idxS_map f fun y hy => inj x h y hy]; rfl
  | _ => rfl
theorem runT_ren (f : Str → Str) : ∀ (es : List Ev) (r : List Str), (∀ x ∈ r, ∀ y ∈ r, f x = f y → x = y) → (∀ e ∈ es, e.ok r) → runT (r.map f) (es.map (Ev.ren f)) = ((runT r es).1.map f, (runT r es).2.map f)
  | [], r, _, _ => rfl
  | e :: es, r, inj, h => by
    have h0 := h e List.mem_cons_self
    have lt := Ev.at_lt h0
    have pm := toF_perm lt
    show ((runT (toF (r.map f) ((e.ren f).at (r.map f))) (es.map (Ev.ren f))).1, (r.map f).getD ((e.ren f).at (r.map f)) "" :: (runT (toF (r.map f) ((e.ren f).at (r.map f))) (es.map (Ev.ren f))).2) = _
    rw [Ev.at_ren f inj h0, toF_map f lt, getD_map f lt, runT_ren f es (toF r (e.at r)) (fun x hx y hy => inj x (pm.mem_iff.mp hx) y (pm.mem_iff.mp hy)) fun x hx => Ev.ok_perm pm.symm (h x (List.mem_cons_of_mem _ hx))]; rfl
theorem runT_app : ∀ (es fs : List Ev) (t : List Str), runT t (es ++ fs) = ((runT (runT t es).1 fs).1, (runT t es).2 ++ (runT (runT t es).1 fs).2)
  | [], fs, t => rfl
  | e :: es, fs, t => by
    show ((runT (toF t (e.at t)) (es ++ fs)).1, t.getD (e.at t) "" :: (runT (toF t (e.at t)) (es ++ fs)).2) = _
    rw [runT_app es fs]; rfl
theorem runH_app : ∀ (es fs : List Ev) (t : List Str), runH t (es ++ fs) = ((runH (runH t es).1 fs).1, (runH t es).2 ++ (runH (runH t es).1 fs).2)
  | [], fs, t => rfl
  | e :: es, fs, t => by
    show ((runH (takeAll t (e.takes t)).1 (es ++ fs)).1, (takeAll t (e.takes t)).2 ++ (runH (takeAll t (e.takes t)).1 (es ++ fs)).2) = _
    rw [runH_app es fs]
    rw [← List.append_assoc]; rfl

def outS (f : Str → Str) : D → D
  | .str x => .str (f x)
  | d => d
end TN
set_option Elab.async false
set_option linter.all false
set_option maxRecDepth 100000
set_option maxHeartbeats 2000000
set_option autoImplicit false
namespace TN
open PySem PySem.Spec PyProof.Rows L2
section
variable {K : PySem.W.Frag} {bor : List Nat} {ta tb te : TE} {f g : FE} {A B : TDE}
def dCallF (sem : List D → List D → (Sl → List D → Prop) → Prop) (A : TDL) : TDE := fun ρ Q => A ρ fun xs ρ1 => sem xs [] fun r _ => ∃ d, r = .sh d ∧ Q d ρ1
def dLRev (f : FE) : TDL := fun ρ Q => ∃ xs, f ρ = some (.list xs) ∧ Q xs.reverse ρ
def dLAdd (f g : FE) : TDL := fun ρ Q => ∃ xs ys, f ρ = some (.list xs) ∧ g ρ = some (.list ys) ∧ xs.length + ys.length ≤ 100000 ∧ Q (xs ++ ys) ρ
abbrev TDO := List Sl → (Option Int → List Sl → Prop) → Prop
def dNo : TDO := fun ρ Q => Q none ρ
def dEnd (A : TDE) : TDO := fun ρ Q => A ρ fun d ρ1 => ∃ i, d = .int i ∧ Q (some i) ρ1
def dSliceE (A : TDE) (L U : TDO) : TDE := fun ρ Q => A ρ fun d ρ1 => L ρ1 fun l ρ2 => U ρ2 fun h ρ3 => ∃ z, oSlice l h d = some z ∧ Q z ρ3
def dLSlice (A : TDE) (L U : TDO) : TDL := fun ρ Q => A ρ fun d ρ1 => L ρ1 fun l ρ2 => U ρ2 fun h ρ3 => ∃ xs, d = .list xs ∧ Q (cutD xs l h) ρ3
def dLSlP (f : FE) (lo hi : FO) : TDL := fun ρ Q => ∃ xs l h, f ρ = some (.list xs) ∧ lo ρ = some l ∧ hi ρ = some h ∧ Q (cutD xs l h) ρ
end
end TN
set_option Elab.async false
set_option linter.all false
set_option maxRecDepth 100000
set_option maxHeartbeats 1000000
set_option autoImplicit false
namespace TN
open PySem PySem.Spec PyProof.Rows L2
def spF (K : PySem.W.Frag) (fv : Addr) (sem : List D → (Sl → Prop) → Prop) : Sp := fun vs H Q _ => ∃ (G : Hp) (us : List V) (ds : List D) (Qd : Sl → Prop), vs = us ++ [.ref fv] ∧ Same G H ∧ DqAll K G us ds ∧ sem ds Qd ∧
  ∀ v G' H' r, Grow G H G' H' → RtOk K ⟨H, G, [], []⟩ G' H' v r → Qd r → Q v H'
section
variable {P : Program} {w : World} {K : PySem.W.Frag} {mg : Str → Option Value} {base : Heap} {k : Nat} {f : Addr} {fd : FuncData} {ps : List Str}
def startF (n : Nat) (ds : List D) (fv : Addr) : List Sl := ds.map .sh ++ .fn fv :: List.replicate (n - (ds.length + 1)) .no
theorem rel_startF {N : List Str} {G H : Hp} {vs : List V} {ds : List D} {fv : Addr} (s : Same G H) (p : DqAll K G vs ds) : Rel K ⟨H, G, [], []⟩ G (L2.start N (vs ++ [.ref fv])) H (startF N.length ds fv) := by
  have hl := dps_len p
  have shp : ∀ (i : Nat) (sl : Sl), (startF N.length ds fv)[i]? = some sl → (∃ d, ds[i]? = some d ∧ sl = .sh d) ∨ (i = ds.length ∧ sl = .fn fv) ∨ sl = .no := fun i sl e => by
    unfold startF at e
    by_cases hi : i < ds.length
    · rw [List.getElem?_append_left (by simpa using hi), List.getElem?_map] at e
      cases q : ds[i]? with
      | none => rw [q] at e; cases e
      | some d => rw [q] at e; injection e with e; exact .inl ⟨d, rfl, e.symm⟩
    · rw [List.getElem?_append_right (by simpa using hi), List.length_map] at e
      by_cases h0 : i = ds.length
      · subst h0
        rw [Nat.sub_self, List.getElem?_cons_zero] at e
        injection e with e
        exact .inr (.inl ⟨rfl, e.symm⟩)
      · obtain ⟨m, em⟩ : ∃ m, i - ds.length = m + 1 := ⟨i - ds.length - 1, by omega⟩
        rw [em, List.getElem?_cons_succ, List.getElem?_replicate] at e
        split at e
        · injection e with e; exact .inr (.inr e.symm)
        · cases e
  have hlen : (L2.start N (vs ++ [.ref fv])).length = (startF N.length ds fv).length := by
    unfold L2.start startF
    simp only [List.length_append, List.length_map, List.length_cons, List.length_replicate, List.length_nil, hl]
    omega
  refine ⟨s, fun a o e _ => e, fun a _ h => h, hlen, fun i sl e => ?_, fun i j sl sl' a _ e _ ob => ?_, fun i a h => (nomatch h), fun i a h => (nomatch h)⟩
  · rcases shp i sl e with ⟨d, e1, rfl⟩ | ⟨rfl, rfl⟩ | rfl
    · obtain ⟨v, e2, e3⟩ := dps_of p e1
      refine ⟨v, ?_, e3⟩
      unfold L2.start
      have hi : i < vs.length := (List.getElem?_eq_some_iff.mp e2).1
      rw [List.getElem?_append_left (by simp; omega), List.getElem?_map, List.getElem?_append_left hi, e2]
      rfl
    · show (L2.start N (vs ++ [.ref fv]))[ds.length]? = some (some (.ref fv))
      unfold L2.start
      rw [List.getElem?_append_left (by simp; omega), List.getElem?_map, List.getElem?_append_right (by omega), ← hl, Nat.sub_self]
      rfl
    · trivial
  · rcases shp i _ e with ⟨d, e1, e2⟩ | ⟨_, e2⟩ | e2 <;> (subst e2; exact ob.elim)
theorem fnF {x qual : Str} {st : Stmt} {N : List Str} {fv : Addr} {sem : List D → (Sl → Prop) → Prop} {t : TS} {T : TDS} (F : Fun K x qual st f fd) (S : FnScope N ps (defScope st)) (hn : ∀ ds Q, sem ds Q → ds.length + 1 = ps.length)
    (body : ∀ (cdv : Value) (A : Around) (outer : List Env) (s : Shared) (H : Hp) (E : XK), A.guards = some [] → Room k (A.deeper (envOfC qual (defScope st) s.heap.objs.size f cdv)) →
      PSs (cxOf CX0 P w K mg base N qual (defScope st) f cdv A outer s H E).nox (defBody st) t)
    (hl : LS K [] t T) (hs : ∀ ds Qd, sem ds Qd → T { nx := fun _ => Qd (.sh .none), rt := fun r _ => Qd r } (startF N.length ds fv)) :
    FnG P w K mg base CX0 (k + 1) f fd ps (spF K fv sem) := by
  refine fnG_body F S (fun vs H Q E h => ?_) fun cdv A outer s H vs Q E hg hr h => ⟨t, (body cdv A outer s H E hg hr).nox, ?_⟩
  · obtain ⟨G, us, ds, Qd, e, _, p, q, _⟩ := h
    subst e
    rw [List.length_append, dps_len p]; exact hn _ _ q
  · obtain ⟨G, us, ds, Qd, e, sm, p, q, fin⟩ := h
    subst e
    have R := rel_startF (N := N) (fv := fv) sm p
    have grow : ∀ {G' : Hp} {σ' : L2.St} {H' : Hp} {ρ' : List Sl}, Same G G' → Rel K ⟨H, G, [], []⟩ G' σ' H' ρ' → Grow G H G' H' := fun s' R' =>
      ⟨fun b o e => R'.fr b o e fun i z => (nomatch z), s', R'.sub, fun b h1 h2 => R'.gh b h1 h2⟩
    exact hl rfl R (hs ds Qd q) ⟨fun s' R' q' => fin _ _ _ (.sh .none) (grow s' R') .non q', fun s' R' ok q' => fin _ _ _ _ (grow s' R') ok q', fun _ _ z => z.elim, fun _ _ z => z.elim⟩
end
structure HasAt (P : Program) (w : World) (K : PySem.W.Frag) (mg : Str → Option Value) (base : Heap) (f : Addr) (k : Nat) (ps : List Str) (sp : Sp) : Prop where
  ex : ∃ fd, FnG P w K mg base CX0 k f fd ps sp ∧ PySem.W.keepIn K (.ref f) = true ∧ Binds K fd ps []
theorem hasAt_of {P : Program} {w : World} {K : PySem.W.Frag} {mg : Str → Option Value} {base : Heap} {name : Str} {k : Nat} {ps : List Str} {sp : Sp} {f : Addr} {fd : FuncData} {qual : Str} {st : Stmt}
    (G : FnG P w K mg base CX0 k f fd ps sp) (F : Fun K name qual st f fd)
    (h : ∀ (kV doc pm : Value) (an : Option Addr) (cdv ct : Value) (us : List Value), us.length = ps.length → bindArgs (PySem.W.fnOf name qual (defArgs st) (defBody st) (defScope st) .none kV doc pm an cdv ct) ⟨us, []⟩ = pure (ps.zip us)) :
    HasAt P w K mg base f k ps sp := ⟨fd, G, F.kp, F.binds h⟩
theorem HasAt.up {P : Program} {w : World} {K : PySem.W.Frag} {mg : Str → Option Value} {base : Heap} {f : Addr} {j k : Nat} {ps : List Str} {sp : Sp} (h : HasAt P w K mg base f j ps sp) (le : j ≤ k) : HasAt P w K mg base f k ps sp := by
  obtain ⟨fd, a, c, d⟩ := h.ex
  exact ⟨fd, a.up le, c, d⟩
section
variable {X : Cx} {k i : Nat} {f : Addr} {fd : FuncData} {ps : List Str} {sp : Sp} {x : Str} {p pos : Pos} {e : Expr} {es : List Expr} {t : TA}
theorem pe_hasL (h : HasAt X.prog X.w X.K X.mg X.base f k ps sp) (hg : X.A.guards = some []) (hr : Room k X.A) (hN : X.N[i]? = some x) (hv : Vis X.env.scope x) (ha : PA X (e :: es) t)
    (hdb : (x == ("__debug__" : Str)) = false := by decide) (hcd : (x == ("__classdict__" : Str)) = false := by decide)
    (he : starEach (e :: es) X.env = (false, eval e X.env) :: starEach es X.env := by rfl) (hpl : (backTo pos (starEach es X.env)).any (·.1) = false := by rfl) : PE X (.Call (.Name x p) (e :: es) [] pos) (tCallL i f sp [] E0 t) := by
  obtain ⟨fd, F, kp, b⟩ := h.ex
  refine ⟨fun pins s σ H Q I h => ?_⟩
  obtain ⟨hs, ht⟩ := h
  refine wpAny_Call_Name_kw (thn ((pe_var (pos := p) hN hv hdb hcd).run pins s σ H (fun v H1 => v = .ref f ∧ H1 = H) I ⟨.ref f, hs, rfl, rfl⟩) fun u s1 ⟨v, H1, I1, r1, q1⟩ => ?_)
  obtain ⟨rfl, rfl⟩ := q1
  cases r1
  refine PySem.W.callWith_K (h₀ := X.base) I.ok.mod.kin kp (thn (ha.run pos pins s1 σ _ _ I1 ht) fun us s2 ⟨vs, H2, I2, r, q⟩ => ⟨I2.kIn, ?_⟩) he hpl
  have q : sp (vs ++ []) H2 Q E0 := q
  rw [List.append_nil] at q
  exact runG F hg hr b pass0 I2 r q

theorem pe_fn {m : Addr} (hg : Gl X x) (hm : X.mg x = some (.ref m)) (hdb : (x == ("__debug__" : Str)) = false := by decide) : PE X (.Name x pos) (tC (.ref m)) := pe_glob (v := .ref m) hg hm rfl hdb
end
section
variable {K : PySem.W.Frag} {bor : List Nat} {ta : TA} {te : TE}
def dCallV (i : Nat) (f : Addr) (sem : List D → (Sl → Prop) → Prop) (A : TDA) : TDE := fun ρ Q => ρ[i]? = some (.fn f) ∧ A ρ fun ds ρ1 => sem ds fun r => ∃ d, r = .sh d ∧ Q d ρ1
theorem le_callV {i : Nat} {f : Addr} {sem : List D → (Sl → Prop) → Prop} {A : TDA} {E : XK} (h : LEs K bor ta A) : LE K bor (tCallL i f (sp0 K sem) [] E ta) (dCallV i f sem A) := fun {c G σ H ρ Qd Q} hc R ⟨q0, q⟩ k =>
  ⟨R.sl i _ q0, h hc R q fun vs H1 G1 ρ1 ds s1 R1 p q1 => by
    rw [List.append_nil]
    refine ⟨G1, ds, _, R1.sub, p, q1, fun v G' H' r g ok ⟨d, e, q2⟩ => ?_⟩
    subst e
    exact k v H' G' ρ1 d (s1.trans g.g) (R1.grow g) ok q2⟩

def LEsF (K : PySem.W.Frag) (bor : List Nat) (f : Addr) (tH : TA) (t : TDA) : Prop :=
  ∀ ⦃c : C0⦄ ⦃G : Hp⦄ ⦃σ : L2.St⦄ ⦃H : Hp⦄ ⦃ρ : List Sl⦄ ⦃Qd : List D → List Sl → Prop⦄ ⦃Q : List V → Hp → Prop⦄, c.bor = bor → Rel K c G σ H ρ → t ρ Qd →
    (∀ vs H' G' ρ' ds, Same G G' → Rel K c G' σ H' ρ' → DqAll K G' vs ds → Qd ds ρ' → Q (vs ++ [.ref f]) H') → tH σ H Q
theorem lesF_fn {f : Addr} : LEsF K bor f (tCons (tC (.ref f)) tNil) dNil := fun {c G σ H ρ Qd Q} hc R q k => k [] H G ρ [] (Same.refl _) R .nil q
theorem lesF_cons {f : Addr} {tr : TA} {r : TDA} {A : TDE} (h : LE K bor te A) (hr : LEsF K bor f tr r) : LEsF K bor f (tCons te tr) (dCons A r) := fun {c G σ H ρ Qd Q} hc R q k =>
  h hc R q fun v H1 G1 ρ1 d s1 R1 p1 q1 => hr hc R1 q1 fun vs H2 G2 ρ2 ds s2 R2 p2 q2 => k (v :: vs) H2 G2 ρ2 _ (s1.trans s2) R2 (.cons (dpS s2 p1) p2) q2
end
end TN
set_option Elab.async false
set_option linter.all false
set_option maxRecDepth 100000
set_option maxHeartbeats 2000000
set_option autoImplicit false
namespace TN
open PySem PySem.Spec PyProof.Rows L2
structure Tk (X : List Str → Nat → List Str) : Prop where
  pm : ∀ {r : List Str} {p : Nat}, p < r.length → (X r p).Perm r
variable {X : List Str → Nat → List Str}
end TN
namespace TN
open PySem PySem.Spec PyProof.Rows L2
def semUnlikeL (ds : List D) (Q : Sl → Prop) : Prop := ∃ r, ds = [tupL r] ∧ GRow r ∧ Q (.sh (.bool true))
def semHasWord (ds : List D) (Q : Sl → Prop) : Prop := ∃ e : Ev, ds = [e.d] ∧ Q (.sh (.bool true))
end TN
namespace TN
open PySem PySem.Spec PyProof.Rows L2
theorem comp_map {α : Type} {j : Nat} {vs : List Nat} {A : TDE} {Q : List D → List Sl → Prop} {ρ0 : List Sl} (e o : α → D) (I : α → Prop)
    (own : (vs.all fun v => plainAt v ρ0) = true) (back : ∀ d, backD ρ0 ((wipeD ρ0 vs).set j (.sh d)) vs = ρ0)
    (turn : ∀ x (R : D → List Sl → Prop), I x → R (o x) ((wipeD ρ0 vs).set j (.sh (e x))) → A ((wipeD ρ0 vs).set j (.sh (e x))) R) :
    ∀ (xs : List α) (acc : List D), (∀ x ∈ xs, I x) → acc.length + xs.length ≤ 100000 → Q (acc ++ xs.map o) ρ0 → compD j vs dYes A Q (xs.map e) acc ρ0
  | [], acc, _, _, q => by simpa [compD] using q
  | x :: xs, acc, hI, few, q => by
    rw [List.length_cons] at few
    refine ⟨own, fun _ => ?_, (fun z => by cases z)⟩
    refine turn x _ (hI x List.mem_cons_self) ⟨by omega, ?_⟩
    rw [back]
    refine comp_map e o I own back turn xs (acc ++ [o x]) (fun y hy => hI y (List.mem_cons_of_mem _ hy)) (by rw [List.length_append, List.length_singleton]; omega) ?_
    rw [List.append_assoc]
    exact q
def Ev.isN : Ev → Bool
  | .name _ => true
  | _ => false
def semHasName (ds : List D) (Q : Sl → Prop) : Prop := ∃ es : List Ev, ds = [.list (es.map Ev.d)] ∧ es.length ≤ 1000 ∧ Q (.sh (.bool (es.any Ev.isN)))
theorem isN_eq (e : Ev) : ∃ w, oIx e.d (.int 0) = some (.str w) ∧ oEq (.str w) (.str (Str.ofString "name")) = some (.bool e.isN) := by
  cases e with
  | name x => exact ⟨_, rfl, by (simp only [Ev.d, TN.ix0, TN.ix1, TN.ix2, TN.ixl0, TN.ixl1, TN.ixl2, TN.ixm2, TN.ixm3, TN.len2, TN.len3, TN.neg1, TN.ty_tup, TN.ty_lst, TN.ty_str, TN.ty_int, TN.oLen_tupL, TN.oLen_lstL, TN.oU_int, TN.oEq_int, TN.oNe_int, decide_true, Bool.not_true, Bool.not_false, reduceCtorEq, Option.some.injEq, PyData.int.injEq, PyData.str.injEq, PyData.bool.injEq, PyData.list.injEq, PyData.tuple.injEq, exists_eq_left', TN.imp_ff, TN.imp_tf, TN.imp_tt, true_and, and_true, forall_const, true_implies, false_implies, TN.w_place_place, TN.n_place_place, TN.w_place_name, TN.n_place_name, TN.w_place_lost, TN.n_place_lost, TN.w_place_twice, TN.n_place_twice, TN.w_place_as, TN.n_place_as, TN.w_name_place, TN.n_name_place, TN.w_name_name, TN.n_name_name, TN.w_name_lost, TN.n_name_lost, TN.w_name_twice, TN.n_name_twice, TN.w_name_as, TN.n_name_as, TN.w_lost_place, TN.n_lost_place, TN.w_lost_name, TN.n_lost_name, TN.w_lost_lost, TN.n_lost_lost, TN.w_lost_twice, TN.n_lost_twice, TN.w_lost_as, TN.n_lost_as, TN.w_twice_place, TN.n_twice_place, TN.w_twice_name, TN.n_twice_name, TN.w_twice_lost, TN.n_twice_lost, TN.w_twice_twice, TN.n_twice_twice, TN.w_twice_as, TN.n_twice_as, TN.w_as_place, TN.n_as_place, TN.w_as_name, TN.n_as_name, TN.w_as_lost, TN.n_as_lost, TN.w_as_twice, TN.n_as_twice, TN.w_as_as, TN.n_as_as]); rfl⟩
  | _ => exact ⟨_, rfl, by (simp only [Ev.d, TN.ix0, TN.ix1, TN.ix2, TN.ixl0, TN.ixl1, TN.ixl2, TN.ixm2, TN.ixm3, TN.len2, TN.len3, TN.neg1, TN.ty_tup, TN.ty_lst, TN.ty_str, TN.ty_int, TN.oLen_tupL, TN.oLen_lstL, TN.oU_int, TN.oEq_int, TN.oNe_int, decide_true, Bool.not_true, Bool.not_false, reduceCtorEq, Option.some.injEq, PyData.int.injEq, PyData.str.injEq, PyData.bool.injEq, PyData.list.injEq, PyData.tuple.injEq, exists_eq_left', TN.imp_ff, TN.imp_tf, TN.imp_tt, true_and, and_true, forall_const, true_implies, false_implies, TN.w_place_place, TN.n_place_place, TN.w_place_name, TN.n_place_name, TN.w_place_lost, TN.n_place_lost, TN.w_place_twice, TN.n_place_twice, TN.w_place_as, TN.n_place_as, TN.w_name_place, TN.n_name_place, TN.w_name_name, TN.n_name_name, TN.w_name_lost, TN.n_name_lost, TN.w_name_twice, TN.n_name_twice, TN.w_name_as, TN.n_name_as, TN.w_lost_place, TN.n_lost_place, TN.w_lost_name, TN.n_lost_name, TN.w_lost_lost, TN.n_lost_lost, TN.w_lost_twice, TN.n_lost_twice, TN.w_lost_as, TN.n_lost_as, TN.w_twice_place, TN.n_twice_place, TN.w_twice_name, TN.n_twice_name, TN.w_twice_lost, TN.n_twice_lost, TN.w_twice_twice, TN.n_twice_twice, TN.w_twice_as, TN.n_twice_as, TN.w_as_place, TN.n_as_place, TN.w_as_name, TN.n_as_name, TN.w_as_lost, TN.n_as_lost, TN.w_as_twice, TN.n_as_twice, TN.w_as_as, TN.n_as_as]); rfl⟩
theorem oAny_map {α : Type} (f : α → Bool) (xs : List α) : oAny [.list (xs.map fun x => PyData.bool (f x))] = some (.bool (xs.any f)) := by
  have e : (xs.map fun x => PyData.bool (f x)) = (xs.map f).map PyData.bool := by rw [List.map_map]; rfl
  show (blsOf _).map _ = _
  rw [e, blsOf_map]
  show some (PyData.bool ((xs.map f).any id)) = _
  rw [List.any_map]; rfl
end TN
set_option Elab.async false
set_option linter.all false
set_option maxRecDepth 100000
set_option maxHeartbeats 2000000
set_option autoImplicit false
namespace TN
open PySem PySem.Spec PyProof.Rows L2
inductive AlkD : Nat → D → Prop
  | none {k : Nat} : AlkD k .none
  | int {k : Nat} (i : Int) : AlkD k (.int i)
  | bl {k : Nat} (i : Bool) : AlkD k (.bool i)
  | str {k : Nat} {x : Str} (h : okS x) : AlkD k (.str x)
  | list {k : Nat} {xs : List D} (h : ∀ x ∈ xs, AlkD k x) (few : xs.length ≤ 10000) : AlkD (k + 1) (.list xs)
  | tuple {k : Nat} {xs : List D} (h : ∀ x ∈ xs, AlkD k x) (few : xs.length ≤ 10000) : AlkD (k + 1) (.tuple xs)
theorem AlkD.up {k : Nat} {d : D} (h : AlkD k d) : ∀ {m : Nat}, k ≤ m → AlkD m d := by
  induction h with
  | none => intro m _; exact .none
  | int i => intro m _; exact .int i
  | bl i => intro m _; exact .bl i
  | str h => intro m _; exact .str h
  | list h few ih => intro m hm; cases m with
    | zero => omega
    | succ m => exact .list (fun x hx => ih x hx (by omega)) few
  | tuple h few ih => intro m hm; cases m with
    | zero => omega
    | succ m => exact .tuple (fun x hx => ih x hx (by omega)) few
end TN
set_option Elab.async false
set_option linter.all false
set_option maxRecDepth 100000
set_option maxHeartbeats 2000000
set_option autoImplicit false
namespace TN
open PySem PySem.Spec PyProof.Rows L2
end TN
set_option Elab.async false
set_option linter.all false
set_option maxRecDepth 100000
set_option maxHeartbeats 4000000
set_option autoImplicit false
namespace TN
open PySem PySem.Spec PyProof.Rows L2
section
variable {prog : Program} {w : World} {z TI TO i1 i2 N : Addr} {fp1 fp2 : List Addr} {n1 n2 n : Nat} {P1 P2 : Nat → Value → Prop} {St1 St2 : Nat → Heap → Prop} {h0 : Heap}
end
section
variable {X : Cx} {pins : List (Addr × Obj)} {σ : L2.St} {H : Hp} {s : Shared}
structure SrcB2 (prog : Program) (w : World) (h : Heap) (u : Value) (n : Nat) (its : List Value) : Prop where
  ex : ∃ (a : Addr) (o o' : Obj) (Hc : Heap → Prop) (St : Addr → Nat → Heap → Prop), Begins u o Hc ∧ Hc h ∧ h.get? a = some o' ∧
    (∀ it, h.objs.size ≤ it → ∀ A : Around, A.handled = none → Draws prog w A it [it, a] n (fun i v => its.toArray[i]? = some v) (St it)) ∧
    (∀ it h', (∀ b o, h.get? b = some o → h'.get? b = some o) → h'.get? it = some o → St it 0 h')
end
section
variable {X : Cx} {e1 e2 : Expr} {p p2 pos pos2 : Pos} {ta : TA}
end
def keysOf : List D → Option (List Key)
  | [] => some []
  | d :: ds => match keyK d, keysOf ds with
    | some k, some r => some (k :: r)
    | _, _ => none
end TN
set_option Elab.async false
set_option linter.all false
set_option maxRecDepth 100000
set_option maxHeartbeats 1000000
set_option autoImplicit false
namespace TN
open PySem PySem.Spec PyProof.Rows L2
section
variable {K : PySem.W.Frag} {bor : List Nat} {tt : TT} {te : TE} {C : TDT} {A : TDE}
theorem MineO.put {c : C0} {G0 : Hp} {σ : L2.St} {H : Hp} {ρ : List Sl} {L : Addr} {o : HO} {j : Nat} {x : V} {d : D} (mw : MineO c G0 σ H ρ L o) : MineO c G0 (σ.set j (some x)) H (ρ.set j (.sh d)) L o := mineO_set mw fun _ z => z
theorem Mine.put {c : C0} {G0 : Hp} {σ : L2.St} {H : Hp} {ρ : List Sl} {L : Addr} {ws : List V} {j : Nat} {x : V} {d : D} (mw : Mine c G0 σ H ρ L ws) : Mine c G0 (σ.set j (some x)) H (ρ.set j (.sh d)) L ws := mineO_set mw fun _ z => z
end
end TN
set_option Elab.async false
set_option linter.all false
set_option maxRecDepth 100000
set_option maxHeartbeats 2000000
set_option autoImplicit false
namespace TN
open PySem PySem.Spec PyProof.Rows L2
section
variable {X : Cx}
end
def minS (xs : List Str) : Option Str := (sortS xs).head?
end TN
set_option Elab.async false
set_option linter.all false
set_option maxRecDepth 100000
set_option maxHeartbeats 2000000
set_option autoImplicit false
namespace TN
open PySem PySem.Spec PyProof.Rows L2
theorem sortS_nd {ks : List Str} (nd : ks.Nodup) : (sortS ks).Nodup := (sortS_perm ks).nodup_iff.mpr nd
structure RG (ks : List Str) (f : Str → Str) : Prop where
  ne : ks ≠ []
  few : ks.length ≤ 16
  nd : ks.Nodup
  isl : ∀ x ∈ ks, isL x
  mem : ∀ x ∈ ks, f x ∈ ks
  inj : ∀ x ∈ ks, ∀ y ∈ ks, f x = f y → x = y
theorem RG.of {t h : List Str} (gp : GPair t h) : RG t (fOf t h) := ⟨gp.gt.ne, gp.gt.few, gp.gt.nd, gp.gt.let', fun x hx => gp.pm.mem_iff.mpr (fOf_mem gp.pm.length_eq hx), fun x hx y hy e => fOf_inj gp.gt.nd gp.gh.nd gp.pm.length_eq hx hy e⟩
theorem RG.sorted {ks : List Str} {f : Str → Str} (g : RG ks f) : RG (sortS ks) f := by
  have p := sortS_perm ks
  exact ⟨fun z => g.ne (by rw [z] at p; exact p.nil_eq.symm), by rw [p.length_eq]; exact g.few, p.nodup_iff.mpr g.nd, fun x hx => g.isl x (p.mem_iff.mp hx), fun x hx => p.mem_iff.mpr (g.mem x (p.mem_iff.mp hx)), fun x hx y hy => g.inj x (p.mem_iff.mp hx) y (p.mem_iff.mp hy)⟩
def growR (f : Str → Str) (x : Str) : Nat → List Str → List Str
  | 0, r => r
  | n + 1, r => if f (r.getLastD x) = x then r else growR f x n (r ++ [f (r.getLastD x)])
def ringL (f : Str → Str) (n : Nat) (x : Str) : List Str := growR f x (n - 1) [x]
structure Ch (ks : List Str) (f : Str → Str) (x : Str) (r : List Str) : Prop where
  hd : r.head? = some x
  nd : r.Nodup
  mem : ∀ y ∈ r, y ∈ ks
  step : ∀ i (h : i + 1 < r.length), r[i + 1] = f (r[i]'(by omega))
theorem Ch.ne {ks : List Str} {f : Str → Str} {x : Str} {r : List Str} (c : Ch ks f x r) : 0 < r.length := List.length_pos_iff.mpr fun z => by have := c.hd; rw [z] at this; cases this
theorem last_is {r : List Str} {x : Str} (h : 0 < r.length) : r.getLastD x = r[r.length - 1] := by
  rw [List.getLastD_eq_getLast?, List.getLast?_eq_getElem?, List.getElem?_eq_getElem (by omega)]; rfl
theorem Ch.last {ks : List Str} {f : Str → Str} {x : Str} {r : List Str} (c : Ch ks f x r) : r.getLastD x ∈ ks := by
  rw [last_is c.ne]; exact c.mem _ (List.getElem_mem _)
theorem Ch.next {ks : List Str} {f : Str → Str} {x : Str} {r : List Str} (g : RG ks f) (c : Ch ks f x r) (h : f (r.getLastD x) ≠ x) : f (r.getLastD x) ∉ r := by
  intro z
  obtain ⟨j, hj, e⟩ := List.mem_iff_getElem.mp z
  have c0 := c.ne
  cases j with
  | zero =>
    refine h ?_
    rw [← e]
    have := c.hd
    rw [List.head?_eq_getElem?, List.getElem?_eq_getElem (by omega)] at this
    injection this
  | succ i =>
    rw [c.step i hj] at e
    have q := g.inj _ (c.mem _ (List.getElem_mem (by omega))) _ c.last e
    rw [last_is c0] at q
    have := (List.getElem_inj c.nd).mp q
    omega
theorem Ch.grow {ks : List Str} {f : Str → Str} {x : Str} {r : List Str} (g : RG ks f) (c : Ch ks f x r) (h : f (r.getLastD x) ≠ x) : Ch ks f x (r ++ [f (r.getLastD x)]) where
  hd := by rw [List.head?_append, c.hd]; rfl
  nd := by
    rw [List.nodup_append]
    refine ⟨c.nd, by simp, fun a ha b hb => ?_⟩
    rw [List.mem_singleton.mp hb]
    exact fun z => c.next g h (z ▸ ha)
  mem := fun y hy => by
    rcases List.mem_append.mp hy with a | a
    · exact c.mem y a
    · rw [List.mem_singleton.mp a]; exact g.mem _ c.last
  step := fun i hi => by
    have c0 := c.ne
    rw [List.length_append, List.length_singleton] at hi
    by_cases hl : i + 1 < r.length
    · rw [List.getElem_append_left hl, List.getElem_append_left (by omega)]; exact c.step i hl
    · have : i + 1 = r.length := by omega
      rw [List.getElem_append_right (by omega), List.getElem_append_left (by omega)]
      simp only [List.getElem_singleton]
      rw [last_is c0]
      congr 1
      congr 1
      omega
theorem Ch.few {ks : List Str} {f : Str → Str} {x : Str} {r : List Str} (c : Ch ks f x r) : r.length ≤ ks.length := c.nd.length_le_of_subset (fun y hy => c.mem y hy)
theorem Ch.full {ks : List Str} {f : Str → Str} {x : Str} {r : List Str} (g : RG ks f) (c : Ch ks f x r) (h : r.length = ks.length) : f (r.getLastD x) = x := Classical.byContradiction fun z => by
  have := (c.grow g z).few
  rw [List.length_append, List.length_singleton] at this
  omega
theorem Ch.one {ks : List Str} {f : Str → Str} {x : Str} (h : x ∈ ks) : Ch ks f x [x] := ⟨rfl, by simp, fun y hy => by rw [List.mem_singleton.mp hy]; exact h, fun i hi => by simp at hi⟩
theorem growR_ok {ks : List Str} {f : Str → Str} {x : Str} (g : RG ks f) : ∀ (k : Nat) (r : List Str), Ch ks f x r → Ch ks f x (growR f x k r)
  | 0, r, c => c
  | k + 1, r, c => by
    show Ch ks f x (if f (r.getLastD x) = x then r else growR f x k (r ++ [f (r.getLastD x)]))
    split
    · exact c
    · rename_i h; exact growR_ok g k _ (c.grow g h)
theorem ringL_ok {ks : List Str} {f : Str → Str} {x : Str} (g : RG ks f) (h : x ∈ ks) (n : Nat) : Ch ks f x (ringL f n x) := growR_ok g _ _ (.one h)
def ringOk (r : List Str) : Bool := decide (1 < r.length) && decide (r.head? = minS r)
def ringsL (f : Str → Str) (n : Nat) (ls : List Str) : List (List Str) := (ls.map (ringL f n)).filter ringOk
def isPlace : Ev → Bool
  | .place _ => true
  | _ => false
theorem places_map {es : List Ev} (h : ∀ e ∈ es, isPlace e = true) (f : Str → Str) : es.map (Ev.ren f) = es := by
  conv => rhs; rw [← List.map_id es]
  refine List.map_congr_left fun e he => ?_
  have := h e he
  cases e <;> first | rfl | cases this
theorem places_go {t h : List Str} {es : List Ev} (gp : GPair t h) (ok : ∀ e ∈ es, e.ok t) (pl : ∀ e ∈ es, isPlace e = true) : (runH h es).1 = (runT t es).1.map (fOf t h) ∧ (runH h es).2 = (runT t es).2.map (fOf t h) := by
  have e1 : runH h es = runT h es := even_run es h fun e he => by
    have := pl e he
    cases e <;> first | trivial | cases this
  have g := RG.of gp
  have e2 := runT_ren (fOf t h) es t g.inj ok
  rw [places_map pl, map_fOf gp.gt.nd gp.pm.length_eq] at e2
  rw [e1, e2]; exact ⟨rfl, rfl⟩
end TN
set_option Elab.async false
set_option linter.all false
set_option maxRecDepth 100000
set_option maxHeartbeats 1000000
set_option autoImplicit false
namespace TN
open PySem PySem.Spec PyProof.Rows L2
section
variable {K : PySem.W.Frag} {bor : List Nat} {tk tv : TE} {A B : TDE}
end
section
variable {K : PySem.W.Frag} {bor : List Nat} {tk tv : TE} {A B : TDE}
end
end TN
set_option Elab.async false
set_option linter.all false
set_option maxRecDepth 100000
set_option maxHeartbeats 2000000
set_option autoImplicit false
namespace TN
open PySem PySem.Spec PyProof.Rows L2
theorem growR_end {ks : List Str} {f : Str → Str} {x : Str} (g : RG ks f) : ∀ (k : Nat) (r : List Str), Ch ks f x r → r.length + k = ks.length → f ((growR f x k r).getLastD x) = x
  | 0, r, c, hl => (c.full g (show r.length = ks.length by omega) :)
  | k + 1, r, c, hl => by
    show f ((if f (r.getLastD x) = x then r else growR f x k (r ++ [f (r.getLastD x)])).getLastD x) = x
    split
    · rename_i h; exact h
    · rename_i h
      exact growR_end g k _ (c.grow g h) (by rw [List.length_append, List.length_singleton]; omega)
theorem ringL_end {ks : List Str} {f : Str → Str} {x : Str} (g : RG ks f) (h : x ∈ ks) : f ((ringL f ks.length x).getLastD x) = x := by
  have := List.length_pos_iff.mpr g.ne
  exact growR_end g _ _ (.one h) (by simp; omega)

theorem ring_next {ks : List Str} {f : Str → Str} {x : Str} (g : RG ks f) (h : x ∈ ks) (i : Nat) (hi : i < (ringL f ks.length x).length) :
    f (ringL f ks.length x)[i] = if h2 : i + 1 < (ringL f ks.length x).length then (ringL f ks.length x)[i + 1] else x := by
  have c := ringL_ok g h ks.length
  split
  · rename_i h2; exact (c.step i h2).symm
  · rename_i h2
    have e := ringL_end g h
    rw [last_is c.ne] at e
    have : (ringL f ks.length x).length - 1 = i := by omega
    simp only [this] at e
    exact e
theorem ring_closed {ks : List Str} {f : Str → Str} {x y : Str} (g : RG ks f) (h : x ∈ ks) (hy : y ∈ ringL f ks.length x) : f y ∈ ringL f ks.length x := by
  obtain ⟨i, hi, rfl⟩ := List.mem_iff_getElem.mp hy
  rw [ring_next g h i hi]
  split
  · exact List.getElem_mem _
  · have c := ringL_ok g h ks.length
    exact List.mem_of_mem_head? c.hd

theorem ring_sub {ks : List Str} {f : Str → Str} {x : Str} (g : RG ks f) (h : x ∈ ks) {S : List Str} (hx : x ∈ S) (cl : ∀ y ∈ S, f y ∈ S) : ∀ y ∈ ringL f ks.length x, y ∈ S := by
  have c := ringL_ok g h ks.length
  have all : ∀ i (hi : i < (ringL f ks.length x).length), (ringL f ks.length x)[i] ∈ S := by
    intro i
    induction i with
    | zero =>
      intro hi
      have := c.hd
      rw [List.head?_eq_getElem?, List.getElem?_eq_getElem hi] at this
      injection this with this
      rw [this]; exact hx
    | succ i ih =>
      intro hi
      rw [c.step i hi]
      exact cl _ (ih (by omega))
  intro y hy
  obtain ⟨i, hi, rfl⟩ := List.mem_iff_getElem.mp hy
  exact all i hi

theorem ring_back {ks : List Str} {f : Str → Str} {x y : Str} (g : RG ks f) (h : x ∈ ks) (hy : y ∈ ringL f ks.length x) : x ∈ ringL f ks.length y := by
  have c := ringL_ok g h ks.length
  have yk := c.mem y hy
  obtain ⟨i, hi, rfl⟩ := List.mem_iff_getElem.mp hy
  have cy := ringL_ok g yk ks.length
  have y0 : (ringL f ks.length x)[i] ∈ ringL f ks.length (ringL f ks.length x)[i] := List.mem_of_mem_head? cy.hd
  have up : ∀ d (hd : i + d < (ringL f ks.length x).length), (ringL f ks.length x)[i + d] ∈ ringL f ks.length (ringL f ks.length x)[i] := by
    intro d
    induction d with
    | zero => intro _; exact y0
    | succ d ih =>
      intro hd
      have e : (ringL f ks.length x)[i + (d + 1)] = f (ringL f ks.length x)[i + d] := c.step (i + d) hd
      rw [e]
      exact ring_closed g yk (ih (by omega))
  have l := up ((ringL f ks.length x).length - 1 - i) (by omega)
  have e := ring_closed g yk l
  have : f (ringL f ks.length x)[i + ((ringL f ks.length x).length - 1 - i)] = x := by
    rw [ring_next g h]
    rw [dif_neg (by omega)]
  rw [this] at e
  exact e
theorem ring_same {ks : List Str} {f : Str → Str} {x y : Str} (g : RG ks f) (h : x ∈ ks) (hy : y ∈ ringL f ks.length x) : ∀ z, z ∈ ringL f ks.length y ↔ z ∈ ringL f ks.length x := by
  have c := ringL_ok g h ks.length
  have yk := c.mem y hy
  intro z
  exact ⟨fun hz => ring_sub g yk hy (fun w hw => ring_closed g h hw) z hz, fun hz => ring_sub g h (ring_back g h hy) (fun w hw => ring_closed g yk hw) z hz⟩
theorem minS_mem {r : List Str} {m : Str} (e : minS r = some m) : m ∈ r ∧ ∀ y ∈ r, leS m y = true := by
  have p2 : (sortS r).Pairwise (fun a b => leS a b = true) := List.pairwise_mergeSort leS_trans leS_total r
  have p := sortS_perm r
  unfold minS at e
  cases q : sortS r with
  | nil => rw [q] at e; cases e
  | cons a s =>
    rw [q] at e p p2
    injection e with e; subst e
    refine ⟨p.mem_iff.mp List.mem_cons_self, fun y hy => ?_⟩
    rcases List.mem_cons.mp (p.mem_iff.mpr hy) with rfl | hm
    · have := leS_total y y
      simpa using this
    · exact List.rel_of_pairwise_cons p2 hm
theorem minS_set {r s : List Str} (h : ∀ z, z ∈ r ↔ z ∈ s) : minS r = minS s := by
  cases e1 : minS r with
  | none =>
    cases e2 : minS s with
    | none => rfl
    | some m =>
      have := (h m).mpr (minS_mem e2).1
      have p := sortS_perm r
      unfold minS at e1
      cases q : sortS r with
      | nil => rw [q] at p; have := p.mem_iff.mpr this; cases this
      | cons a b => rw [q] at e1; cases e1
  | some m =>
    obtain ⟨a1, a2⟩ := minS_mem e1
    cases e2 : minS s with
    | none =>
      have p := sortS_perm s
      unfold minS at e2
      cases q : sortS s with
      | nil => rw [q] at p; have := p.mem_iff.mpr ((h m).mp a1); cases this
      | cons a b => rw [q] at e2; cases e2
    | some m2 =>
      obtain ⟨b1, b2⟩ := minS_mem e2
      rw [leS_antisymm (a2 m2 ((h m2).mpr b1)) (b2 m ((h m).mp a1))]

end TN
set_option Elab.async false
set_option linter.all false
set_option maxRecDepth 100000
set_option maxHeartbeats 2000000
set_option autoImplicit false
namespace TN
open PySem PySem.Spec PyProof.Rows L2
def backF (t h T H : List Str) (x : Str) : Str := fOf h t (fOf T H x)
def rot (k : Nat) (f : List Str) : List Str := f.drop k ++ f.take k
theorem GPair.turn {t h : List Str} (gp : GPair t h) : GPair h t := ⟨gp.gh, gp.gt, gp.pm.symm⟩
theorem RG.back {t h T H : List Str} (gp : GPair t h) (gq : GPair T H) (p : T.Perm t) : RG t (backF t h T H) := by
  have g1 := RG.of gq
  have g2 := RG.of gp.turn
  have m1 : ∀ x ∈ t, fOf T H x ∈ h := fun x hx => gp.pm.mem_iff.mp (p.mem_iff.mp (g1.mem x (p.mem_iff.mpr hx)))
  exact ⟨gp.gt.ne, gp.gt.few, gp.gt.nd, gp.gt.let', fun x hx => gp.pm.mem_iff.mpr (g2.mem _ (m1 x hx)), fun x hx y hy e => g1.inj x (p.mem_iff.mpr hx) y (p.mem_iff.mpr hy) (g2.inj _ (m1 x hx) _ (m1 y hy) e)⟩
end TN
set_option Elab.async false
set_option linter.all false
set_option maxRecDepth 100000
set_option maxHeartbeats 2000000
set_option autoImplicit false
namespace TN
open PySem PySem.Spec PyProof.Rows L2
theorem toF_eq (V : List Str) (q : Nat) : toF V q = V.getD q "" :: (V.take q ++ V.drop (q + 1)) := rfl
theorem toF_zero (V : List Str) (q : Nat) : (toF V q).getD 0 "" = V.getD q "" := rfl
theorem toF_mid {V : List Str} {q i : Nat} (h : i < q) (hq : q < V.length) : (toF V q).getD (i + 1) "" = V.getD i "" := by
  rw [toF_eq, List.getD_eq_getElem?_getD, List.getElem?_cons_succ, List.getElem?_append_left (by rw [List.length_take]; omega), List.getElem?_take_of_lt h, ← List.getD_eq_getElem?_getD]
theorem toF_out {V : List Str} {q i : Nat} (h : q ≤ i) (hq : q < V.length) : (toF V q).getD (i + 1) "" = V.getD (i + 1) "" := by
  have e : (V.take q).length = q := by rw [List.length_take]; omega
  rw [toF_eq, List.getD_eq_getElem?_getD, List.getElem?_cons_succ, List.getElem?_append_right (by omega), e, List.getElem?_drop, ← List.getD_eq_getElem?_getD]
  congr 1
  omega
theorem fOf_at {T H : List Str} {i : Nat} (nd : T.Nodup) (h : i < T.length) : fOf T H (T.getD i "") = H.getD i "" := by
  have e : T.getD i "" = T[i] := by rw [List.getD_eq_getElem?_getD, List.getElem?_eq_getElem h]; rfl
  unfold fOf
  rw [e, idxS_nd nd h]; rfl
def nxtI (p i : Nat) : Nat := if p < i then i else if i = p then 0 else i + 1
def preI (q i : Nat) : Nat := if q < i then i else if i = 0 then q else i - 1

theorem lost_reads {t h : List Str} {p i : Nat} (gp : GPair t h) (hp : p < t.length) (hi : i < t.length) : fOf (toF t p) h (t.getD i "") = h.getD (nxtI p i) "" := by
  have nd : (toF t p).Nodup := (toF_perm hp).nodup_iff.mpr gp.gt.nd
  have l : (toF t p).length = t.length := (toF_perm hp).length_eq
  unfold nxtI
  by_cases h1 : p < i
  · obtain ⟨k, rfl⟩ : ∃ k, i = k + 1 := ⟨i - 1, by omega⟩
    rw [if_pos h1, ← toF_out (q := p) (by omega) hp, fOf_at nd (by omega)]
  · rw [if_neg h1]
    by_cases h2 : i = p
    · subst h2
      rw [if_pos rfl, ← toF_zero, fOf_at nd (by omega)]
    · rw [if_neg h2, ← toF_mid (q := p) (by omega) hp, fOf_at nd (by omega)]

theorem twice_reads {u v : List Str} {q i : Nat} (gu : GPair u v) (hq : q < u.length) (hi : i < u.length) : fOf (toF u q) (toF (toF v q) q) (u.getD i "") = v.getD (preI q i) "" := by
  have nd : (toF u q).Nodup := (toF_perm hq).nodup_iff.mpr gu.gt.nd
  have l : (toF u q).length = u.length := (toF_perm hq).length_eq
  have lv := gu.pm.length_eq
  have hv : q < v.length := by omega
  have hv2 : q < (toF v q).length := by rw [(toF_perm hv).length_eq]; exact hv
  unfold preI
  by_cases h1 : q < i
  · obtain ⟨k, rfl⟩ : ∃ k, i = k + 1 := ⟨i - 1, by omega⟩
    rw [if_pos h1, ← toF_out (V := u) (q := q) (by omega) hq, fOf_at nd (by omega), toF_out (by omega) hv2, toF_out (by omega) hv]
  · rw [if_neg h1]
    by_cases h2 : i = q
    · subst h2
      rw [← toF_zero u, fOf_at nd (by omega), toF_zero]
      cases i with
      | zero => rw [if_pos rfl]; rfl
      | succ k => rw [if_neg (by omega), toF_mid (by omega) hv]; rfl
    · rw [← toF_mid (V := u) (q := q) (by omega) hq, fOf_at nd (by omega), toF_mid (by omega) hv2]
      cases i with
      | zero => rw [if_pos rfl]; rfl
      | succ k => rw [if_neg (by omega), toF_mid (by omega) hv]; rfl

theorem nxt_mod {p a : Nat} (h : a ≤ p) : nxtI p a = (a + 1) % (p + 1) := by
  unfold nxtI
  rw [if_neg (by omega)]
  by_cases e : a = p
  · rw [if_pos e, e, Nat.mod_self]
  · rw [if_neg e, Nat.mod_eq_of_lt (by omega)]
theorem pre0 (i : Nat) : preI 0 i = i := by
  unfold preI
  by_cases h : 0 < i
  · rw [if_pos h]
  · rw [if_neg h, if_pos (by omega)]; omega
theorem nxt0 (i : Nat) : nxtI 0 i = i := by
  unfold nxtI
  by_cases h : 0 < i
  · rw [if_pos h]
  · rw [if_neg h, if_pos (by omega)]; omega
theorem turns_one {n p q : Nat} {π : Nat → Nat} (hp : p < n) (hq : q < n) (lt : ∀ i < n, π i < n) (inj : ∀ i < n, ∀ j < n, π i = π j → i = j) (sur : ∀ a < n, ∃ i < n, π i = a) :
    (∀ i < n, nxtI p (π (preI q i)) = π i) ↔ p = q ∧ (p = 0 ∨ ∃ k, k < p + 1 ∧ ∀ i ≤ p, π i = (i + k) % (p + 1)) := by
  constructor
  · intro z
    by_cases q0 : q = 0
    · subst q0
      obtain ⟨i, hi, e⟩ := sur 0 (by omega)
      have := z i hi
      have pi : preI 0 i = i := pre0 i
      rw [pi, e] at this
      unfold nxtI at this
      have p0 : p = 0 := by
        rw [if_neg (by omega)] at this
        by_cases e2 : 0 = p
        · exact e2.symm
        · rw [if_neg e2] at this; omega
      exact ⟨p0, .inl p0⟩
    · have s : ∀ i, 1 ≤ i → i ≤ q → π i = nxtI p (π (i - 1)) := fun i h1 h2 => by
        have := z i (by omega)
        have pi : preI q i = i - 1 := by unfold preI; rw [if_neg (by omega), if_neg (by omega)]
        rw [pi] at this; exact this.symm
      have k0 : π 0 ≤ p := by
        refine Classical.byContradiction fun h => ?_
        have e := s 1 (by omega) (by omega)
        have : nxtI p (π (1 - 1)) = π 0 := by unfold nxtI; rw [if_pos (by simpa using h)]
        rw [this] at e
        exact absurd (inj 1 (by omega) 0 (by omega) e) (by omega)
      have all : ∀ i, i ≤ q → π i = (i + π 0) % (p + 1) := by
        intro i
        induction i with
        | zero => intro _; rw [Nat.zero_add, Nat.mod_eq_of_lt (by omega)]
        | succ i ih =>
          intro h
          have e := s (i + 1) (by omega) h
          rw [Nat.add_sub_cancel, ih (by omega)] at e
          rw [e, nxt_mod (Nat.lt_succ_iff.mp (Nat.mod_lt _ (by omega))), Nat.mod_add_mod]
          congr 1
          omega
      have pq : p = q := by
        have l1 : q ≤ p := by
          refine Classical.byContradiction fun h => ?_
          have e := all (p + 1) (by omega)
          rw [show p + 1 + π 0 = π 0 + (p + 1) by omega, Nat.add_mod_right, Nat.mod_eq_of_lt (by omega)] at e
          exact absurd (inj (p + 1) (by omega) 0 (by omega) e) (by omega)
        have l2 : p ≤ q := by
          refine Classical.byContradiction fun h => ?_
          have e := z 0 (by omega)
          have pi : preI q 0 = q := by unfold preI; rw [if_neg (by omega), if_pos rfl]
          rw [pi, all q (by omega), nxt_mod (Nat.lt_succ_iff.mp (Nat.mod_lt _ (by omega))), Nat.mod_add_mod] at e
          by_cases c : q + π 0 + 1 < p + 1
          · rw [Nat.mod_eq_of_lt c] at e; omega
          · rw [Nat.mod_eq_sub_mod (by omega), Nat.mod_eq_of_lt (by omega)] at e; omega
        omega
      exact ⟨pq, .inr ⟨π 0, by omega, fun i hi => all i (by omega)⟩⟩
  · rintro ⟨rfl, z⟩ i hi
    rcases z with rfl | ⟨k, hk, all⟩
    · have pi : preI 0 i = i := pre0 i
      rw [pi]
      exact nxt0 _
    · by_cases hip : i ≤ p
      · have pr : preI p i ≤ p := by unfold preI; rw [if_neg (by omega)]; split <;> omega
        rw [all _ pr, nxt_mod (Nat.lt_succ_iff.mp (Nat.mod_lt _ (by omega))), Nat.mod_add_mod, all i hip]
        unfold preI
        rw [if_neg (by omega)]
        by_cases i0 : i = 0
        · rw [if_pos i0, i0]
          rw [show p + k + 1 = 0 + k + (p + 1) by omega, Nat.add_mod_right]
        · rw [if_neg i0]
          congr 1
          omega
      · have pi : preI p i = i := by unfold preI; rw [if_pos (by omega)]
        rw [pi]
        unfold nxtI
        rw [if_pos]
        refine Classical.byContradiction fun h => ?_
        have ha : π i ≤ p := by omega
        let j := if k ≤ π i then π i - k else π i + (p + 1) - k
        have hj : j ≤ p := by show (if k ≤ π i then π i - k else π i + (p + 1) - k) ≤ p; split <;> omega
        have ej : π j = π i := by
          rw [all j hj]
          show ((if k ≤ π i then π i - k else π i + (p + 1) - k) + k) % (p + 1) = π i
          split
          · rw [Nat.sub_add_cancel (by assumption), Nat.mod_eq_of_lt (by omega)]
          · rw [Nat.sub_add_cancel (by omega), Nat.add_mod_right, Nat.mod_eq_of_lt (by omega)]
        have := inj j (by omega) i hi ej
        omega
theorem pre_lt {n q i : Nat} (hq : q < n) (hi : i < n) : preI q i < n := by
  unfold preI
  split
  · exact hi
  · split <;> omega
theorem nxt_lt {n p i : Nat} (hp : p < n) (hi : i < n) : nxtI p i < n := by
  unfold nxtI
  split
  · exact hi
  · split <;> omega
theorem getD_in {l : List Str} {i : Nat} (h : i < l.length) : l.getD i "" ∈ l := by
  rw [List.getD_eq_getElem?_getD, List.getElem?_eq_getElem h]; exact List.getElem_mem _
theorem getD_ix {l : List Str} {i : Nat} (h : i < l.length) : l.getD i "" = l[i] := by
  rw [List.getD_eq_getElem?_getD, List.getElem?_eq_getElem h]; rfl
theorem getD_nd {l : List Str} {i j : Nat} (nd : l.Nodup) (hi : i < l.length) (hj : j < l.length) (e : l.getD i "" = l.getD j "") : i = j := by
  rw [getD_ix hi, getD_ix hj] at e
  exact (List.getElem_inj nd).mp e
theorem idx_getD {l : List Str} {j : Nat} (nd : l.Nodup) (h : j < l.length) : (idxS (l.getD j "") l).getD 0 = j := by
  rw [getD_ix h, idxS_nd nd h]; rfl
theorem rot_get {f : List Str} {k i : Nat} (hk : k < f.length) (hi : i < f.length) : (rot k f).getD i "" = f.getD ((i + k) % f.length) "" := by
  unfold rot
  have e : (f.drop k).length = f.length - k := List.length_drop
  by_cases c : i + k < f.length
  · rw [Nat.mod_eq_of_lt c, List.getD_eq_getElem?_getD, List.getElem?_append_left (by omega), List.getElem?_drop, ← List.getD_eq_getElem?_getD, Nat.add_comm]
  · rw [Nat.mod_eq_sub_mod (by omega), Nat.mod_eq_of_lt (by omega), List.getD_eq_getElem?_getD, List.getElem?_append_right (by omega), e, List.getElem?_take_of_lt (by omega), ← List.getD_eq_getElem?_getD]
    congr 1
    omega
theorem rot_len {f : List Str} {k : Nat} (hk : k < f.length) : (rot k f).length = f.length := by
  unfold rot
  rw [List.length_append, List.length_drop, List.length_take]; omega
theorem take_get {l : List Str} {m i : Nat} (h : i < m) : (l.take m).getD i "" = l.getD i "" := by
  rw [List.getD_eq_getElem?_getD, List.getElem?_take_of_lt h, ← List.getD_eq_getElem?_getD]
theorem ext_getD {a b : List Str} (l : a.length = b.length) (h : ∀ i < a.length, a.getD i "" = b.getD i "") : a = b := by
  refine List.ext_getElem l fun i h1 h2 => ?_
  have := h i h1
  rwa [getD_ix h1, getD_ix h2] at this

theorem lost_twice {t h u : List Str} {p q : Nat} (gp : GPair t h) (hp : p < t.length) (hq : q < t.length) (pu : u.Perm t) :
    (∀ x ∈ t, fOf (toF u q) (toF (toF (u.map (fOf (toF t p) h)) q) q) x = fOf t h x) ↔ p = q ∧ (p = 0 ∨ ∃ k, k < (t.take (p + 1)).length ∧ rot k (t.take (p + 1)) = u.take (q + 1)) := by
  have nu : u.Nodup := pu.nodup_iff.mpr gp.gt.nd
  have lu := pu.length_eq
  have lh := gp.pm.length_eq
  have g1 : GPair (toF t p) h := ⟨gp.gt.perm (toF_perm hp), gp.gh, (toF_perm hp).trans gp.pm⟩
  have r1 := RG.of g1
  have pu1 : u.Perm (toF t p) := pu.trans (toF_perm hp).symm
  have em := map_fOf g1.gt.nd g1.pm.length_eq
  have pv : (u.map (fOf (toF t p) h)).Perm h := by
    have := pu1.map (fOf (toF t p) h)
    rw [em] at this
    exact this
  have gu : GPair u (u.map (fOf (toF t p) h)) := ⟨gp.gt.perm pu, gp.gh.perm pv, pu.trans (gp.pm.trans pv.symm)⟩
  let π : Nat → Nat := fun i => (idxS (u.getD i "") t).getD 0
  have mu : ∀ i < t.length, u.getD i "" ∈ t := fun i hi => pu.mem_iff.mp (getD_in (by omega))
  have at' : ∀ i < t.length, t.getD (π i) "" = u.getD i "" := fun i hi => idx_at (mu i hi)
  have lt : ∀ i < t.length, π i < t.length := fun i hi => idx_lt (mu i hi)
  have inj : ∀ i < t.length, ∀ j < t.length, π i = π j → i = j := fun i hi j hj e => getD_nd nu (by omega) (by omega) (by rw [← at' i hi, ← at' j hj, e])
  have sur : ∀ a < t.length, ∃ i < t.length, π i = a := fun a ha => by
    have m : t.getD a "" ∈ u := pu.mem_iff.mpr (getD_in ha)
    have li := idx_lt m
    refine ⟨(idxS (t.getD a "") u).getD 0, by omega, ?_⟩
    show (idxS (u.getD ((idxS (t.getD a "") u).getD 0) "") t).getD 0 = a
    rw [idx_at m]
    exact idx_getD gp.gt.nd ha
  have key : ∀ i < t.length, (fOf (toF u q) (toF (toF (u.map (fOf (toF t p) h)) q) q) (u.getD i "") = fOf t h (u.getD i "")) ↔ nxtI p (π (preI q i)) = π i := fun i hi => by
    have pl := pre_lt hq hi
    have nl := nxt_lt hp (lt _ pl)
    rw [twice_reads gu (by omega) (by omega), getD_map _ (by omega), ← at' _ pl, lost_reads gp hp (lt _ pl), ← at' i hi, fOf_at gp.gt.nd (lt i hi)]
    exact ⟨fun e => getD_nd gp.gh.nd (by omega) (by have := lt i hi; omega) e, fun e => by rw [e]⟩
  have all : (∀ x ∈ t, fOf (toF u q) (toF (toF (u.map (fOf (toF t p) h)) q) q) x = fOf t h x) ↔ ∀ i < t.length, nxtI p (π (preI q i)) = π i := by
    constructor
    · exact fun z i hi => (key i hi).mp (z _ (mu i hi))
    · intro z x hx
      have m : x ∈ u := pu.mem_iff.mpr hx
      have li := idx_lt m
      have := (key ((idxS x u).getD 0) (by omega)).mpr (z _ (by omega))
      rwa [idx_at m] at this
  rw [all, turns_one hp hq lt inj sur]
  have l1 : (t.take (p + 1)).length = p + 1 := by rw [List.length_take]; omega
  rw [l1]
  refine and_congr_right fun e => or_congr_right (exists_congr fun k => and_congr_right fun hk => ?_)
  subst e
  have l2 : (u.take (p + 1)).length = p + 1 := by rw [List.length_take]; omega
  constructor
  · intro z
    refine ext_getD (by rw [rot_len (by omega), l1, l2]) fun i hi => ?_
    rw [rot_len (by omega), l1] at hi
    have ml : (i + k) % (p + 1) < p + 1 := Nat.mod_lt _ (by omega)
    rw [rot_get (by omega) (by omega), l1, take_get ml, take_get hi, ← at' i (by omega), z i (by omega)]
  · intro z i hi
    have ml : (i + k) % (p + 1) < p + 1 := Nat.mod_lt _ (by omega)
    have e : (rot k (t.take (p + 1))).getD i "" = (u.take (p + 1)).getD i "" := by rw [z]
    rw [rot_get (by omega) (by omega), l1, take_get ml, take_get (by omega)] at e
    show (idxS (u.getD i "") t).getD 0 = _
    rw [← e]
    exact idx_getD gp.gt.nd (by omega)
end TN
set_option Elab.async false
set_option linter.all false
set_option maxRecDepth 100000
set_option maxHeartbeats 2000000
set_option autoImplicit false
namespace TN
open PySem PySem.Spec PyProof.Rows L2
theorem RG.perm {ks ks' : List Str} {f : Str → Str} (g : RG ks f) (p : ks'.Perm ks) : RG ks' f :=
  ⟨fun z => g.ne (by rw [z] at p; exact p.nil_eq.symm), by rw [p.length_eq]; exact g.few, p.nodup_iff.mpr g.nd, fun x hx => g.isl x (p.mem_iff.mp hx), fun x hx => p.mem_iff.mpr (g.mem x (p.mem_iff.mp hx)), fun x hx y hy => g.inj x (p.mem_iff.mp hx) y (p.mem_iff.mp hy)⟩
def Hist (t : List Str) (p : Nat) (es : List Ev) : Prop := ∃ ps : List Nat, es = .lost p :: ps.map Ev.place ∧ (∀ x ∈ ps, x < t.length) ∧ ps.length ≤ 60
theorem Hist.ok {t : List Str} {p : Nat} {es : List Ev} (h : Hist t p es) (hp : p < t.length) : (∀ e ∈ es, e.ok t) ∧ (∀ e ∈ es, e.un) ∧ es.length ≤ 61 := by
  obtain ⟨ps, rfl, h1, h2⟩ := h
  refine ⟨fun e he => ?_, fun e he => ?_, by rw [List.length_cons, List.length_map]; omega⟩
  · rcases List.mem_cons.mp he with rfl | he
    · exact hp
    · obtain ⟨x, hx, rfl⟩ := List.mem_map.mp he
      exact h1 x hx
  · rcases List.mem_cons.mp he with rfl | he
    · trivial
    · obtain ⟨x, hx, rfl⟩ := List.mem_map.mp he
      trivial
theorem Hist.due {t h : List Str} {p q : Nat} {es : List Ev} (gp : GPair t h) (hh : Hist t p es) (hp : p < t.length) (hq : q < t.length) :
    (p = q ∧ (p = 0 ∨ ∃ k, k < (t.take (p + 1)).length ∧ rot k (t.take (p + 1)) = (runT t es).1.take (q + 1))) ↔ ∀ x ∈ t, fOf (runT t (es ++ [.twice q])).1 (runH h (es ++ [.twice q])).1 x = fOf t h x := by
  obtain ⟨ok, _, _⟩ := hh.ok hp
  obtain ⟨ps, rfl, h1, h2⟩ := hh
  have g1 : GPair (toF t p) h := ⟨gp.gt.perm (toF_perm hp), gp.gh, (toF_perm hp).trans gp.pm⟩
  have l1 := (toF_perm hp).length_eq
  have okp : ∀ e ∈ ps.map Ev.place, e.ok (toF t p) := fun e he => by
    obtain ⟨x, hx, rfl⟩ := List.mem_map.mp he
    show x < _
    rw [l1]; exact h1 x hx
  have pl : ∀ e ∈ ps.map Ev.place, isPlace e = true := fun e he => by
    obtain ⟨x, hx, rfl⟩ := List.mem_map.mp he
    rfl
  obtain ⟨e1, _⟩ := places_go g1 okp pl
  obtain ⟨pT, _⟩ := runT_ok _ t ok
  rw [runT_app, runH_app]
  show _ ↔ ∀ x ∈ t, fOf (toF (runT t (.lost p :: ps.map Ev.place)).1 q) (toF (toF (runH h (.lost p :: ps.map Ev.place)).1 q) q) x = fOf t h x
  have eH : (runH h (.lost p :: ps.map Ev.place)).1 = (runT t (.lost p :: ps.map Ev.place)).1.map (fOf (toF t p) h) := e1
  rw [eH]
  exact (lost_twice gp hp hq pT).symm
end TN
set_option Elab.async false
set_option linter.all false
set_option maxRecDepth 100000
set_option maxHeartbeats 2000000
set_option autoImplicit false
namespace TN
open PySem PySem.Spec PyProof.Rows L2
section
variable {prog : Program} {w : World} {A : Around} {E : Value → Shared → Prop} {s : Shared}
end
section
variable {prog : Program} {w : World} {A : Around} {E : Value → Shared → Prop} {s : Shared}
end
section
variable {X : Cx} {K : PySem.W.Frag} {bor : List Nat} {te ti : TE} {f g : FE}
end
end TN
set_option Elab.async false
set_option linter.all false
set_option maxRecDepth 100000
set_option maxHeartbeats 1000000
set_option autoImplicit false
namespace TN
open PySem PySem.Spec PyProof.Rows L2
def Pt.d : Pt → D
  | .sh d => d
  | .ow xs => .list xs
abbrev TDP := List Sl → (List Pt → List Sl → Prop) → Prop

structure PtsM (K : PySem.W.Frag) (c : C0) (G : Hp) (σ : L2.St) (H : Hp) (ρ : List Sl) (vs : List V) (ps : List Pt) : Prop where
  ok : PtsOk K c G H vs ps
  ap : Apart vs ps
  no : ∀ (j : Nat) (s : Sl) (k : Nat) (b : Addr), ρ[j]? = some s → OwAt vs ps k b → ¬ Owns G s (σ[j]?) b
def LPts (K : PySem.W.Frag) (bor : List Nat) (tH : TA) (t : TDP) : Prop :=
  ∀ ⦃c : C0⦄ ⦃G : Hp⦄ ⦃σ : L2.St⦄ ⦃H : Hp⦄ ⦃ρ : List Sl⦄ ⦃Qd : List Pt → List Sl → Prop⦄ ⦃Q : List V → Hp → Prop⦄, c.bor = bor → Rel K c G σ H ρ → t ρ Qd →
    (∀ vs H' G' ρ' ps, Same G G' → Rel K c G' σ H' ρ' → PtsM K c G' σ H' ρ' vs ps → Qd ps ρ' → Q vs H') → tH σ H Q
def LTp (K : PySem.W.Frag) (bor : List Nat) (tH : TE) (t : TDP) : Prop :=
  ∀ ⦃c : C0⦄ ⦃G : Hp⦄ ⦃σ : L2.St⦄ ⦃H : Hp⦄ ⦃ρ : List Sl⦄ ⦃Qd : List Pt → List Sl → Prop⦄ ⦃Q : VK⦄, c.bor = bor → Rel K c G σ H ρ → t ρ Qd →
    (∀ a u vs H' G' ρ' ps, Same G G' → Rel K c G' σ H' ρ' → G' a = some (.frz u (.tup vs)) → u.dict = none → PtsM K c G' σ H' ρ' vs ps → Qd ps ρ' → Q (.ref a) H') → tH σ H Q
section
variable {K : PySem.W.Frag} {bor : List Nat} {ta : TA} {te : TE} {A : TDE} {R : TDP}
theorem own_rel {c : C0} {G : Hp} {σ : L2.St} {H : Hp} {ρ : List Sl} {vs : List V} {ps : List Pt} (p : PtsM K c G σ H ρ vs ps) {k : Nat} {b : Addr} (h : OwAt vs ps k b) : ∃ us xs, ps[k]? = some (.ow xs) ∧ H b = some (.lst us) ∧ DqAll K G us xs ∧ G b = none ∧ c.H b = none := by
  obtain ⟨h1, xs, h2⟩ := h
  obtain ⟨a, us, e1, e2, e3, e4, e5⟩ := p.ok.2 k _ _ h1 h2
  injection e1 with e1; subst e1
  exact ⟨us, xs, h2, e2, e3, e4, e5⟩
theorem lpts_nil : LPts K bor tNil (fun ρ Q => Q [] ρ) := fun {c G σ H ρ Qd Q} hc R q k =>
  k [] H G ρ [] (Same.refl _) R ⟨⟨rfl, fun _ _ _ h => by simp at h⟩, fun _ _ _ _ h => by obtain ⟨h, _⟩ := h; simp at h, fun _ _ _ _ _ h => by obtain ⟨h, _⟩ := h; simp at h⟩ q
def pCons (A : TDE) (R : TDP) : TDP := fun ρ Q => A ρ fun d ρ1 => R ρ1 fun ps ρ2 => Q (.sh d :: ps) ρ2
theorem lpts_sh {tr : TA} (h : LE K bor te A) (hr : LPts K bor tr R) : LPts K bor (tCons te tr) (pCons A R) := fun {c G σ H ρ Qd Q} hc Rl q k =>
  h hc Rl q fun v H1 G1 ρ1 d s1 R1 p1 q1 => hr hc R1 q1 fun vs H2 G2 ρ2 ps s2 R2 p2 q2 => by
    have dn : ∀ j b, OwAt (v :: vs) (.sh d :: ps) j b → ∃ i, j = i + 1 ∧ OwAt vs ps i b := fun j b ⟨f1, xs, f2⟩ => by
      cases j with
      | zero => simp at f2
      | succ i => exact ⟨i, rfl, by simpa using f1, xs, by simpa using f2⟩
    refine k (v :: vs) H2 G2 ρ2 _ (s1.trans s2) R2 ⟨⟨by simp [p2.ok.1], fun j w p e1 e2 => ?_⟩, fun i j b n o1 o2 => ?_, fun i s j b e o => ?_⟩ q2
    · cases j with
      | zero => simp at e1 e2; subst e1 e2; exact dpS s2 p1
      | succ j => exact p2.ok.2 j w p (by simpa using e1) (by simpa using e2)
    · obtain ⟨i', rfl, o1⟩ := dn i b o1
      obtain ⟨j', rfl, o2⟩ := dn j b o2
      exact p2.ap i' j' b (by omega) o1 o2
    · obtain ⟨j', rfl, o⟩ := dn j b o
      exact p2.no i s j' b e o

def pOwn (j : Nat) (R : TDP) : TDP := fun ρ Q => ∃ xs, ownL j ρ = some xs ∧ R (ρ.set j .no) fun ps ρ2 => Q (.ow xs :: ps) ρ2
theorem lpts_ow {tr : TA} {j : Nat} (hj : j ∉ bor) (hr : LPts K bor tr R) : LPts K bor (tCons (tVar j) tr) (pOwn j R) := fun {c G σ H ρ Qd Q} hc Rl ⟨xs, f1, q⟩ k => by
  have hs := ownL_some f1
  obtain ⟨a, us, e1, e2, e3, e4, e5⟩ := Rl.owAt hs
  have hB : ∀ b, (j, b) ∉ c.B := fun b z => hj (hc ▸ Rl.bs _ _ z)
  have h0 : c.H a = none := e5.resolve_right (hB a)
  have R1 := Rl.drop hs e1 hB
  have m : Mine c G σ H (ρ.set j .no) a us := ⟨e2, e4, h0, Rl.others hs e1⟩
  have nb := m.nb R1
  refine ⟨_, e1, hr (c := c.aside a us) hc (R1.guard m) q fun vs H2 G2 ρ2 ps s2 R2 p2 q2 => ?_⟩
  obtain ⟨R3, m3⟩ := R2.unguard h0 nb
  have ne : ∀ k b, OwAt vs ps k b → b ≠ a := fun k b o z => by
    subst z
    obtain ⟨_, _, _, _, _, _, z⟩ := own_rel p2 o
    have z : upd c.H b (.lst us) b = none := z
    rw [upd_same] at z; cases z
  have up : ∀ i b, OwAt (.ref a :: vs) (.ow xs :: ps) i b → (i = 0 ∧ b = a) ∨ ∃ i', i = i' + 1 ∧ OwAt vs ps i' b := fun i b ⟨f1, ys, f2⟩ => by
    cases i with
    | zero =>
      have f1 : (some (V.ref a) : Option V) = some (.ref b) := f1
      injection f1 with f1; injection f1 with f1
      exact .inl ⟨rfl, f1.symm⟩
    | succ i => exact .inr ⟨i, rfl, by simpa using f1, ys, by simpa using f2⟩
  refine k (.ref a :: vs) H2 G2 ρ2 _ s2 R3 ⟨⟨by simp [p2.ok.1], fun i w p g1 g2 => ?_⟩, fun i i' b n o1 o2 => ?_, fun i s i' b e o => ?_⟩ q2
  · cases i with
    | zero => simp at g1 g2; subst g1 g2; exact ⟨a, us, rfl, m3.1, dpsS s2 e3, m3.2.1, h0⟩
    | succ i =>
      have r := p2.ok.2 i w p (by simpa using g1) (by simpa using g2)
      cases p with
      | sh d => exact r
      | ow ys =>
        obtain ⟨b, ws, r1, r2, r3, r4, r5⟩ := r
        subst r1
        refine ⟨b, ws, rfl, r2, r3, r4, ?_⟩
        have r5 : upd c.H a (.lst us) b = none := r5
        rw [upd_ne (ne i b ⟨by simpa using g1, ys, by simpa using g2⟩)] at r5
        exact r5
  · rcases up i b o1 with ⟨rfl, rfl⟩ | ⟨k1, rfl, o1⟩
    · rcases up i' b o2 with ⟨rfl, _⟩ | ⟨k2, rfl, o2⟩
      · exact n rfl
      · exact ne k2 b o2 rfl
    · rcases up i' b o2 with ⟨rfl, rfl⟩ | ⟨k2, rfl, o2⟩
      · exact ne k1 b o1 rfl
      · exact p2.ap k1 k2 b (by omega) o1 o2
  · rcases up i' b o with ⟨rfl, rfl⟩ | ⟨k2, rfl, o⟩
    · exact m3.2.2.2 i s e
    · exact p2.no i s k2 b e o

def pTup (R : TDP) : TDP := fun ρ Q => R ρ fun ps ρ1 => ps.length ≤ 100000 ∧ Q ps ρ1
theorem PtsM.grow {c : C0} {G : Hp} {σ : L2.St} {H : Hp} {ρ : List Sl} {vs : List V} {ps : List Pt} (p : PtsM K c G σ H ρ vs ps) (Rl : Rel K c G σ H ρ) {G' H' : Hp} (g : Grow G H G' H') : PtsM K c G' σ H' ρ vs ps :=
  ⟨⟨p.ok.1, fun k v q e1 e2 => by
    have r := p.ok.2 k v q e1 e2
    cases q with
    | sh d => exact dpS g.g r
    | ow ys =>
      obtain ⟨b, ws, r1, r2, r3, r4, r5⟩ := r
      exact ⟨b, ws, r1, g.h _ _ r2, dpsS g.g r3, g.n b (by rw [r2]; simp) r4, r5⟩⟩, p.ap, fun j s k b e o ob => p.no j s k b e o (own_back g.g (Rl.sl j s e) ob)⟩
theorem ltp_tup (h : LPts K bor ta R) : LTp K bor (tTupX ta) (pTup R) := fun {c G σ H ρ Qd Q} hc Rl q k =>
  h hc Rl q fun vs H1 G1 ρ1 ps s1 R1 p1 ⟨hl, q1⟩ => ⟨by rw [p1.ok.1]; exact Nat.le_trans hl (by decide), fun p o hd hp => by
    have g2 := grow_new (o := .frz o (.tup vs)) R1.sub hp
    exact k p o vs _ _ ρ1 ps (s1.trans g2.g) (R1.grow g2) upd_same hd (p1.grow R1 g2) q1⟩
def dCallT (sem : List D → (Sl → Prop) → Prop) (A : TDA) : TDP := fun ρ Q => A ρ fun ds ρ1 => sem ds fun r => ∃ ps, r = .tp ps ∧ Q ps ρ1
theorem ltp_call {sem : List D → (Sl → Prop) → Prop} {A : TDA} {E : XK} (h : LEs K bor ta A) : LTp K bor (tCall (sp0 K sem) [] E ta) (dCallT sem A) := fun {c G σ H ρ Qd Q} hc Rl q k =>
  h hc Rl q fun vs H1 G1 ρ1 ds s1 R1 p q1 => by
    rw [List.append_nil]
    refine ⟨G1, ds, _, R1.sub, p, q1, fun v G' H' r g ok ⟨ps, e, q2⟩ => ?_⟩
    subst e
    obtain ⟨a, u, us, e1, e2, e3, e4, e5⟩ := ok
    subst e1
    have e6 := pts_ctx (c' := c) e4 fun a z => R1.live z
    refine k a u us H' G' ρ1 ps (s1.trans g.g) (R1.grow g) e2 e3 ⟨e6, e5, fun j s i b e o ob => ?_⟩ q2
    obtain ⟨⟨x, o3⟩, _⟩ := R1.own e (own_back g.g (R1.sl j s e) ob)
    obtain ⟨o1, xs, o2⟩ := o
    obtain ⟨b', _, f1, _, _, _, f5⟩ := e4.2 i _ _ o1 o2
    injection f1 with f1; subst f1
    have f5 : H1 b = none := f5
    rw [o3] at f5; cases f5

theorem pts_keep {c : C0} {G : Hp} {σ : L2.St} {H : Hp} {ρ : List Sl} {vs : List V} {ps : List Pt} (Rl : Rel K c G σ H ρ) (p : PtsM K c G σ H ρ vs ps) : ∃ G', Same G G' ∧ Rel K c G' σ H ρ ∧ DqAll K G' vs (ps.map Pt.d) := by
  classical
  let G' : Hp := fun b => if ∃ k, OwAt vs ps k b then H b else G b
  have gs : Same G G' := fun b o e => by
    show (if ∃ k, OwAt vs ps k b then H b else G b) = _
    by_cases h : ∃ k, OwAt vs ps k b
    · obtain ⟨k, h⟩ := h
      obtain ⟨_, _, _, _, _, z, _⟩ := own_rel p h
      rw [z] at e; cases e
    · rw [if_neg h]; exact e
  have gs2 : Same G' H := fun b o e => by
    have e : (if ∃ k, OwAt vs ps k b then H b else G b) = some o := e
    by_cases h : ∃ k, OwAt vs ps k b
    · rw [if_pos h] at e; exact e
    · rw [if_neg h] at e; exact Rl.sub _ _ e
  refine ⟨G', gs, Rl.move gs2 Rl.fr (fun a h1 h2 => ?_) gs rfl rfl fun b u i s e ob eb => ⟨eb, ?_, id⟩, ?_⟩
  · show (if ∃ k, OwAt vs ps k a then H a else G a) = none
    rw [if_neg (fun ⟨k, z⟩ => by obtain ⟨_, _, _, _, _, _, z⟩ := own_rel p z; exact h1 z)]
    exact Rl.gh a h1 h2
  · show (if ∃ k, OwAt vs ps k b then H b else G b) = none
    rw [if_neg (fun ⟨k, z⟩ => p.no i s k b e z ob)]
    exact (Rl.own e ob).2.1
  · have all : ∀ (n : Nat) (vs' : List V) (ps' : List Pt), vs' = vs.drop n → ps' = ps.drop n → vs'.length = ps'.length → DqAll K G' vs' (ps'.map Pt.d) := by
      intro n vs'
      induction vs' generalizing n with
      | nil => intro ps' _ _ l; cases ps' with
        | nil => exact .nil
        | cons => simp at l
      | cons v vs' ih =>
        intro ps' e1 e2 l
        cases ps' with
        | nil => simp at l
        | cons q ps' =>
          have v0 : vs[n]? = some v := by
            have : (vs.drop n)[0]? = some v := by rw [← e1]; rfl
            rwa [List.getElem?_drop, Nat.add_zero] at this
          have q0 : ps[n]? = some q := by
            have : (ps.drop n)[0]? = some q := by rw [← e2]; rfl
            rwa [List.getElem?_drop, Nat.add_zero] at this
          refine .cons ?_ (ih (n + 1) ps' (by rw [← List.drop_drop, ← e1]; rfl) (by rw [← List.drop_drop, ← e2]; rfl) (by simpa using l))
          have r := p.ok.2 n v q v0 q0
          cases q with
          | sh d => exact dpS gs r
          | ow xs =>
            obtain ⟨b, ws, r1, r2, r3, r4, r5⟩ := r
            subst r1
            refine .lst (sqU ?_) (dpsS gs r3)
            show (if ∃ k, OwAt vs ps k b then H b else G b) = _
            rw [if_pos ⟨n, v0, xs, q0⟩]; exact r2
    exact all 0 vs ps rfl rfl p.ok.1
def dKeepT (t : TDP) : TDE := fun ρ Q => t ρ fun ps ρ' => Q (.tuple (ps.map Pt.d)) ρ'
theorem LTp.e {t : TDP} (h : LTp K bor te t) : LE K bor te (dKeepT t) := fun {_ _ _ _ _ _ _} hc Rl q k =>
  h hc Rl q fun a u vs H' G' ρ' ps s R' e1 e2 p qd => by
    obtain ⟨G2, s2, R2, dp⟩ := pts_keep R' p
    exact k _ H' G2 ρ' _ (s.trans s2) R2 (.tup (.inl ⟨u, s2 _ _ e1, e2⟩) dp) qd
def sAsgT (A : TDP) (i : Nat) : TDS := fun E ρ => A ρ fun ps ρ1 => E.nx (ρ1.set i (.tp ps))
def sRetT (A : TDP) : TDS := fun E ρ => A ρ fun ps ρ1 => E.rt (.tp ps) ρ1
theorem ls_retT {A : TDP} (h : LTp K bor te A) : LS K bor (tRet te) (sRetT A) := fun {c G σ H ρ E D} hc Rl q l =>
  h hc Rl q fun a u vs H' G' ρ' ps s R' e1 e2 p q' => l.rt s R' (r := .tp ps) ⟨a, u, vs, rfl, e1, e2, p.ok, p.ap⟩ q'


def tpL (j : Nat) (ρ : List Sl) : Option (List Pt) := match ρ[j]? with
  | some (.tp ps) => some ps
  | _ => none
def fIxT (j k : Nat) : FE := fun ρ => match tpL j ρ with
  | some ps => match ps[k]? with
    | some p => some p.d
    | none => none
  | none => none
def LN (K : PySem.W.Frag) (bor : List Nat) (tH : TE) (f : FE) : Prop :=
  ∀ ⦃c : C0⦄ ⦃G : Hp⦄ ⦃σ : L2.St⦄ ⦃H : Hp⦄ ⦃ρ : List Sl⦄ ⦃d : D⦄ ⦃Q : VK⦄, c.bor = bor → Rel K c G σ H ρ → f ρ = some d → (∀ v G' H', Grow G H G' H' → Dq K H' v d → Q v H') → tH σ H Q
def fTp (j : Nat) : FE := fun ρ => match tpL j ρ with
  | some ps => some (.tuple (ps.map Pt.d))
  | none => fPeek j ρ
theorem lp_reprN {f : FE} (h : LN K bor te f) : LP K bor (tCB (rRepr K) (tCons te tNil)) (fCB oRepr (fCons f fNil)) := fun {c G σ H ρ d Q} hc Rl e k => by
  unfold fCB fCons fNil at e
  split at e
  · rename_i ds e1
    split at e1
    · rename_i d1 ds1 e2 e3
      injection e3 with e3; subst e3
      injection e1 with e1; subst e1
      have isS : ∃ x, d = .str x := by
        unfold oRepr at e
        split at e
        · split at e
          · injection e with e; exact ⟨_, e.symm⟩
          · cases e
        · split at e
          · injection e with e; exact ⟨_, e.symm⟩
          · cases e
        · cases e
      obtain ⟨x, rfl⟩ := isS
      refine h hc Rl e2 fun v G1 H1 g1 p1 => rc_repr (G := H1) (Same.refl _) (.cons (.inl p1) .nil) e fun u G2 H2 g2 p2 => ?_
      cases p2
      exact k _ G1 H2 (g1.trans ⟨g2.h, Same.refl _, g1.s.trans g2.h, fun _ _ z => z⟩) (.str x)
    · cases e1
  · cases e

def dAppendT (j k : Nat) (A : TDE) : TDE := fun ρ Q => (∃ ps xs, tpL j ρ = some ps ∧ ps[k]? = some (.ow xs)) ∧ A ρ fun d ρ1 => ∃ ps xs, tpL j ρ1 = some ps ∧ ps[k]? = some (.ow xs) ∧ xs.length < 100000 ∧ Q .none (ρ1.set j (.tp (ps.set k (.ow (xs ++ [d])))))
def dReverseT (j k : Nat) : TDE := fun ρ Q => ∃ ps xs, tpL j ρ = some ps ∧ ps[k]? = some (.ow xs) ∧ Q .none (ρ.set j (.tp (ps.set k (.ow xs.reverse))))
def dClearT (j k : Nat) : TDE := fun ρ Q => ∃ ps xs, tpL j ρ = some ps ∧ ps[k]? = some (.ow xs) ∧ Q .none (ρ.set j (.tp (ps.set k (.ow []))))
def dClear (j : Nat) : TDE := fun ρ Q => ∃ xs, ownL j ρ = some xs ∧ Q .none (ρ.set j (.ow []))
def dPop (j : Nat) : TDE := fun ρ Q => ∃ xs d, ownL j ρ = some xs ∧ xs[xs.length - 1]? = some d ∧ Q d (ρ.set j (.ow xs.dropLast))
def dVarT (j : Nat) : TDE := fun ρ Q => match ρ[j]? with
  | some (.sh d) => Q d ρ
  | some (.tp ps) => Q (.tuple (ps.map Pt.d)) (ρ.set j (.sh (.tuple (ps.map Pt.d))))
  | _ => False
end
end TN
namespace TN
open PySem PySem.Spec PyProof.Rows L2
section
variable {K : PySem.W.Frag} {bor : List Nat} {tk : TA} {te : TE} {A : TDE} {is : List Nat}
def fIxTs (j k : Nat) : FE := fun ρ => match tpL j ρ with
  | some ps => match ps[k]? with
    | some (.sh d) => some d
    | _ => none
  | none => none
def dCallNT (sem : List D → (Sl → Prop) → Prop) (is : List Nat) (A : TDA) : TDP := fun ρ Q => A ρ fun ds ρ1 => sem (pick is ds) fun r => ∃ ps, r = .tp ps ∧ Q ps ρ1
def dCallNL (sem : List D → (Sl → Prop) → Prop) (is : List Nat) (A : TDA) : TDL := fun ρ Q => A ρ fun ds ρ1 => sem (pick is ds) fun r => ∃ xs, r = .ow xs ∧ Q xs ρ1
def dAug (i : Nat) (f : Int → Int → Int) (A : TDE) : TDS := fun E ρ => ∃ n, fVar i ρ = some (.int n) ∧ A ρ fun d ρ1 => ∃ m, d = .int m ∧ E.nx (ρ1.set i (.sh (.int (f n m))))
end
end TN
namespace TN
open PySem PySem.Spec PyProof.Rows L2
section
variable {K : PySem.W.Frag} {bor : List Nat} {ta : TA}
theorem ltp_callFv {f : Addr} {sem : List D → (Sl → Prop) → Prop} {A : TDA} {E : XK} (h : LEsF K bor f ta A) : LTp K bor (tCall (spF K f sem) [] E ta) (dCallT sem A) := fun {c G σ H ρ Qd Q} hc Rl q k =>
  h hc Rl q fun vs H1 G1 ρ1 ds s1 R1 p q1 => by
    rw [List.append_nil]
    refine ⟨G1, vs, ds, _, rfl, R1.sub, p, q1, fun v G' H' r g ok ⟨ps, e, q2⟩ => ?_⟩
    subst e
    obtain ⟨a, u, us, e1, e2, e3, e4, e5⟩ := ok
    subst e1
    have e6 := pts_ctx (c' := c) e4 fun a z => R1.live z
    refine k a u us H' G' ρ1 ps (s1.trans g.g) (R1.grow g) e2 e3 ⟨e6, e5, fun j s i b e o ob => ?_⟩ q2
    obtain ⟨⟨x, o3⟩, _⟩ := R1.own e (own_back g.g (R1.sl j s e) ob)
    obtain ⟨o1, xs, o2⟩ := o
    obtain ⟨b', _, f1, _, _, _, f5⟩ := e4.2 i _ _ o1 o2
    injection f1 with f1; subst f1
    have f5 : H1 b = none := f5
    rw [o3] at f5; cases f5
end
end TN
set_option Elab.async false
set_option linter.all false
set_option maxRecDepth 100000
set_option maxHeartbeats 1000000
set_option autoImplicit false
namespace TN
open PySem PySem.Spec PyProof.Rows L2 RT RZ
abbrev PIt := PySem.W.Frag → Hp → Hp → V → D → Prop
abbrev TDI := List Sl → (List D → List Sl → Prop) → Prop
section
variable {K : PySem.W.Frag} {bor : List Nat} {te tb : TE} {ta : TA} {A B : TDE} {t : TS} {S : TDS} {P : PIt}
def rangeC (lo c : Int) (n : Nat) : List D := (List.range n).map fun (k : Nat) => PyData.int (lo + k * c)
def signsD (z : Str) : List D := z.cps.toList.map fun c => PyData.str ⟨#[c]⟩
def enumD (ds : List D) : List D := (List.range ds.length).map fun (i : Nat) => PyData.tuple [.int i, ds.getD i .none]
def zipD (xs ys : List D) : List D := (xs.zip ys).map fun p => PyData.tuple [p.1, p.2]
def iL (A : TDE) : TDI := fun ρ Q => A ρ fun d ρ1 => ∃ ds, d = .list ds ∧ Q ds ρ1
def iT (A : TDE) : TDI := fun ρ Q => A ρ fun d ρ1 => ∃ ds, d = .tuple ds ∧ Q ds ρ1
def iR1 (A : TDA) : TDI := fun ρ Q => A ρ fun vs ρ1 => ∃ j, vs = [.int j] ∧ j < 2 ^ 62 ∧ -(2 ^ 62) ≤ j ∧ Q (rangeD 0 j.toNat) ρ1
def iR2 (A : TDA) : TDI := fun ρ Q => A ρ fun vs ρ1 => ∃ i j, vs = [.int i, .int j] ∧ (-(2 ^ 62) ≤ i ∧ i < 2 ^ 62 ∧ -(2 ^ 62) ≤ j ∧ j < 2 ^ 62) ∧ Q (rangeD i (j - i).toNat) ρ1
def iR3 (A : TDA) : TDI := fun ρ Q => A ρ fun vs ρ1 => ∃ i j c n, vs = [.int i, .int j, .int c] ∧ RgC i j c n ∧ Q (rangeC i c n) ρ1
def iS (A : TDE) : TDI := fun ρ Q => A ρ fun d ρ1 => ∃ z, d = .str z ∧ Q (signsD z) ρ1
def iE (A : TDE) : TDI := fun ρ Q => A ρ fun d ρ1 => ∃ ds, d = .list ds ∧ Q (enumD ds) ρ1
def iRv (A : TDE) : TDI := fun ρ Q => A ρ fun d ρ1 => ∃ ds, (d = .list ds ∨ d = .tuple ds) ∧ Q ds.reverse ρ1
def iZ (A : TDA) : TDI := fun ρ Q => A ρ fun vs ρ1 => ∃ xs ys, (vs = [.list xs, .list ys] ∨ vs = [.tuple xs, .tuple ys]) ∧ Q (zipD xs ys) ρ1
def sForI (T : TDI) (g : TDG) (B : TDS) : TDS := fun E ρ => T ρ fun ds ρ1 => forD g B E ds ρ1
def compT (tg : TDG) (vs : List Nat) (C : TDT) (A : TDE) (Q : List D → List Sl → Prop) : List D → List D → List Sl → Prop
  | [], acc, ρ => Q acc ρ
  | d :: ds, acc, ρ => (vs.all fun v => plainAt v ρ) = true ∧ tg d (wipeD ρ vs) fun ρ0 => C ρ0 fun b ρ1 =>
      (b = true → A ρ1 fun y ρ2 => acc.length < 100000 ∧ compT tg vs C A Q ds (acc ++ [y]) (backD ρ ρ2 vs)) ∧ (b = false → compT tg vs C A Q ds acc (backD ρ ρ1 vs))
def dCompI (T : TDI) (tg : TDG) (vs : List Nat) (C : TDT) (A : TDE) : TDL := fun ρ Q => T ρ fun ds ρ1 => compT tg vs C A Q ds [] ρ1
end
end TN
namespace TN
open PySem PySem.Spec PyProof.Rows L2
def sRetV (j : Nat) : TDS := fun E ρ => ∃ xs, ownL j ρ = some xs ∧ E.rt (.ow xs) ρ
end TN
namespace TN
open PySem PySem.Spec PyProof.Rows L2
end TN
set_option Elab.async false
set_option linter.all false
set_option maxRecDepth 100000
set_option maxHeartbeats 2000000
set_option autoImplicit false
namespace TN
open PySem PySem.Spec PyProof.Rows L2
end TN
namespace TN
open PySem PySem.Spec PyProof.Rows L2
theorem forD_go {α : Type} (enc : α → D) {g : TDG} {B : TDS} {E : DEnds} (I : List α → List Sl → Prop)
    (step : ∀ (x : α) (xs : List α) (ρ : List Sl) (E' : DEnds), I (x :: xs) ρ → (∀ ρ', I xs ρ' → E'.nx ρ') → (∀ ρ', I xs ρ' → E'.ct ρ') → E'.rt = E.rt → E'.bk = E.nx → g (enc x) ρ fun ρ1 => B E' ρ1) (done : ∀ ρ, I [] ρ → E.nx ρ) :
    ∀ (xs : List α) (ρ : List Sl), I xs ρ → forD g B E (xs.map enc) ρ
  | [], ρ, i => done ρ i
  | x :: xs, ρ, i => step x xs ρ _ i (fun ρ' h => forD_go enc I step done xs ρ' h) (fun ρ' h => forD_go enc I step done xs ρ' h) rfl rfl
theorem ix_head {d : D} {ds : List D} : oIx (.list (d :: ds)) (.int 0) = some d := by
  show atI (d :: ds) 0 = some d
  exact atI_nat (xs := d :: ds) (p := 0) (by simp)
end TN
namespace TN
open PySem PySem.Spec PyProof.Rows L2
end TN
set_option Elab.async false
set_option linter.all false
set_option maxRecDepth 100000
set_option maxHeartbeats 2000000
set_option autoImplicit false
namespace TN
open PySem PySem.Spec PyProof.Rows L2
structure Sho (k w : Nat) (x : D) : Prop where
  s : x.showable = true
  n : x.hasDict = false
  d : x.depth ≤ k
  l : x.leavesShort 13 = true
  w : x.weight ≤ w
theorem Sho.up {k w k' w' : Nat} {d : D} (h : Sho k w d) (hk : k ≤ k') (hw : w ≤ w') : Sho k' w' d := ⟨h.s, h.n, Nat.le_trans h.d hk, h.l, Nat.le_trans h.w hw⟩
theorem sho_all {k w : Nat} : ∀ {xs : List D}, (∀ x ∈ xs, Sho k w x) → PyData.showableAll xs = true ∧ PyData.hasDictAll xs = false ∧ PyData.depthAll xs ≤ k ∧ PyData.leavesShortAll 13 xs = true ∧ PyData.weightAll xs ≤ xs.length * (w + 1)
  | [], _ => by simp [PyData.showableAll, PyData.hasDictAll, PyData.depthAll, PyData.leavesShortAll, PyData.weightAll]
  | x :: xs, h => by
    obtain ⟨a1, a2, a3, a4, a5⟩ := sho_all (k := k) (w := w) (xs := xs) fun y hy => h y (List.mem_cons_of_mem _ hy)
    have b := h x List.mem_cons_self
    refine ⟨?_, ?_, ?_, ?_, ?_⟩
    · simp only [PyData.showableAll, a1, b.s, Bool.and_self]
    · simp only [PyData.hasDictAll, a2, b.n, Bool.or_self]
    · simp only [PyData.depthAll]; have := b.d; omega
    · simp only [PyData.leavesShortAll, a4, b.l, Bool.and_self]
    · simp only [PyData.weightAll, List.length_cons]
      have := b.w
      rw [Nat.succ_mul]
      omega
theorem Sho.lst {k w n : Nat} {xs : List D} (h : ∀ x ∈ xs, Sho k w x) (hn : xs.length ≤ n) : Sho (k + 1) (n * (w + 1)) (.list xs) := by
  obtain ⟨a1, a2, a3, a4, a5⟩ := sho_all h
  exact ⟨by simpa only [PyData.showable] using a1, by simpa only [PyData.hasDict] using a2, by simp only [PyData.depth]; omega, by simpa only [PyData.leavesShort] using a4, by simp only [PyData.weight]; exact Nat.le_trans a5 (Nat.mul_le_mul_right _ hn)⟩
theorem Sho.tup {k w n : Nat} {xs : List D} (h : ∀ x ∈ xs, Sho k w x) (hn : xs.length ≤ n) : Sho (k + 1) (n * (w + 1)) (.tuple xs) := by
  obtain ⟨a1, a2, a3, a4, a5⟩ := sho_all h
  exact ⟨by simpa only [PyData.showable] using a1, by simpa only [PyData.hasDict] using a2, by simp only [PyData.depth]; omega, by simpa only [PyData.leavesShort] using a4, by simp only [PyData.weight]; exact Nat.le_trans a5 (Nat.mul_le_mul_right _ hn)⟩
theorem Sho.non {k w : Nat} : Sho k w .none := ⟨by simp only [PyData.showable], by simp only [PyData.hasDict], by simp [PyData.depth], by simp only [PyData.leavesShort], by simp [PyData.weight]⟩
theorem Sho.bl {k w : Nat} (b : Bool) : Sho k w (.bool b) := ⟨by simp only [PyData.showable], by simp only [PyData.hasDict], by simp [PyData.depth], by simp only [PyData.leavesShort], by simp [PyData.weight]⟩
theorem Sho.int {k : Nat} {i : Int} (h : i.natAbs < 10 ^ 12) : Sho k 64 (.int i) := by
  have l : i.natAbs.log2 < 64 := by
    by_cases z : i.natAbs = 0
    · rw [z]; decide
    · exact (Nat.log2_lt z).mpr (Nat.lt_trans h (by decide))
  refine ⟨by simp only [PyData.showable, decide_eq_true_eq]; omega, by simp only [PyData.hasDict], by simp [PyData.depth], by simp only [PyData.leavesShort, decide_eq_true_eq]; exact PyData.shown_int_le h, ?_⟩
  simp only [PyData.weight]
  split <;> omega
theorem Sho.str {k : Nat} {x : Str} (h : okS x) (hl : x.cps.size ≤ 64) : Sho k 64 (.str x) := by
  refine ⟨by simp only [PyData.showable], by simp only [PyData.hasDict], by simp [PyData.depth], ?_, by simpa only [PyData.weight] using hl⟩
  simp only [PyData.leavesShort]
  rw [List.all_eq_true]
  intro c hc
  have h : x.cps.all (· < 0x110000) = true := h
  rw [Array.all_eq_true'] at h
  have := h c (Array.mem_toList_iff.mp hc)
  simp only [decide_eq_true_eq] at this ⊢
  omega
theorem Sho.let {k : Nat} {x : Str} (h : isL x) : Sho k 64 (.str x) := by
  obtain ⟨c, rfl, h1, h2⟩ := h
  refine Sho.str ?_ (by simp)
  show (#[c] : Array Nat).all (· < 0x110000) = true
  simp
  omega
theorem sho_tupL {r : List Str} {n : Nat} (h : ∀ x ∈ r, isL x) (hn : r.length ≤ n) : Sho 1 (n * 65) (tupL r) :=
  .tup (k := 0) (w := 64) (fun d hd => by obtain ⟨x, hx, rfl⟩ := List.mem_map.mp hd; exact .let (h x hx)) (by rw [List.length_map]; exact hn)
theorem sho_two {k w : Nat} {a b : D} (h : Sho k w a) (h' : Sho k w b) : Sho (k + 1) (2 * (w + 1)) (.tuple [a, b]) :=
  .tup (fun d hd => by simp only [List.mem_cons, List.not_mem_nil, or_false] at hd; rcases hd with rfl | rfl <;> assumption) (by simp)
theorem sho_pair {t h : List Str} (h1 : ∀ x ∈ t, isL x) (h2 : ∀ x ∈ h, isL x) (l1 : t.length ≤ 16) (l2 : h.length ≤ 16) : Sho 2 2082 (pairS t h) := sho_two (sho_tupL h1 l1) (sho_tupL h2 l2)
theorem GPair.sho {t h : List Str} (g : GPair t h) : Sho 2 2082 (pairS t h) := sho_pair g.gt.let' g.gh.let' g.gt.few g.gh.few
theorem sho_w {k : Nat} : ∀ {w : Str}, w ∈ words → Sho k 64 (.str w) := by
  intro w h
  simp only [words, List.mem_cons, List.not_mem_nil, or_false] at h
  rcases h with rfl | rfl | rfl | rfl | rfl <;> exact .str (by decide +kernel) (by decide +kernel)
theorem sho_ev {r : List Str} (hr : ∀ x ∈ r, isL x) (few : r.length ≤ 1000) {e : Ev} (h : e.ok r) : Sho 1 195 e.d := by
  have i : ∀ p : Nat, p < r.length → Sho 0 64 (.int p) := fun p hp => .int (by omega)
  have t2 : ∀ {a b : D}, Sho 0 64 a → Sho 0 64 b → Sho 1 195 (.tuple [a, b]) := fun h1 h2 => (sho_two h1 h2).up (Nat.le_refl _) (by decide)
  cases e with
  | place p => exact t2 (sho_w (by simp [words])) (i p h)
  | lost p => exact t2 (sho_w (by simp [words])) (i p h)
  | twice p => exact t2 (sho_w (by simp [words])) (i p h)
  | name x => exact t2 (sho_w (by simp [words])) (.let (hr x h))
  | as' p q => exact .tup (k := 0) (w := 64) (n := 3) (fun d hd => by
      simp only [List.mem_cons, List.not_mem_nil, or_false] at hd
      rcases hd with rfl | rfl | rfl
      · exact sho_w (by simp [words])
      · exact i p h.1
      · exact i q h.2.1) (by simp)
theorem sho_evs {r : List Str} (hr : ∀ x ∈ r, isL x) (few : r.length ≤ 1000) {es : List Ev} {n : Nat} (h : ∀ e ∈ es, e.ok r) (hn : es.length ≤ n) : Sho 2 (n * 196) (.list (es.map Ev.d)) :=
  .lst (k := 1) (w := 195) (fun d hd => by obtain ⟨e, he, rfl⟩ := List.mem_map.mp hd; exact sho_ev hr few (h e he)) (by rw [List.length_map]; exact hn)
theorem oRepr_lst {k w : Nat} {xs : List D} (h : Sho k w (.list xs)) (hk : k ≤ 60) (hw : w ≤ 1000000) : oRepr [.list xs] = some (.str (PyData.list xs).shown) := by
  have sl := PyData.shown_le 13 (by decide) _ h.l
  have := h.w
  have := h.d
  show (if (PyData.list xs).showable = true ∧ (PyData.list xs).hasDict = false ∧ (PyData.list xs).depth ≤ 60 ∧ (PyData.list xs).shown.length ≤ 16777216 then some (PyData.str (PyData.list xs).shown) else none) = _
  rw [if_pos ⟨h.s, h.n, by omega, by omega⟩]
theorem oRepr_tup {k w : Nat} {xs : List D} (h : Sho k w (.tuple xs)) (hk : k ≤ 60) (hw : w ≤ 1000000) : oRepr [.tuple xs] = some (.str (PyData.tuple xs).shown) := by
  have sl := PyData.shown_le 13 (by decide) _ h.l
  have := h.w
  have := h.d
  show (if (PyData.tuple xs).showable = true ∧ (PyData.tuple xs).hasDict = false ∧ (PyData.tuple xs).depth ≤ 60 ∧ (PyData.tuple xs).shown.length ≤ 16777216 then some (PyData.str (PyData.tuple xs).shown) else none) = _
  rw [if_pos ⟨h.s, h.n, by omega, by omega⟩]

def oNeS : F2 := fun d e => match d, e with
  | .str a, .str b => some (.bool (!decide (a = b)))
  | _, _ => none
theorem dec_strV {a b : Str} : decide (V.str a = V.str b) = decide (a = b) := by
  by_cases h : a = b
  · simp [h]
  · simp [h]
theorem rb_neS {K : PySem.W.Frag} : RB K rNe oNeS := fun {G H v w d e z Q} s p1 p2 e1 k => by
  unfold oNeS at e1; split at e1
  · injection e1 with e1; subst e1
    cases p1.str; cases p2.str
    exact ⟨rfl, by rw [dec_strV]; exact k _ G H (.refl s) (.bl _)⟩
  · cases e1
theorem oNeS_same {x : Str} : oNeS (.str x) (.str x) = some (.bool false) := by show some (PyData.bool (!decide (x = x))) = _; simp
end TN
namespace TN
open PySem PySem.Spec PyProof.Rows L2
theorem pick2 {P : Int → Prop} {a b : Int} {c : Nat} (h : (c : Int) < 2) (pa : P a) (pb : P b) : ∃ x, oIx (.list [.int a, .int b]) (.int c) = some (.int x) ∧ P x := by
  have : c = 0 ∨ c = 1 := by omega
  rcases this with rfl | rfl
  · exact ⟨a, ixl0, pa⟩
  · exact ⟨b, ixl1, pb⟩
end TN
set_option Elab.async false
set_option linter.all false
set_option maxRecDepth 100000
set_option maxHeartbeats 2000000
set_option autoImplicit false
namespace TN
open PySem PySem.Spec PyProof.Rows L2
theorem rangeD_nat {n : Nat} : rangeD 0 (n : Int).toNat = (List.range n).map fun (k : Nat) => PyData.int k := by
  unfold rangeD
  simp only [Int.zero_add, Int.toNat_natCast]

def sMid (S T : TDS) : TDS := fun E ρ => ∃ I : List Sl → Prop, S { E with nx := I } ρ ∧ ∀ ρ', I ρ' → T E ρ'
theorem ls_mid {K : PySem.W.Frag} {bor : List Nat} {t u : TS} {S T : TDS} (h1 : LS K bor t S) (h2 : LS K bor u T) : LS K bor (tSeq t u) (sMid S T) := fun {c G σ H ρ E D} hc R ⟨I, q, k⟩ l =>
  h1 (D := { D with nx := u D }) hc R q ⟨fun s R' q' => h2 hc R' (k _ q') (l.mono s), fun s => l.rt s, fun s => l.bk s, fun s => l.ct s⟩

section
variable {K : PySem.W.Frag} {bor : List Nat} {te : TE} {ta tr : TA} {A : TDE} {R : TDA}
def mVar (j : Nat) (R : TDA) : TDA := fun ρ Q => (fTp j ρ).isSome = true ∧ R ρ fun ds ρ2 => ∃ d, fTp j ρ2 = some d ∧ Q (d :: ds) ρ2
def dCallM (sem : List D → (Sl → Prop) → Prop) (A : TDA) : TDE := fun ρ Q => A ρ fun ds ρ1 => sem ds fun r => ∃ d, r = .sh d ∧ flatD d = true ∧ Q d ρ1
end
end TN
set_option Elab.async false
set_option linter.all false
set_option maxRecDepth 100000
set_option maxHeartbeats 2000000
set_option autoImplicit false
namespace TN
open PySem PySem.Spec PyProof.Rows L2
def mOwn (i : Nat) : TDL := fun ρ Q => ∃ xs, ownL i ρ = some xs ∧ Q xs (ρ.set i .no)
end TN
set_option Elab.async false
set_option linter.all false
set_option maxRecDepth 100000
set_option maxHeartbeats 2000000
set_option autoImplicit false
namespace TN
open PySem PySem.Spec PyProof.Rows L2
section
variable {s : Shared} {A : Around} {w : World} {prog : Program} {E : Value → Shared → Prop}
end
section
variable {X : Cx}
end
end TN
set_option Elab.async false
set_option linter.all false
set_option maxRecDepth 100000
set_option maxHeartbeats 2000000
set_option autoImplicit false
namespace TN
open PySem PySem.Spec PyProof.Rows L2
abbrev ixS (x : Str) (r : List Str) : Nat := (idxS x r).getD 0
end TN
namespace TN
open PySem PySem.Spec PyProof.Rows L2
end TN
namespace TN
open PySem PySem.Spec PyProof.Rows L2
end TN
namespace TN
open PySem PySem.Spec PyProof.Rows L2
theorem nodup_le : ∀ {l t : List Str}, l.Nodup → (∀ x ∈ l, x ∈ t) → l.length ≤ t.length
  | [], _, _, _ => Nat.zero_le _
  | x :: l, t, nd, h => by
    rw [List.nodup_cons] at nd
    have hx := h x List.mem_cons_self
    have ih := nodup_le (t := t.erase x) nd.2 fun y hy => (List.mem_erase_of_ne (show y ≠ x from fun z => nd.1 (by rw [← z]; exact hy))).mpr (h y (List.mem_cons_of_mem _ hy))
    rw [List.length_erase_of_mem hx] at ih
    have := List.length_pos_of_mem hx
    rw [List.length_cons]; omega
end TN
set_option Elab.async false
set_option linter.all false
set_option maxRecDepth 100000
set_option maxHeartbeats 4000000
set_option autoImplicit false
namespace TN
open PySem PySem.Spec PyProof.Rows
section
variable {pg : Program} {wd : World} {A : Around} {E : Value → Shared → Prop} {s : Shared}
end
end TN
namespace TN
open PySem PySem.Spec PyProof.Rows L2
section
variable {X : Cx}
end
end TN
set_option Elab.async false
set_option linter.all false
set_option maxRecDepth 100000
set_option maxHeartbeats 2000000
set_option autoImplicit false
namespace TN
open PySem PySem.Spec PyProof.Rows L2
end TN
set_option Elab.async false
set_option linter.all false
set_option maxRecDepth 100000
set_option maxHeartbeats 2000000
set_option autoImplicit false
namespace TN
open PySem PySem.Spec PyProof.Rows L2
theorem oMul_r {i j : Int} (h : -18446744073709551616 < j ∧ j < 18446744073709551616) : oMul (.int i) (.int j) = some (.int (i * j)) := if_pos (.inr h)
end TN
set_option Elab.async false
set_option linter.all false
set_option maxRecDepth 100000
set_option maxHeartbeats 2000000
set_option autoImplicit false
namespace TN
open PySem PySem.Spec PyProof.Rows L2
theorem ix_getD {x : Str} {r : List Str} (h : x ∈ r) : r.getD (ixS x r) "" = x := by
  obtain ⟨j, h1, _⟩ := idxS_mem h
  have e := (idxS_is h1).1
  have : ixS x r = j := by show (idxS x r).getD 0 = j; rw [h1]; rfl
  rw [this, List.getD_eq_getElem?_getD, e]; rfl
end TN
set_option Elab.async false
set_option linter.all false
set_option maxRecDepth 100000
set_option maxHeartbeats 2000000
set_option autoImplicit false
namespace TN
open PySem PySem.Spec PyProof.Rows L2
section
variable {K : PySem.W.Frag} {bor : List Nat} {te : TE}
def dExtS (j : Nat) (A : TDE) : TDE := fun ρ Q => (ownL j ρ).isSome = true ∧ A ρ fun d ρ1 => ∃ zs, d = .list zs ∧ ∃ xs, ownL j ρ1 = some xs ∧ xs.length + zs.length ≤ 100000 ∧ Q .none (ρ1.set j (.ow (xs ++ zs)))
end
end TN
set_option Elab.async false
set_option linter.all false
set_option maxRecDepth 100000
set_option maxHeartbeats 2000000
set_option autoImplicit false
namespace TN
open PySem PySem.Spec PyProof.Rows L2
section
variable {R : Result → Shared → Prop} {St : Nat → Heap → Prop} {P : Nat → Value → Prop} {prog : Program} {w : World} {A : Around} {I : Addr} {fp wr : List Addr} {n : Nat}
end
section
variable {w : World} {prog : Program} {A : Around} {E : Value → Shared → Prop} {s : Shared}
end
section
variable {R : Result → Shared → Prop} {St : Nat → Heap → Prop} {P : Nat → Value → Prop} {prog : Program} {w : World} {A : Around} {I : Addr} {fp wr : List Addr} {n : Nat}
end
section
variable {w : World} {prog : Program} {A : Around} {E : Value → Shared → Prop} {s : Shared}
end
section
variable {K : PySem.W.Frag} {bor : List Nat} {r : List V → List V → Hp → VK → Prop} {o : OC} {ta : TA} {c : V}
end
end TN
set_option Elab.async false
set_option linter.all false
set_option maxRecDepth 100000
set_option maxHeartbeats 2000000
set_option autoImplicit false
namespace TN
open PySem PySem.Spec PyProof.Rows L2
def oD (j : Nat) (ρ : List Sl) : Option (List (Key × D)) := match ρ[j]? with
  | some (.od kvs) => some kvs
  | _ => none
def valD (kvs : List (Key × D)) (k : Key) : Option D := (kvs.find? fun kv => decide (kv.1 = k)).map (·.2)
def putD (kvs : List (Key × D)) (k : Key) (d : D) : List (Key × D) :=
  if (kvs.any fun kv => decide (kv.1 = k)) = true then kvs.map (fun kv => if kv.1 = k then (kv.1, d) else kv) else kvs ++ [(k, d)]
section
variable {K : PySem.W.Frag} {bor : List Nat} {te ti tx : TE} {A B : TDE} {f g h : FE}
def sDNew (i : Nat) : TDS := fun E ρ => E.nx (ρ.set i (.od []))
def sPutD (j : Nat) (A B : TDE) : TDS := fun E ρ => A ρ fun d ρ1 => (oD j ρ1).isSome = true ∧ B ρ1 fun e ρ2 => ∃ kvs k, oD j ρ2 = some kvs ∧ keyK e = some k ∧ kvs.length < 100000 ∧ E.nx (ρ2.set j (.od (putD kvs k d)))
def fGetO (j : Nat) (g : FE) : FE := fun ρ => match oD j ρ, g ρ with
  | some kvs, some e => (keyK e).bind fun k => valD kvs k
  | _, _ => none
def fGetO2 (j : Nat) (g h : FE) : FE := fun ρ => match oD j ρ, g ρ, h ρ with
  | some kvs, some e, some z => (keyK e).map fun k => (valD kvs k).getD z
  | _, _, _ => none
def fInO (j : Nat) (g : FE) : FE := fun ρ => match oD j ρ, g ρ with
  | some kvs, some e => (keyK e).map fun k => .bool (valD kvs k).isSome
  | _, _ => none
def fNinO (j : Nat) (g : FE) : FE := fun ρ => match oD j ρ, g ρ with
  | some kvs, some e => (keyK e).map fun k => .bool (!(valD kvs k).isSome)
  | _, _ => none
def dVarD (i : Nat) : TDE := fun ρ Q => ∃ kvs, oD i ρ = some kvs ∧ Q (.dict (dctD kvs)) (ρ.set i (.sh (.dict (dctD kvs))))
end
end TN
set_option Elab.async false
set_option linter.all false
set_option maxRecDepth 100000
set_option maxHeartbeats 1000000
set_option autoImplicit false
namespace TN
open PySem PySem.Spec PyProof.Rows L2 RT RZ
section
variable {K : PySem.W.Frag} {bor : List Nat} {te : TE} {A : TDE} {P P1 : PIt}
def compT2 (tg : TDG) (vs : List Nat) (C : TDT) (T1 : TDI) (tg1 : TDG) (vs1 : List Nat) (C1 : TDT) (A : TDE) (Q : List D → List Sl → Prop) : List D → List D → List Sl → Prop
  | [], acc, ρ => Q acc ρ
  | d :: ds, acc, ρ => (vs.all fun v => plainAt v ρ) = true ∧ tg d (wipeD ρ vs) fun ρ0 => C ρ0 fun b ρ1 =>
      (b = true → T1 ρ1 fun es ρ2 => compT tg1 vs1 C1 A (fun acc' ρ3 => compT2 tg vs C T1 tg1 vs1 C1 A Q ds acc' (backD ρ ρ3 vs)) es acc ρ2) ∧ (b = false → compT2 tg vs C T1 tg1 vs1 C1 A Q ds acc (backD ρ ρ1 vs))
def dCompI2 (T : TDI) (tg : TDG) (vs : List Nat) (C : TDT) (T1 : TDI) (tg1 : TDG) (vs1 : List Nat) (C1 : TDT) (A : TDE) : TDL := fun ρ Q => T ρ fun ds ρ1 => compT2 tg vs C T1 tg1 vs1 C1 A Q ds [] ρ1
end
section
variable {K : PySem.W.Frag} {bor : List Nat}
end
end TN
set_option Elab.async false
set_option linter.all false
set_option maxRecDepth 100000
set_option maxHeartbeats 2000000
set_option autoImplicit false
namespace TN
open PySem PySem.Spec PyProof.Rows L2
section
variable {prog : Program} {w : World} {A : Around} {E : Value → Shared → Prop} {s : Shared}
end
section
variable {X : Cx} {K : PySem.W.Frag} {bor : List Nat} {te ta tb : TE} {f g : FE} {A B : TDE}
def dLAddE (A B : TDE) : TDL := fun ρ Q => A ρ fun d ρ1 => B ρ1 fun e ρ2 => ∃ xs ys, d = .list xs ∧ e = .list ys ∧ xs.length + ys.length ≤ 100000 ∧ Q (xs ++ ys) ρ2
end
end TN
set_option Elab.async false
set_option linter.all false
set_option maxRecDepth 100000
set_option maxHeartbeats 2000000
set_option autoImplicit false
namespace TN
open PySem PySem.Spec PyProof.Rows L2
theorem ringsL_is {ks : List Str} {f : Str → Str} (g : RG ks f) {r : List Str} (h : r ∈ ringsL f ks.length (sortS ks)) : ∃ a ∈ ks, r = ringL f ks.length a ∧ Ch ks f a r ∧ 2 ≤ r.length ∧ minS r = some a := by
  obtain ⟨h1, h2⟩ := List.mem_filter.mp h
  obtain ⟨a, ha, rfl⟩ := List.mem_map.mp h1
  have ak := (sortS_perm ks).mem_iff.mp ha
  have c := ringL_ok g ak ks.length
  unfold ringOk at h2
  rw [Bool.and_eq_true, decide_eq_true_eq, decide_eq_true_eq, c.hd] at h2
  exact ⟨a, ak, rfl, c, h2.1, h2.2.symm⟩
theorem rings_apart {ks : List Str} {f : Str → Str} (g : RG ks f) : (ringsL f ks.length (sortS ks)).Pairwise fun r s => ∀ x ∈ r, x ∉ s := by
  unfold ringsL
  rw [List.pairwise_filter, List.pairwise_map]
  have nd : (sortS ks).Nodup := sortS_nd g.nd
  refine List.Pairwise.imp_of_mem ?_ nd
  intro a b ha hb ne oa ob x xa xb
  have ak := (sortS_perm ks).mem_iff.mp ha
  have bk := (sortS_perm ks).mem_iff.mp hb
  have ca := ringL_ok g ak ks.length
  have cb := ringL_ok g bk ks.length
  have s1 := ring_same g ak xa
  have s2 := ring_same g bk xb
  have e := minS_set fun z => (s1 z).symm.trans (s2 z)
  unfold ringOk at oa ob
  rw [Bool.and_eq_true, decide_eq_true_eq, decide_eq_true_eq, ca.hd] at oa
  rw [Bool.and_eq_true, decide_eq_true_eq, decide_eq_true_eq, cb.hd] at ob
  rw [← oa.2, ← ob.2] at e
  injection e with e
  exact ne e
theorem rings_flat_nd {ks : List Str} {f : Str → Str} (g : RG ks f) : (ringsL f ks.length (sortS ks)).flatten.Nodup := by
  unfold List.Nodup
  rw [List.pairwise_flatten]
  refine ⟨fun r hr => ?_, (rings_apart g).imp (by intro r s h x hx y hy z; subst z; exact h x hx hy)⟩
  obtain ⟨a, _, _, c, _⟩ := ringsL_is g hr
  exact c.nd
theorem rings_flat_sub {ks : List Str} {f : Str → Str} (g : RG ks f) : ∀ x ∈ (ringsL f ks.length (sortS ks)).flatten, x ∈ ks := fun x hx => by
  obtain ⟨r, hr, hx⟩ := List.mem_flatten.mp hx
  obtain ⟨a, _, _, c, _⟩ := ringsL_is g hr
  exact c.mem x hx
theorem GPair.run {t h : List Str} (gp : GPair t h) {es : List Ev} (ok : ∀ e ∈ es, e.ok t) : GPair (runT t es).1 (runH h es).1 := by
  have p1 := (runT_ok es t ok).1
  have p2 := (runH_ok es h fun e he => Ev.ok_perm gp.pm (ok e he)).1
  exact ⟨gp.gt.perm p1, gp.gh.perm p2, p1.trans (gp.pm.trans p2.symm)⟩

section
variable {t h : List Str} {f : Str → Str}
end
end TN
set_option Elab.async false
set_option linter.all false
set_option maxRecDepth 100000
set_option maxHeartbeats 2000000
set_option autoImplicit false
namespace TN
open PySem PySem.Spec PyProof.Rows L2 RT RZ
section
variable {K : PySem.W.Frag} {bor : List Nat} {te ta : TE} {A : TDE} {P : PIt}
def iK (A : TDE) : TDI := fun ρ Q => A ρ fun d ρ1 => ∃ kvs, d = .dict kvs ∧ Q (kvs.map (·.1)) ρ1
def iV (A : TDE) : TDI := fun ρ Q => A ρ fun d ρ1 => ∃ kvs, d = .dict kvs ∧ Q (kvs.map (·.2)) ρ1
end
end TN
set_option Elab.async false
set_option linter.all false
set_option maxRecDepth 100000
set_option maxHeartbeats 1000000
set_option autoImplicit false
namespace TN
open PySem PySem.Spec PyProof.Rows L2
section
variable {K : PySem.W.Frag} {bor : List Nat} {te : TE} {A : TDL} {R : TDP}
def pNew (A : TDL) (R : TDP) : TDP := fun ρ Q => A ρ fun xs ρ1 => R ρ1 fun ps ρ2 => Q (.ow xs :: ps) ρ2
end
open RT RZ
section
variable {X : Cx} {tg : Expr}
end
section
variable {K : PySem.W.Frag} {bor : List Nat} {te : TE} {A : TDE}
def iLT (A : TDE) : TDI := fun ρ Q => A ρ fun d ρ1 => ∃ ds, (d = .list ds ∨ d = .tuple ds) ∧ Q ds ρ1
end
end TN
set_option Elab.async false
set_option linter.all false
set_option maxRecDepth 100000
set_option maxHeartbeats 2000000
set_option autoImplicit false
namespace TN
open PySem PySem.Spec PyProof.Rows L2
end TN
set_option Elab.async false
set_option linter.all false
set_option maxRecDepth 100000
set_option maxHeartbeats 2000000
set_option autoImplicit false
namespace TN
open PySem PySem.Spec PyProof.Rows L2
theorem getD_mem {w : List Str} {i : Nat} (h : i < w.length) : w.getD i "" ∈ w := by
  rw [getD_of h]; exact List.getElem_mem _
theorem getD_inj {w : List Str} (nd : w.Nodup) {i j : Nat} (hi : i < w.length) (hj : j < w.length) (e : w.getD i "" = w.getD j "") : i = j := getD_nd nd hi hj e

end TN
set_option Elab.async false
set_option linter.all false
set_option maxRecDepth 100000
set_option maxHeartbeats 2000000
set_option autoImplicit false
namespace TN
open PySem PySem.Spec PyProof.Rows L2
section
variable {X : Cx}
end
def leT (x y : List Str) : Bool := !ltT y x
def sortT (rs : List (List Str)) : List (List Str) := rs.mergeSort leT
theorem leT_iff {x y : List Str} : leT x y = true ↔ ltT y x = false := by unfold leT; simp
theorem leT_trans (x y z : List Str) (h1 : leT x y = true) (h2 : leT y z = true) : leT x z = true := leT_iff.mpr (ltT_no_trans (leT_iff.mp h1) (leT_iff.mp h2))
theorem leT_total (x y : List Str) : (leT x y || leT y x) = true := by
  unfold leT
  cases h : ltT y x with
  | false => rfl
  | true => rw [ltT_asym h]; rfl
theorem leT_anti {x y : List Str} (h1 : leT x y = true) (h2 : leT y x = true) : x = y := ltT_tri (leT_iff.mp h2) (leT_iff.mp h1)
theorem sortT_perm (rs : List (List Str)) : (sortT rs).Perm rs := List.mergeSort_perm rs leT
theorem sortT_is {rs qs : List (List Str)} (hp : qs.Perm rs) (hs : qs.Pairwise fun x y => ltT y x = false) : qs = sortT rs := by
  refine List.Perm.eq_of_pairwise (le := fun a b => leT a b = true) (fun a b _ _ h1 h2 => leT_anti h1 h2) (hs.imp fun h => leT_iff.mpr h) (List.pairwise_mergeSort leT_trans leT_total rs) (hp.trans (sortT_perm rs).symm)

end TN
set_option Elab.async false
set_option linter.all false
set_option maxRecDepth 100000
set_option maxHeartbeats 2000000
set_option autoImplicit false
namespace TN
open PySem PySem.Spec PyProof.Rows L2
structure RgOk (t : List Str) (R : List (List Str)) : Prop where
  two : ∀ r ∈ R, 2 ≤ r.length
  nd : R.flatten.Nodup
  sub : ∀ x ∈ R.flatten, x ∈ t
theorem RgOk.apart {t : List Str} {R : List (List Str)} (g : RgOk t R) : R.Pairwise fun r s => ∀ x ∈ r, x ∉ s := by
  have := g.nd
  unfold List.Nodup at this
  rw [List.pairwise_flatten] at this
  refine this.2.imp ?_
  intro r s h x hx hy
  exact h x hx x hy rfl
theorem RgOk.each {t : List Str} {R : List (List Str)} (g : RgOk t R) : ∀ r ∈ R, r.Nodup := by
  have := g.nd
  unfold List.Nodup at this
  rw [List.pairwise_flatten] at this
  exact this.1
theorem RgOk.perm {t u : List Str} {R : List (List Str)} (g : RgOk t R) (p : u.Perm t) : RgOk u R := ⟨g.two, g.nd, fun x hx => p.mem_iff.mpr (g.sub x hx)⟩
end TN
set_option Elab.async false
set_option linter.all false
set_option maxRecDepth 100000
set_option maxHeartbeats 2000000
set_option autoImplicit false
namespace TN
open PySem PySem.Spec PyProof.Rows L2 RT RZ
structure RgCan (t : List Str) (R : List (List Str)) : Prop where
  ok : RgOk t R
  min : ∀ r ∈ R, minS r = r.head?
  srt : sortT R = R
theorem RgOk.few {t : List Str} {R : List (List Str)} (g : RgOk t R) (gt : GRow t) : R.flatten.length ≤ 16 := Nat.le_trans (nodup_le g.nd g.sub) gt.few
theorem RgOk.many {t : List Str} {R : List (List Str)} (g : RgOk t R) (gt : GRow t) : R.length ≤ 16 := by
  have h := g.few gt
  have : ∀ R : List (List Str), (∀ r ∈ R, 2 ≤ r.length) → R.length ≤ R.flatten.length := by
    intro R
    induction R with
    | nil => intro _; exact Nat.zero_le _
    | cons r R ih =>
      intro h
      have h1 := h r List.mem_cons_self
      have h2 := ih fun s hs => h s (List.mem_cons_of_mem _ hs)
      rw [List.flatten_cons, List.length_append, List.length_cons]; omega
  have := this R g.two
  omega
end TN
namespace TN
open PySem PySem.Spec PyProof.Rows L2
end TN
set_option Elab.async false
set_option linter.all false
set_option maxRecDepth 100000
set_option maxHeartbeats 2000000
set_option autoImplicit false
namespace TN
open PySem PySem.Spec PyProof.Rows L2
section
variable {prog : Program} {w : World} {A : Around} {E : Value → Shared → Prop} {s : Shared}
end
section
variable {prog : Program} {w : World} {A : Around} {R : Result → Shared → Prop} {I : Addr} {fp wr : List Addr} {n : Nat} {P : Nat → Value → Prop} {St : Nat → Heap → Prop}
def SumAt (h0 : Heap) (b0 : Addr) (h : Heap) (T : Addr) (its : List Value) : Prop := (T = b0 ∧ its = [] ∧ h.IsList b0 #[]) ∨ (h0.objs.size ≤ T ∧ ∃ c, h.get? T = some { cls := .type "list", data := .seq its.toArray c })
theorem SumAt.isList {h0 h : Heap} {b0 T : Addr} {its : List Value} (H : SumAt h0 b0 h T its) : h.IsList T its.toArray := by
  rcases H with ⟨rfl, rfl, e⟩ | ⟨_, c, e⟩
  · exact e
  · exact ⟨_, e, rfl, _, rfl⟩
theorem SumAt.kept {h0 h h' : Heap} {b0 T : Addr} {its : List Value} (H : SumAt h0 b0 h T its) (k : ∀ o, h.get? T = some o → h'.get? T = some o) : SumAt h0 b0 h' T its := by
  rcases H with ⟨rfl, rfl, o, e, r⟩ | ⟨h1, c, e⟩
  · exact .inl ⟨rfl, rfl, o, k o e, r⟩
  · exact .inr ⟨h1, c, k _ e⟩
end
section
variable {prog : Program} {w : World} {A : Around} {E : Value → Shared → Prop} {s : Shared}
end
section
variable {X : Cx}
end
section
variable {K : PySem.W.Frag} {bor : List Nat} {ta : TA} {r : List V → Hp → VK → Prop} {o : OC}
end
end TN
set_option Elab.async false
set_option linter.all false
set_option maxRecDepth 100000
set_option maxHeartbeats 2000000
set_option autoImplicit false
namespace TN
open PySem PySem.Spec PyProof.Rows L2
theorem ltT_heads {a b : Str} {l m : List Str} (h : leS a b = true) (ne : a ≠ b) : ltT (b :: m) (a :: l) = false := by
  show (if b = a then ltT m l else decide (b.cps.toList < a.cps.toList)) = false
  rw [if_neg (Ne.symm ne)]
  unfold leS at h
  simpa using h
end TN
set_option Elab.async false
set_option linter.all false
set_option maxRecDepth 100000
set_option maxHeartbeats 2000000
set_option autoImplicit false
namespace TN
open PySem PySem.Spec PyProof.Rows L2
def WishOk (r : List Str) (R : List (List Str)) : Prop := R = [] ∨ ∃ (ks : List Str) (f : Str → Str), RG ks f ∧ (∀ x ∈ ks, x ∈ r) ∧ R = ringsL f ks.length (sortS ks)
theorem up_heads {ks : List Str} {f : Str → Str} (g : RG ks f) : (ringsL f ks.length (sortS ks)).Pairwise fun r s => ltT s r = false := by
  unfold ringsL
  rw [List.pairwise_filter, List.pairwise_map]
  have nd : (sortS ks).Nodup := sortS_nd g.nd
  have so : (sortS ks).Pairwise (fun a b => leS a b = true) := List.pairwise_mergeSort leS_trans leS_total ks
  refine List.Pairwise.imp_of_mem ?_ (so.and nd)
  intro a b ha hb ⟨le, ne⟩ _ _
  have ca := ringL_ok g ((sortS_perm ks).mem_iff.mp ha) ks.length
  have cb := ringL_ok g ((sortS_perm ks).mem_iff.mp hb) ks.length
  have : ∀ {l : List Str} {a : Str}, l.head? = some a → ∃ m, l = a :: m := fun {l a} h => by
    cases l with
    | nil => cases h
    | cons b l => injection h with h; subst h; exact ⟨_, rfl⟩
  obtain ⟨l, el⟩ := this ca.hd
  obtain ⟨m, em⟩ := this cb.hd
  rw [el, em]
  exact ltT_heads le ne
theorem can_rings {t ks : List Str} {f : Str → Str} (g : RG ks f) (sub : ∀ x ∈ ks, x ∈ t) : RgCan t (ringsL f ks.length (sortS ks)) := by
  refine ⟨⟨fun r hr => ?_, rings_flat_nd g, fun x hx => sub x (rings_flat_sub g x hx)⟩, fun r hr => ?_, ?_⟩
  · obtain ⟨a, _, _, _, l2, _⟩ := ringsL_is g hr
    exact l2
  · obtain ⟨a, _, _, c, l2, m⟩ := ringsL_is g hr
    rw [m, c.hd]
  · exact (sortT_is (.refl _) (up_heads g)).symm
theorem can_nil (t : List Str) : RgCan t [] := ⟨⟨(fun r hr => by cases hr), .nil, (fun x hx => by cases hx)⟩, (fun r hr => by cases hr), List.length_eq_zero_iff.mp (sortT_perm []).length_eq⟩
theorem WishOk.can {r : List Str} {R : List (List Str)} (h : WishOk r R) : RgCan r R := by
  rcases h with rfl | ⟨ks, f, g, sub, rfl⟩
  · exact can_nil r
  · exact can_rings g sub
end TN
set_option Elab.async false
set_option linter.all false
set_option maxRecDepth 100000
set_option maxHeartbeats 2000000
set_option autoImplicit false
namespace TN
open PySem PySem.Spec PyProof.Rows L2
structure WP (P : List (Str × Str)) : Prop where
  k : (P.map (·.1)).Nodup
  v : (P.map (·.2)).Nodup
  s : ∀ x ∈ P.map (·.2), x ∈ P.map (·.1)
theorem WP.rg {P : List (Str × Str)} {r : List Str} (g : WP P) (ne : P ≠ []) (gr : GRow r) (sub : ∀ x ∈ P.map (·.1), x ∈ r) : ∃ f : Str → Str, P.map (·.2) = (P.map (·.1)).map f ∧ RG (P.map (·.1)) f := by
  have hl : (P.map (·.1)).length = (P.map (·.2)).length := by simp
  refine ⟨fOf (P.map (·.1)) (P.map (·.2)), (map_fOf g.k hl).symm, fun z => ne (List.map_eq_nil_iff.mp z), ?_, g.k, fun x hx => gr.let' x (sub x hx), fun x hx => g.s _ (fOf_mem hl hx), fun x hx y hy e => fOf_inj g.k g.v hl hx hy e⟩
  exact Nat.le_trans (nodup_le g.k sub) gr.few
end TN
set_option Elab.async false
set_option linter.all false
set_option maxRecDepth 100000
set_option maxHeartbeats 2000000
set_option autoImplicit false
namespace TN
open PySem PySem.Spec PyProof.Rows L2
def nextR (r : List Str) (x : Str) : Str := if x ∈ r then r.getD ((ixS x r + 1) % r.length) "" else x
theorem nextR_out {r : List Str} {x : Str} (h : x ∉ r) : nextR r x = x := if_neg h
theorem nextR_at {r : List Str} {j : Nat} (nd : r.Nodup) (h : j < r.length) : nextR r (r.getD j "") = r.getD ((j + 1) % r.length) "" := by
  unfold nextR
  rw [if_pos (getD_mem h)]
  unfold ixS
  rw [idx_getD nd h]
section
variable {t : List Str} {a b : Nat}
end
def leastAt (r : List Str) : Nat := ixS ((minS r).getD "") r
def begun (r : List Str) : List Str := if r.length < 2 then [] else r.drop (leastAt r) ++ r.take (leastAt r)
theorem begun_get {r : List Str} {k j : Nat} (hk : k < r.length) (hj : j < r.length) : (r.drop k ++ r.take k).getD j "" = r.getD ((k + j) % r.length) "" := by
  have l : (r.drop k ++ r.take k).length = r.length := by simp; omega
  rw [getD_of (by omega)]
  by_cases c : k + j < r.length
  · rw [Nat.mod_eq_of_lt c, getD_of c, List.getElem_append_left (by rw [List.length_drop]; omega), List.getElem_drop]
  · have e : (k + j) % r.length = k + j - r.length := by
      rw [Nat.mod_eq_sub_mod (by omega), Nat.mod_eq_of_lt (by omega)]
    rw [e, getD_of (by omega), List.getElem_append_right (by rw [List.length_drop]; omega), List.getElem_take]
    congr 1; rw [List.length_drop]; omega
theorem rot_next {r : List Str} {k : Nat} (nd : r.Nodup) (hk : k < r.length) (x : Str) : nextR (r.drop k ++ r.take k) x = nextR r x := by
  have pm : (r.drop k ++ r.take k).Perm r := List.perm_append_comm.trans (List.Perm.of_eq (List.take_append_drop k r))
  by_cases hx : x ∈ r
  · obtain ⟨j, hj, rfl⟩ := List.mem_iff_getElem.mp (pm.mem_iff.mpr hx)
    rw [← getD_of (x := ("" : Str)) hj, nextR_at (pm.nodup_iff.mpr nd) hj]
    rw [pm.length_eq] at hj ⊢
    have h0 : 0 < r.length := by omega
    rw [begun_get hk hj, nextR_at nd (Nat.mod_lt _ h0), begun_get hk (Nat.mod_lt _ h0)]
    congr 1
    rw [Nat.add_mod_mod, Nat.mod_add_mod, Nat.add_assoc]
  · rw [nextR_out hx, nextR_out fun z => hx (pm.mem_iff.mp z)]
theorem leastAt_lt {r : List Str} (h : 0 < r.length) : leastAt r < r.length := by
  unfold leastAt
  have : ∃ m, minS r = some m := by
    unfold minS
    have := (sortS_perm r).length_eq
    cases e : sortS r with
    | nil => rw [e] at this; simp at this; omega
    | cons a b => exact ⟨a, rfl⟩
  obtain ⟨m, e⟩ := this
  rw [e]
  exact idx_lt (minS_mem e).1
theorem begun_next {r : List Str} (nd : r.Nodup) (x : Str) : nextR (begun r) x = nextR r x := by
  unfold begun
  split
  · rename_i h
    rw [nextR_out (by simp)]
    match r, h with
    | [], _ => exact (nextR_out (by simp)).symm
    | [y], _ =>
      unfold nextR
      split
      · rename_i hx
        rw [List.mem_singleton] at hx
        subst hx
        show x = [x].getD ((ixS x [x] + 1) % 1) ""
        rw [Nat.mod_one]; rfl
      · rfl
  · rename_i h
    exact rot_next nd (leastAt_lt (by omega)) x

theorem RG.congr {ks : List Str} {f f' : Str → Str} (g : RG ks f) (h : ∀ x ∈ ks, f x = f' x) : RG ks f' :=
  ⟨g.ne, g.few, g.nd, g.isl, fun x hx => by rw [← h x hx]; exact g.mem x hx, fun x hx y hy e => g.inj x hx y hy (by rw [h x hx, h y hy]; exact e)⟩

end TN
set_option Elab.async false
set_option linter.all false
set_option maxRecDepth 100000
set_option maxHeartbeats 2000000
set_option autoImplicit false
namespace TN
open PySem PySem.Spec PyProof.Rows L2
def swapS (a b x : Str) : Str := if x = a then b else if x = b then a else x
theorem swap_comm (a b x : Str) : swapS a b x = swapS b a x := by
  unfold swapS
  by_cases h1 : x = a
  · by_cases h2 : x = b
    · rw [if_pos h1, if_pos h2, ← h1, ← h2]
    · rw [if_pos h1, if_neg h2, if_pos h1]
  · by_cases h2 : x = b
    · rw [if_neg h1, if_pos h2, if_pos h2]
    · rw [if_neg h1, if_neg h2, if_neg h2, if_neg h1]
theorem swap_out {a b x : Str} (h1 : x ≠ a) (h2 : x ≠ b) : swapS a b x = x := by unfold swapS; rw [if_neg h1, if_neg h2]
theorem swap_l (a b : Str) : swapS a b a = b := if_pos rfl
theorem swap_r (a b : Str) : swapS a b b = a := by rw [swap_comm]; exact if_pos rfl
theorem swap_swap (a b x : Str) : swapS a b (swapS a b x) = x := by
  by_cases h1 : x = a
  · subst h1; rw [swap_l, swap_r]
  · by_cases h2 : x = b
    · subst h2; rw [swap_r, swap_l]
    · rw [swap_out h1 h2, swap_out h1 h2]
theorem RG.swap {ks : List Str} {f : Str → Str} (g : RG ks f) {a b : Str} (ha : a ∈ ks) (hb : b ∈ ks) : RG ks fun x => f (swapS a b x) := by
  have m : ∀ x ∈ ks, swapS a b x ∈ ks := fun x hx => by
    unfold swapS
    split
    · exact hb
    · split
      · exact ha
      · exact hx
  refine ⟨g.ne, g.few, g.nd, g.isl, fun x hx => g.mem _ (m x hx), fun x hx y hy e => ?_⟩
  have := g.inj _ (m x hx) _ (m y hy) e
  rw [← swap_swap a b x, this, swap_swap]
theorem next_cons {a b : Str} {r : List Str} (nd : (a :: b :: r).Nodup) (x : Str) : nextR (a :: b :: r) x = swapS a b (nextR (b :: r) x) := by
  obtain ⟨ha, nb⟩ := List.nodup_cons.mp nd
  by_cases hx : x ∈ b :: r
  · obtain ⟨j, hj, rfl⟩ := List.mem_iff_getElem.mp hx
    have e0 : (b :: r)[j] = (a :: b :: r).getD (j + 1) "" := by rw [getD_of (by simp at hj ⊢; omega)]; rfl
    have e1 : (b :: r)[j] = (b :: r).getD j "" := (getD_of hj).symm
    have l2 : (a :: b :: r).length = (b :: r).length + 1 := rfl
    have lhs := nextR_at nd (j := j + 1) (by rw [l2]; omega)
    rw [← e0] at lhs
    have rhs := nextR_at nb hj
    rw [← e1] at rhs
    rw [lhs, rhs, l2]
    by_cases c : j + 1 = (b :: r).length
    · rw [c, Nat.mod_self, Nat.mod_self]
      show a = swapS a b b
      rw [swap_r]
    · rw [Nat.mod_eq_of_lt (by omega), Nat.mod_eq_of_lt (by omega)]
      show (b :: r).getD (j + 1) "" = _
      have hm : (b :: r).getD (j + 1) "" ∈ b :: r := getD_mem (by omega)
      rw [swap_out (fun z => ha (by rw [← z]; exact hm)) fun z => ?_]
      have := getD_inj nb (i := j + 1) (j := 0) (by omega) (by omega) z
      omega
  · by_cases h : x = a
    · subst h
      rw [nextR_out hx, swap_l]
      have := nextR_at nd (j := 0) (by simp)
      rw [show (0 + 1) % (x :: b :: r).length = 1 from Nat.mod_eq_of_lt (by simp)] at this
      exact this
    · rw [nextR_out hx, nextR_out (by simp only [List.mem_cons] at hx ⊢; intro z; rcases z with z | z; exact h z; exact hx z), swap_out h fun z => hx (by rw [z]; exact List.mem_cons_self)]
theorem RG.next {ks : List Str} {f : Str → Str} (g : RG ks f) : ∀ (r : List Str), r.Nodup → (∀ x ∈ r, x ∈ ks) → RG ks fun x => f (nextR r x)
  | [], _, _ => g.congr fun x _ => by rw [nextR_out (by simp)]
  | [a], nd, _ => g.congr fun x _ => by
    have := begun_next (r := [a]) nd x
    rw [← this]
    show f x = f (nextR [] x)
    rw [nextR_out (by simp)]
  | a :: b :: r, nd, sub => by
    obtain ⟨na, nb⟩ := List.nodup_cons.mp nd
    exact (RG.next (g.swap (sub a List.mem_cons_self) (sub b (by simp))) (b :: r) nb fun x hx => sub x (List.mem_cons_of_mem _ hx)).congr fun x _ => by rw [next_cons nd]
theorem RG.id {ks : List Str} {f : Str → Str} (g : RG ks f) : RG ks fun x => x := ⟨g.ne, g.few, g.nd, g.isl, fun x hx => hx, fun x _ y _ e => e⟩
end TN
set_option Elab.async false
set_option linter.all false
set_option maxRecDepth 100000
set_option maxHeartbeats 2000000
set_option autoImplicit false
namespace TN
open PySem PySem.Spec PyProof.Rows L2
end TN
set_option Elab.async false
set_option linter.all false
set_option maxRecDepth 100000
set_option maxHeartbeats 2000000
set_option autoImplicit false
namespace TN
open PySem PySem.Spec PyProof.Rows L2
structure RowsOk (Rs : List (List Str)) (r0 : List Str) : Prop where
  hd : Rs.head? = some r0
  few : Rs.length ≤ 100
  nd : r0.Nodup
  len : r0.length ≤ 16
  isl : ∀ x ∈ r0, isL x
  all : ∀ r ∈ Rs, r.Perm r0
end TN
set_option Elab.async false
set_option linter.all false
set_option maxRecDepth 100000
set_option maxHeartbeats 2000000
set_option autoImplicit false
namespace TN
open PySem PySem.Spec PyProof.Rows L2
section
variable {Rs : List (List Str)} {r0 : List Str}
theorem RowsOk.mem (ro : RowsOk Rs r0) : r0 ∈ Rs := List.mem_of_mem_head? ro.hd
end
section
variable {K : PySem.W.Frag} {bor : List Nat} {ta tb tc : TE} {A B C : TDE}
end
section
variable {K : PySem.W.Frag} {bor : List Nat} {ta tb : TE} {A : TDL} {B : TDE}
end
end TN
set_option Elab.async false
set_option linter.all false
set_option maxRecDepth 100000
set_option maxHeartbeats 2000000
set_option autoImplicit false
namespace TN
open PySem PySem.Spec PyProof.Rows L2
section
variable {w : List Str} {p : Nat}
end
end TN
set_option Elab.async false
set_option linter.all false
set_option maxRecDepth 100000
set_option maxHeartbeats 2000000
set_option autoImplicit false
namespace TN
open PySem PySem.Spec PyProof.Rows L2
section
variable {a b c d : List Str}
end
end TN
set_option Elab.async false
set_option linter.all false
set_option maxRecDepth 100000
set_option maxHeartbeats 1000000
set_option autoImplicit false
namespace TN
open PySem PySem.Spec PyProof.Rows L2
open Sem (wp)
section
variable {prog : Program} {w : World} {A : Around} {E : Value → Shared → Prop} {s : Shared}
end
section
variable {X : Cx} {pos : Pos}
end
section
variable {K : PySem.W.Frag} {bor : List Nat}
def tgLst (n : Nat) (r : List D → List Sl → (List Sl → Prop) → Prop) : TDG := fun d ρ Q => ∃ ds, d = .list ds ∧ ds.length = n ∧ r ds ρ Q
end
end TN
set_option Elab.async false
set_option linter.all false
set_option maxRecDepth 100000
set_option maxHeartbeats 1000000
set_option autoImplicit false
namespace TN
open PySem PySem.Spec PyProof.Rows L2
open Sem (wp)
section
variable {prog : Program} {w : World} {A : Around} {E : Value → Shared → Prop} {s : Shared}
end
section
variable {X : Cx}
end
section
variable {K : PySem.W.Frag} {bor : List Nat} {te : TE} {A : TDL}
def sCut (j : Nat) (c : Int) (A : TDL) : TDS := fun E ρ => A ρ fun ys ρ1 => ∃ xs, ownL j ρ1 = some xs ∧ 0 ≤ c ∧ xs.length + ys.length ≤ 100000 ∧ E.nx (ρ1.set j (.ow (ys ++ xs.drop c.toNat)))
end
end TN
set_option Elab.async false
set_option linter.all false
set_option maxRecDepth 100000
set_option maxHeartbeats 1000000
set_option autoImplicit false
namespace TN
open PySem PySem.Spec PyProof.Rows L2
mutual
def noList : D → Bool
  | .none => true
  | .bool _ => true
  | .int _ => true
  | .str _ => true
  | .tuple ds => noLists ds
  | _ => false
def noLists : List D → Bool
  | [] => true
  | d :: ds => noList d && noLists ds
end
theorem noLists_strs : ∀ r : List Str, noLists (r.map PyData.str) = true
  | [] => rfl
  | x :: r => by
    show (noList (.str x) && noLists (r.map PyData.str)) = true
    rw [noLists_strs r]; rfl
theorem noList_tupL (r : List Str) : noList (tupL r) = true := noLists_strs r
theorem noList_pair (t h : List Str) : noList (pairS t h) = true := by
  show (noList (tupL t) && (noList (tupL h) && noLists [])) = true
  rw [noList_tupL, noList_tupL]; rfl

def OwS (σ : L2.St) (ρ : List Sl) (b : Addr) : Prop := ∃ (j : Nat) (xs : List D), ρ[j]? = some (.ow xs) ∧ σ[j]? = some (some (.ref b))
open Classical in
noncomputable def lendG (G H : Hp) (σ : L2.St) (ρ : List Sl) : Hp := fun b => if OwS σ ρ b then H b else G b
section
variable {K : PySem.W.Frag} {c : C0} {G G' H H' : Hp} {σ : L2.St} {ρ : List Sl}
theorem ows_at (R : Rel K c G σ H ρ) {b : Addr} (h : OwS σ ρ b) : G b = none ∧ ∃ vs, H b = some (.lst vs) := by
  obtain ⟨j, xs, h1, h2⟩ := h
  obtain ⟨a, vs, e1, e2, e3, e4, e5⟩ := R.owAt h1
  cases refI h2 e1
  exact ⟨e4, vs, e2⟩
theorem lend_up (R : Rel K c G σ H ρ) : Same G (lendG G H σ ρ) := fun b o e => by
  unfold lendG
  by_cases h : OwS σ ρ b
  · rw [(ows_at R h).1] at e; cases e
  · rw [if_neg h]; exact e
theorem lend_sub (R : Rel K c G σ H ρ) : Same (lendG G H σ ρ) H := fun b o e => by
  unfold lendG at e
  by_cases h : OwS σ ρ b
  · rw [if_pos h] at e; exact e
  · rw [if_neg h] at e; exact R.sub _ _ e
theorem lend_own (R : Rel K c G σ H ρ) {j : Nat} {xs : List D} (h : ρ[j]? = some (.ow xs)) : ∃ a, σ[j]? = some (some (.ref a)) ∧ Dq K (lendG G H σ ρ) (.ref a) (.list xs) := by
  obtain ⟨a, vs, e1, e2, e3, e4, e5⟩ := R.owAt h
  refine ⟨a, e1, .lst (sqU (xs := vs) ?_) (dpsS (lend_up R) e3)⟩
  unfold lendG
  rw [if_pos ⟨j, xs, h, e1⟩]; exact e2
mutual
theorem dq_un {G1 G2 : Hp} (h : ∀ b u o, G1 b = some (.frz u o) → G2 b = some (.frz u o)) : ∀ {d : D} {v : V}, noList d = true → Dq K G1 v d → Dq K G2 v d
  | .none, _, _, p => by cases p; exact .non
  | .bool _, _, _, p => by cases p; exact .bl _
  | .int _, _, _, p => by cases p; exact .int _
  | .str _, _, _, p => by cases p; exact .str _
  | .list _, _, n, _ => by simp only [noList] at n; cases n
  | .dict _, _, n, _ => by simp only [noList] at n; cases n
  | .tuple ds, _, n, p => by
    cases p with
    | tup s a =>
      refine .tup ?_ (dqs_un h (by simpa only [noList] using n) a)
      rcases s with ⟨o, e, q⟩ | s
      · exact .inl ⟨o, h _ _ _ e, q⟩
      · exact .inr s
theorem dqs_un {G1 G2 : Hp} (h : ∀ b u o, G1 b = some (.frz u o) → G2 b = some (.frz u o)) : ∀ {ds : List D} {vs : List V}, noLists ds = true → DqAll K G1 vs ds → DqAll K G2 vs ds
  | [], _, _, p => by cases p; exact .nil
  | d :: ds, _, n, p => by
    have n : (noList d && noLists ds) = true := by simpa only [noLists] using n
    rw [Bool.and_eq_true] at n
    cases p with
    | cons a b => exact .cons (dq_un h n.1 a) (dqs_un h n.2 b)
end
theorem lend_back (R : Rel K c G σ H ρ) (g : Grow (lendG G H σ ρ) H G' H') : ∃ G2, Same G G2 ∧ Rel K c G2 σ H' ρ ∧ ∀ v d, noList d = true → Dq K G' v d → Dq K G2 v d := by
  classical
  let G2 : Hp := fun b => if OwS σ ρ b then none else G' b
  have s1 : Same G G2 := fun b o e => by
    show (if OwS σ ρ b then none else G' b) = some o
    by_cases h : OwS σ ρ b
    · rw [(ows_at R h).1] at e; cases e
    · rw [if_neg h]; exact g.g _ _ (lend_up R _ _ e)
  refine ⟨G2, s1, R.ext g.h s1 (fun b o e => ?_) (fun b h1 h2 => ?_), fun v d n p => dq_un (fun b u o e => ?_) n p⟩
  · have e : (if OwS σ ρ b then none else G' b) = some o := e
    by_cases h : OwS σ ρ b
    · rw [if_pos h] at e; cases e
    · rw [if_neg h] at e; exact g.s _ _ e
  · show (if OwS σ ρ b then none else G' b) = none
    by_cases h : OwS σ ρ b
    · rw [if_pos h]
    · rw [if_neg h]
      refine g.n b h1 ?_
      unfold lendG
      rw [if_neg h]; exact h2
  · show (if OwS σ ρ b then none else G' b) = _
    rw [if_neg fun h => ?_]
    · exact e
    · obtain ⟨_, vs, e2⟩ := ows_at R h
      have e3 := g.h _ _ e2
      rw [g.s _ _ e] at e3
      cases e3
end
def LEsO (K : PySem.W.Frag) (bor : List Nat) (tH : TA) (t : TDA) : Prop :=
  ∀ ⦃c : C0⦄ ⦃G : Hp⦄ ⦃σ : L2.St⦄ ⦃H : Hp⦄ ⦃ρ : List Sl⦄ ⦃Qd : List D → List Sl → Prop⦄ ⦃Q : List V → Hp → Prop⦄, c.bor = bor → Rel K c G σ H ρ → t ρ Qd →
    (∀ vs H' G' ρ' ds, Same G G' → Rel K c G' σ H' ρ' → DqAll K (lendG G' H' σ ρ') vs ds → Qd ds ρ' → Q vs H') → tH σ H Q
section
variable {K : PySem.W.Frag} {bor : List Nat} {te : TE} {ta tr tk : TA} {A : TDE} {R : TDA} {is : List Nat}
theorem leso_nil : LEsO K bor tNil dNil := fun {c G σ H ρ Qd Q} hc Rl q k => k _ H G ρ _ (Same.refl _) Rl .nil q
theorem leso_cons (h : LE K bor te A) (hr : LEsO K bor tr R) : LEsO K bor (tCons te tr) (dCons A R) := fun {c G σ H ρ Qd Q} hc Rl q k =>
  h hc Rl q fun v H1 G1 ρ1 d s1 R1 p1 q1 => hr hc R1 q1 fun vs H2 G2 ρ2 ds s2 R2 p2 q2 => k _ H2 G2 ρ2 _ (s1.trans s2) R2 (.cons (dpS (s2.trans (lend_up R2)) p1) p2) q2
def oVar (j : Nat) (R : TDA) : TDA := fun ρ Q => (ownL j ρ).isSome = true ∧ R ρ fun ds ρ2 => ∃ xs, ownL j ρ2 = some xs ∧ Q (.list xs :: ds) ρ2
theorem leso_var {j : Nat} (hr : LEsO K bor tr R) : LEsO K bor (tCons (tVar j) tr) (oVar j R) := fun {c G σ H ρ Qd Q} hc Rl ⟨q0, q⟩ k => by
  obtain ⟨d0, f0⟩ := Option.isSome_iff_exists.mp q0
  obtain ⟨a, e1, _⟩ := lend_own Rl (ownL_some f0)
  refine ⟨_, e1, hr hc Rl q fun vs H2 G2 ρ2 ds s2 R2 p2 ⟨xs, f1, q2⟩ => ?_⟩
  obtain ⟨b, e2, p⟩ := lend_own R2 (ownL_some f1)
  cases refI e1 e2
  exact k _ H2 G2 ρ2 _ s2 R2 (.cons p p2) q2
def dCallO (sem : List D → (Sl → Prop) → Prop) (A : TDA) : TDE := fun ρ Q => A ρ fun ds ρ1 => sem ds fun r => ∃ d, r = .sh d ∧ noList d = true ∧ Q d ρ1
theorem le_callO {sem : List D → (Sl → Prop) → Prop} {E : XK} (h : LEsO K bor ta R) : LE K bor (tCall (sp0 K sem) [] E ta) (dCallO sem R) := fun {c G σ H ρ Qd Q} hc Rl q k =>
  h hc Rl q fun vs H1 G1 ρ1 ds s1 R1 p q1 => by
    rw [List.append_nil]
    refine ⟨_, ds, _, lend_sub R1, p, q1, fun v G' H' r g ok ⟨d, e, fl, q2⟩ => ?_⟩
    subst e
    obtain ⟨G2, s2, R2, back⟩ := lend_back R1 g
    exact k v H' G2 ρ1 d (s1.trans s2) R2 (back v d fl ok) q2

def dCallOI (sem : List D → (Sl → Prop) → Prop) (i : Int) (A : TDA) : TDE := fun ρ Q => A ρ fun ds ρ1 => sem ds fun r => ∃ e d, r = .sh e ∧ oIx e (.int i) = some d ∧ noList d = true ∧ Q d ρ1
def dCallNO (sem : List D → (Sl → Prop) → Prop) (is : List Nat) (A : TDA) : TDE := fun ρ Q => A ρ fun ds ρ1 => sem (pick is ds) fun r => ∃ d, r = .sh d ∧ noList d = true ∧ Q d ρ1
theorem le_callNO {sem : List D → (Sl → Prop) → Prop} {E : XK} (h : LEsO K bor tk R) : LE K bor (tCallN (sp0 K sem) is E tk) (dCallNO sem is R) := fun {c G σ H ρ Qd Q} hc Rl q k =>
  h hc Rl q fun vs H1 G1 ρ1 ds s1 R1 p q1 => by
    refine ⟨_, pick is ds, _, lend_sub R1, dps_pick p is, q1, fun v G' H' r g ok ⟨d, e, fl, q2⟩ => ?_⟩
    subst e
    obtain ⟨G2, s2, R2, back⟩ := lend_back R1 g
    exact k v H' G2 ρ1 d (s1.trans s2) R2 (back v d fl ok) q2
end
end TN
set_option Elab.async false
set_option linter.all false
set_option maxRecDepth 100000
set_option maxHeartbeats 2000000
set_option autoImplicit false
namespace TN
open PySem PySem.Spec PyProof.Rows L2
section
variable {K : PySem.W.Frag} {bor : List Nat} {te : TE}
end
end TN
set_option Elab.async false
set_option linter.all false
set_option maxRecDepth 100000
set_option maxHeartbeats 2000000
set_option autoImplicit false
namespace TN
open PySem PySem.Spec PyProof.Rows L2
section
variable {t h : List Str}
end
end TN
namespace TN
open PySem PySem.Spec PyProof.Rows L2
end TN
namespace TN
open PySem PySem.Spec PyProof.Rows L2
end TN
namespace TN
open PySem PySem.Spec PyProof.Rows L2
section
variable {t h : List Str}
end
end TN
set_option Elab.async false
set_option linter.all false
set_option maxRecDepth 100000
set_option maxHeartbeats 2000000
set_option autoImplicit false
namespace TN
open PySem PySem.Spec PyProof.Rows L2
section
variable {R : Result → Shared → Prop} {St : Nat → Heap → Prop} {P : Nat → Value → Prop} {prog : Program} {w : World} {A : Around} {I : Addr} {fp wr : List Addr} {n : Nat}
end
section
variable {w : World} {prog : Program} {A : Around} {E : Value → Shared → Prop} {s : Shared}
end
end TN
namespace TN
open PySem PySem.Spec PyProof.Rows L2
open PySem.SeqAt
end TN
namespace TN
open PySem PySem.Spec PyProof.Rows L2
end TN
set_option Elab.async false
set_option linter.all false
set_option maxRecDepth 100000
set_option maxHeartbeats 2000000
set_option autoImplicit false
namespace TN
open PySem PySem.Spec PyProof.Rows L2
section
variable {t h : List Str}
end
end TN
namespace TN
open PySem PySem.Spec PyProof.Rows L2
end TN
set_option Elab.async false
set_option linter.all false
set_option maxRecDepth 100000
set_option maxHeartbeats 2000000
set_option autoImplicit false
namespace TN
open PySem PySem.Spec PyProof.Rows L2
structure Folk (t : List Str) (hs : List (List Str)) : Prop where
  gt : GRow t
  ne : hs ≠ []
  few : hs.length ≤ 4
  all : ∀ h ∈ hs, GPair t h
section
variable {Rs : List (List Str)} {r0 : List Str}
end
section
variable {t : List Str} {hs : List (List Str)}
end
end TN
set_option Elab.async false
set_option linter.all false
set_option maxRecDepth 100000
set_option maxHeartbeats 2000000
set_option autoImplicit false
namespace TN
open PySem PySem.Spec PyProof.Rows L2
section
variable {K : PySem.W.Frag} {bor : List Nat} {te ti tx : TE} {ta : TA} {A B : TDE} {f g h : FE} {r : TDA}
end
end TN
set_option Elab.async false
set_option linter.all false
set_option maxRecDepth 100000
set_option maxHeartbeats 2000000
set_option autoImplicit false
namespace TN
open PySem PySem.Spec PyProof.Rows L2
section
variable {X : List Str → Nat → List Str}
end
end TN
set_option Elab.async false
set_option linter.all false
set_option maxRecDepth 100000
set_option maxHeartbeats 2000000
set_option autoImplicit false
namespace TN
open PySem PySem.Spec PyProof.Rows L2
section
variable {ks : List Str} {f f' : Str → Str}
end
end TN
set_option Elab.async false
set_option linter.all false
set_option maxRecDepth 100000
set_option maxHeartbeats 2000000
set_option autoImplicit false
namespace TN
open PySem PySem.Spec PyProof.Rows L2
abbrev Nb := Option Str
def lettersN (h : List Nb) : List Str := h.filterMap id
structure Lrn (t : List Str) (h : List Nb) : Prop where
  few : t.length ≤ 16
  nd : t.Nodup
  isl : ∀ x ∈ t, isL x
  hfew : h.length ≤ 1000
  hnd : (lettersN h).Nodup
  hisl : ∀ x ∈ lettersN h, isL x
  last : h.getLast? ≠ some none
def reachN (h : List Nb) (p : Nat) : List Nb := h ++ List.replicate (p + 1 - h.length) none
def trimN (h : List Nb) : List Nb := (h.reverse.dropWhile fun w => decide (w = none)).reverse
def toFN (h : List Nb) (p : Nat) : List Nb := h.getD p none :: (h.take p ++ h.drop (p + 1))
def takenN (h : List Nb) (p : Nat) : List Nb × Nb := (trimN (toFN (reachN h p) p), (reachN h p).getD p none)

inductive Le where
  | place (p : Nat) | lost (p : Nat) | twice (p : Nat) | named (p : Nat) (x : Str) | new (x : Str) | lostnew (x : Str)
def Le.d : Le → D
  | .place p => .tuple [.str "place", .int p]
  | .lost p => .tuple [.str "lost", .int p]
  | .twice p => .tuple [.str "twice", .int p]
  | .named p x => .tuple [.str "named", .int p, .str x]
  | .new x => .tuple [.str "new", .str x]
  | .lostnew x => .tuple [.str "lostnew", .str x]
theorem trim_len (h : List Nb) : (trimN h).length ≤ h.length := by
  unfold trimN
  rw [List.length_reverse]
  have := (List.dropWhile_sublist (l := h.reverse) fun w => decide (w = none)).length_le
  rw [List.length_reverse] at this
  exact this
theorem reach_len (h : List Nb) (p : Nat) : (reachN h p).length = max h.length (p + 1) := by
  unfold reachN
  rw [List.length_append, List.length_replicate]; omega
theorem oAdd_tpl {a b : List D} (h : a.length + b.length ≤ 100000) : oAdd (.tuple a) (.tuple b) = some (.tuple (a ++ b)) := if_pos h
theorem front_len {h : List Nb} {p : Nat} (hp : p < h.length) : (toFN h p).length = h.length := by
  unfold toFN
  rw [List.length_cons, List.length_append, List.length_take, List.length_drop]; omega
end TN
set_option Elab.async false
set_option linter.all false
set_option maxRecDepth 100000
set_option maxHeartbeats 2000000
set_option autoImplicit false
namespace L2
open PySem PySem.Spec PyProof.Rows
end L2
namespace TN
open PySem PySem.Spec PyProof.Rows L2
section
variable {K : PySem.W.Frag}
theorem dqs_rep {G : Hp} {vs : List V} {ds : List D} (h : DqAll K G vs ds) : ∀ n, DqAll K G (List.replicate n vs).flatten (List.replicate n ds).flatten
  | 0 => .nil
  | n + 1 => by
    rw [List.replicate_succ, List.replicate_succ, List.flatten_cons, List.flatten_cons]
    exact dps_app h (dqs_rep h n)
end
end TN
set_option Elab.async false
set_option linter.all false
set_option maxRecDepth 100000
set_option maxHeartbeats 2000000
set_option autoImplicit false
namespace TN
open PySem PySem.Spec PyProof.Rows L2
def ixN' (x : Str) (h : List Nb) : Nat := h.findIdx fun w => decide (w = some x)
section
variable {K : PySem.W.Frag} {bor : List Nat} {ta tb : TE} {f g : FE}
end
def learnedN (h : List Nb) (p : Nat) (x : Str) : List Nb :=
  let w := reachN h p
  (if some x ∈ w then w.set (ixN' x w) (w.getD p none) else w).set p (some x)
def Le.ok (t : List Str) (h : List Nb) : Le → Prop
  | .place p | .lost p | .twice p => p < t.length
  | .named p x => p < t.length ∧ t.getD p "" = x
  | .new x | .lostnew x => isL x ∧ x ∉ t ∧ some x ∉ h ∧ t.length < 16
def Le.told (t : List Str) : Le → List Str
  | .place p | .lost p | .twice p | .named p _ => toF t p
  | .new x | .lostnew x => x :: t
def Le.heard (h : List Nb) : Le → List Nb × List Nb
  | .lost _ | .lostnew _ => (h, [])
  | .new x => (some x :: h, [some x])
  | .named p x => ((takenN (learnedN h p x) p).1, [some x])
  | .place p => ((takenN h p).1, [(takenN h p).2])
  | .twice p => ((takenN (takenN h p).1 p).1, [(takenN h p).2, (takenN (takenN h p).1 p).2])
end TN
set_option Elab.async false
set_option linter.all false
set_option maxRecDepth 100000
set_option maxHeartbeats 2000000
set_option autoImplicit false
namespace TN
open PySem PySem.Spec PyProof.Rows L2
theorem taken_len (h : List Nb) (p : Nat) : (takenN h p).1.length ≤ max h.length (p + 1) := by
  have h1 := trim_len (toFN (reachN h p) p)
  have h2 := front_len (h := reachN h p) (p := p) (by rw [reach_len]; omega)
  have h3 := reach_len h p
  show (trimN (toFN (reachN h p) p)).length ≤ _
  omega
theorem learned_len (h : List Nb) (p : Nat) (x : Str) : (learnedN h p x).length = max h.length (p + 1) := by
  unfold learnedN
  rw [List.length_set]
  split
  · rw [List.length_set, reach_len]
  · exact reach_len h p
theorem ixN'_lt {x : Str} {h : List Nb} (hm : some x ∈ h) : ixN' x h < h.length := List.findIdx_lt_length.mpr ⟨some x, hm, by simp⟩
end TN
set_option Elab.async false
set_option linter.all false
set_option maxRecDepth 100000
set_option maxHeartbeats 2000000
set_option autoImplicit false
namespace TN
open PySem PySem.Spec PyProof.Rows L2
def okAll : List Str → List Nb → List Le → Prop
  | _, _, [] => True
  | t, h, e :: es => e.ok t h ∧ okAll (e.told t) (e.heard h).1 es
def endL : List Str → List Nb → List Le → List Str × List Nb
  | t, h, [] => (t, h)
  | t, h, e :: es => endL (e.told t) (e.heard h).1 es
theorem told_ok {t : List Str} {h : List Nb} {e : Le} (ok : e.ok t h) (few : t.length ≤ 16) (isl : ∀ x ∈ t, isL x) : (e.told t).length ≤ 16 ∧ ∀ x ∈ e.told t, isL x := by
  have tf : ∀ {p : Nat}, p < t.length → (toF t p).length ≤ 16 ∧ ∀ x ∈ toF t p, isL x := fun {p} hp => by
    have pm := toF_perm hp
    exact ⟨by rw [pm.length_eq]; exact few, fun x hx => isl x (pm.mem_iff.mp hx)⟩
  have nw : ∀ {x : Str}, isL x → t.length < 16 → (x :: t).length ≤ 16 ∧ ∀ y ∈ x :: t, isL y := fun {x} lx hl => by
    refine ⟨by rw [List.length_cons]; omega, fun y hy => ?_⟩
    rcases List.mem_cons.mp hy with rfl | hy
    · exact lx
    · exact isl y hy
  cases e with
  | place p => exact tf ok
  | lost p => exact tf ok
  | twice p => exact tf ok
  | named p x => exact tf ok.1
  | new x => exact nw ok.1 ok.2.2.2
  | lostnew x => exact nw ok.1 ok.2.2.2
theorem heard_len {t : List Str} {h : List Nb} {e : Le} (ok : e.ok t h) (few : t.length ≤ 16) : (e.heard h).1.length ≤ max h.length 16 + 1 ∧ (e.heard h).2.length ≤ 2 := by
  cases e with
  | place p =>
    have hp : p < t.length := ok
    have := taken_len h p
    exact ⟨by show (takenN h p).1.length ≤ _; omega, by show 1 ≤ 2; omega⟩
  | lost p => exact ⟨by show h.length ≤ _; omega, Nat.zero_le _⟩
  | lostnew x => exact ⟨by show h.length ≤ _; omega, Nat.zero_le _⟩
  | new x => exact ⟨by show h.length + 1 ≤ _; omega, by show 1 ≤ 2; omega⟩
  | named p x =>
    have hp : p < t.length := ok.1
    have h1 := taken_len (learnedN h p x) p
    have h2 := learned_len h p x
    exact ⟨by show (takenN (learnedN h p x) p).1.length ≤ _; omega, by show 1 ≤ 2; omega⟩
  | twice p =>
    have hp : p < t.length := ok
    have h1 := taken_len h p
    have h2 := taken_len (takenN h p).1 p
    exact ⟨by show (takenN (takenN h p).1 p).1.length ≤ _; omega, by show 2 ≤ 2; omega⟩
abbrev okN (h : List Nb) : Prop := ∀ x, some x ∈ h → okS x
theorem trim_snoc_none (L : List Nb) : trimN (L ++ [none]) = trimN L := by
  unfold trimN
  rw [List.reverse_append, List.reverse_singleton, List.singleton_append, List.dropWhile_cons_of_pos (by rfl)]
theorem trim_snoc_some (L : List Nb) (x : Str) : trimN (L ++ [some x]) = L ++ [some x] := by
  unfold trimN
  rw [List.reverse_append, List.reverse_singleton, List.singleton_append, List.dropWhile_cons_of_neg (by simp)]
  simp
theorem toFN_mem {W : List Nb} {p : Nat} (hp : p < W.length) {w : Nb} (h : w ∈ toFN W p) : w ∈ W := by
  unfold toFN at h
  rcases List.mem_cons.mp h with rfl | h
  · rw [getD_of hp]; exact List.getElem_mem _
  · rcases List.mem_append.mp h with h | h
    · exact List.mem_of_mem_take h
    · exact List.mem_of_mem_drop h
end TN
set_option Elab.async false
set_option linter.all false
set_option maxRecDepth 100000
set_option maxHeartbeats 2000000
set_option autoImplicit false
namespace TN
open PySem PySem.Spec PyProof.Rows L2
theorem getD_pad (L : List Nb) (n k : Nat) : (L ++ List.replicate n none).getD k none = L.getD k none := by
  rw [List.getD_eq_getElem?_getD, List.getD_eq_getElem?_getD]
  by_cases h : k < L.length
  · rw [List.getElem?_append_left h]
  · rw [List.getElem?_append_right (by omega), List.getElem?_eq_none (by omega : L.length ≤ k)]
    cases q : (List.replicate n (none : Nb))[k - L.length]? with
    | none => rfl
    | some w =>
      have := List.mem_of_getElem? q
      rw [(List.mem_replicate.mp this).2]; rfl

theorem trim_getD (L : List Nb) (k : Nat) : (trimN L).getD k none = L.getD k none := by
  have : ∀ (n : Nat) (L : List Nb), L.length = n → (trimN L).getD k none = L.getD k none := by
    intro n
    induction n with
    | zero =>
      intro L hl
      rw [List.length_eq_zero_iff.mp hl]; rfl
    | succ n ih =>
      intro L hl
      rcases List.eq_nil_or_concat L with rfl | ⟨L', w, rfl⟩
      · cases hl
      rw [List.concat_eq_append] at hl ⊢
      have l1 : L'.length = n := by rw [List.length_append, List.length_singleton] at hl; omega
      cases w with
      | none =>
        rw [trim_snoc_none, ih L' l1]
        exact (getD_pad L' 1 k).symm
      | some x => rw [trim_snoc_some]
  exact this L.length L rfl
theorem toFN_getD (L : List Nb) (p k : Nat) : (toFN L p).getD k none = if k = 0 then L.getD p none else if k ≤ p then L.getD (k - 1) none else L.getD k none := by
  unfold toFN
  cases k with
  | zero => rfl
  | succ k =>
    rw [if_neg (by omega), Nat.add_sub_cancel]
    show (L.take p ++ L.drop (p + 1)).getD k none = _
    rw [List.getD_eq_getElem?_getD]
    by_cases c : k + 1 ≤ p
    · rw [if_pos c]
      by_cases hl : k < L.length
      · rw [List.getElem?_append_left (by rw [List.length_take]; omega), List.getElem?_take_of_lt (by omega), ← List.getD_eq_getElem?_getD]
      · have e1 : (L.take p ++ L.drop (p + 1))[k]? = none := List.getElem?_eq_none (by rw [List.length_append, List.length_take, List.length_drop]; omega)
        rw [e1, List.getD_eq_getElem?_getD, List.getElem?_eq_none (by omega)]
    · rw [if_neg c]
      by_cases hl : p ≤ L.length
      · rw [List.getElem?_append_right (by rw [List.length_take]; omega), List.length_take, List.getElem?_drop, Nat.min_eq_left hl, show p + 1 + (k - p) = k + 1 by omega, ← List.getD_eq_getElem?_getD]
      · have e1 : (L.take p ++ L.drop (p + 1))[k]? = none := List.getElem?_eq_none (by rw [List.length_append, List.length_take, List.length_drop]; omega)
        rw [e1, List.getD_eq_getElem?_getD, List.getElem?_eq_none (by omega)]
theorem reach_getD (h : List Nb) (p k : Nat) : (reachN h p).getD k none = h.getD k none := getD_pad h _ k
theorem getD_set {L : List Nb} {p : Nat} (hp : p < L.length) (w : Nb) (k : Nat) : (L.set p w).getD k none = if k = p then w else L.getD k none := by
  rw [List.getD_eq_getElem?_getD, List.getElem?_set]
  by_cases c : p = k
  · subst c; rw [if_pos rfl, if_pos hp, if_pos rfl]; rfl
  · rw [if_neg c, if_neg (fun z => c z.symm), List.getD_eq_getElem?_getD]
theorem ixN'_app {x : Str} {h r : List Nb} (hm : some x ∈ h) : ixN' x (h ++ r) = ixN' x h := by
  unfold ixN'
  rw [List.findIdx_append, if_pos (List.findIdx_lt_length.mpr ⟨some x, hm, by simp⟩)]
def wideL (W : List Nb) (p : Nat) (x : Str) : List Nb := (if some x ∈ W then W.set (ixN' x W) (W.getD p none) else W).set p (some x)
theorem in_pad {x : Str} {h : List Nb} {n : Nat} : some x ∈ h ++ List.replicate n none ↔ some x ∈ h := by
  rw [List.mem_append]
  exact ⟨fun z => z.elim id (fun z => absurd (List.mem_replicate.mp z).2 (by simp)), fun z => Or.inl z⟩
end TN
set_option Elab.async false
set_option linter.all false
set_option maxRecDepth 100000
set_option maxHeartbeats 2000000
set_option autoImplicit false
namespace TN
open PySem PySem.Spec PyProof.Rows L2
section
variable {X : Cx} {e : Expr} {td : TE} {p pos cpos apos : Pos}
end
section
variable {K : PySem.W.Frag} {bor : List Nat} {te : TE} {A : TDE}
end
section
variable {prog : Program} {w : World} {A : Around} {E : Value → Shared → Prop} {s : Shared}
end
section
variable {X : Cx} {o i : Expr} {td ty : TE}
end
section
variable {K : PySem.W.Frag} {bor : List Nat} {ti td : TE} {f g : FE}
end
section
variable {P : PIt} {K : PySem.W.Frag} {bor : List Nat} {tk tv : TE} {A B : TDE}
end
end TN
set_option Elab.async false
set_option linter.all false
set_option maxRecDepth 100000
set_option maxHeartbeats 2000000
set_option autoImplicit false
namespace TN
open PySem PySem.Spec PyProof.Rows L2
def rdN (t : List Str) (h : List Nb) (x : Str) : Nb := h.getD (ixS x t) none
structure GN (t : List Str) (g : Str → Nb) : Prop where
  few : t.length ≤ 16
  nd : t.Nodup
  isl : ∀ x ∈ t, isL x
  okg : ∀ x ∈ t, ∀ y, g x = some y → isL y
  inj : ∀ x ∈ t, ∀ y ∈ t, g x ≠ none → g x = g y → x = y
theorem letters_mem {x : Str} {h : List Nb} : x ∈ lettersN h ↔ some x ∈ h := by
  unfold lettersN
  rw [List.mem_filterMap]
  exact ⟨fun ⟨a, ha, e⟩ => by rw [show a = some x from e] at ha; exact ha, fun z => ⟨some x, z, rfl⟩⟩
theorem getD_who {h : List Nb} {i : Nat} {y : Str} (e : h.getD i none = some y) : some y ∈ h := by
  rw [List.getD_eq_getElem?_getD] at e
  cases q : h[i]? with
  | none => rw [q] at e; cases e
  | some w =>
    rw [q] at e
    have e : w = some y := e
    rw [← e]; exact List.mem_of_getElem? q
theorem letters_inj : ∀ {h : List Nb}, (lettersN h).Nodup → ∀ {i j : Nat} {y : Str}, h.getD i none = some y → h.getD j none = some y → i = j
  | [], _, i, j, y, e, _ => by cases e
  | none :: h, nd, i, j, y, e1, e2 => by
    cases i with
    | zero => cases e1
    | succ i =>
      cases j with
      | zero => cases e2
      | succ j => rw [letters_inj (h := h) nd (i := i) (j := j) e1 e2]
  | some x :: h, nd, i, j, y, e1, e2 => by
    have nd : (x :: lettersN h).Nodup := nd
    rw [List.nodup_cons] at nd
    cases i with
    | zero =>
      cases j with
      | zero => rfl
      | succ j =>
        have e1 : some x = some y := e1
        injection e1 with e1; subst e1
        exact absurd (letters_mem.mpr (getD_who (h := h) (i := j) e2)) nd.1
    | succ i =>
      cases j with
      | zero =>
        have e2 : some x = some y := e2
        injection e2 with e2; subst e2
        exact absurd (letters_mem.mpr (getD_who (h := h) (i := i) e1)) nd.1
      | succ j => rw [letters_inj (h := h) nd.2 (i := i) (j := j) e1 e2]
theorem GN.of {t : List Str} {h : List Nb} (lr : Lrn t h) : GN t (rdN t h) where
  few := lr.few
  nd := lr.nd
  isl := lr.isl
  okg := fun x hx y e => lr.hisl y (letters_mem.mpr (getD_who e))
  inj := fun x hx y hy n e => by
    cases q : rdN t h x with
    | none => exact absurd q n
    | some z =>
      have q2 : rdN t h y = some z := by rw [← e]; exact q
      have := letters_inj lr.hnd (i := ixS x t) (j := ixS y t) q q2
      rw [← ix_getD hx, ← ix_getD hy, this]
def nxN (t : List Str) (g : Str → Nb) (x : Str) : Option Str := match g x with
  | some y => if y ∈ t then some y else none
  | none => none
theorem nx_some {t : List Str} {g : Str → Nb} {x y : Str} : nxN t g x = some y ↔ g x = some y ∧ y ∈ t := by
  unfold nxN
  cases q : g x with
  | none => simp
  | some z =>
    by_cases c : z ∈ t
    · simp [c]; exact fun e => e ▸ c
    · simp [c]; intro e; subst e; exact c
structure ChN (t : List Str) (g : Str → Nb) (x : Str) (S : List Str) : Prop where
  hd : S.head? = some x
  nd : S.Nodup
  mem : ∀ y ∈ S, y ∈ t
  step : ∀ i (h : i + 1 < S.length), g (S[i]'(by omega)) = some S[i + 1]
section
variable {t : List Str} {g : Str → Nb} {x y : Str} {S : List Str}
theorem ChN.ne (c : ChN t g x S) : 0 < S.length := List.length_pos_iff.mpr fun z => by have := c.hd; rw [z] at this; cases this
theorem ChN.last (c : ChN t g x S) : S.getLastD "" ∈ t := by rw [last_is c.ne]; exact c.mem _ (List.getElem_mem _)
theorem ChN.one (h : x ∈ t) : ChN t g x [x] := ⟨rfl, by simp, fun y hy => by rw [List.mem_singleton.mp hy]; exact h, fun i hi => by simp at hi⟩
theorem ChN.fresh (G : GN t g) (hx : some x ∉ t.map g) (c : ChN t g x S) (h : g (S.getLastD "") = some y) : y ∉ S := by
  intro z
  obtain ⟨j, hj, e⟩ := List.mem_iff_getElem.mp z
  have c0 := c.ne
  cases j with
  | zero =>
    have := c.hd
    rw [List.head?_eq_getElem?, List.getElem?_eq_getElem (by omega)] at this
    injection this with this
    rw [this] at e
    subst e
    exact hx (List.mem_map.mpr ⟨_, c.last, h⟩)
  | succ i =>
    have s := c.step i hj
    rw [e] at s
    have q := G.inj _ (c.mem _ (List.getElem_mem (by omega))) _ c.last (by rw [s]; simp) (s.trans h.symm)
    rw [last_is c0] at q
    have := (List.getElem_inj c.nd).mp q
    omega
theorem ChN.grow (G : GN t g) (hx : some x ∉ t.map g) (c : ChN t g x S) (h : g (S.getLastD "") = some y) (hy : y ∈ t) : ChN t g x (S ++ [y]) where
  hd := by rw [List.head?_append, c.hd]; rfl
  nd := by
    rw [List.nodup_append]
    refine ⟨c.nd, by simp, fun a ha b hb => ?_⟩
    rw [List.mem_singleton.mp hb]
    exact fun z => c.fresh G hx h (z ▸ ha)
  mem := fun z hz => by
    rcases List.mem_append.mp hz with a | a
    · exact c.mem z a
    · rw [List.mem_singleton.mp a]; exact hy
  step := fun i hi => by
    have c0 := c.ne
    have hi2 := hi
    rw [List.length_append, List.length_singleton] at hi2
    by_cases hl : i + 1 < S.length
    · have e1 : (S ++ [y])[i]'(by omega) = S[i] := List.getElem_append_left (by omega)
      have e2 : (S ++ [y])[i + 1] = S[i + 1] := List.getElem_append_left hl
      rw [e1, e2]; exact c.step i hl
    · have : i + 1 = S.length := by omega
      have e1 : (S ++ [y])[i]'(by omega) = S[i] := List.getElem_append_left (by omega)
      have e2 : (S ++ [y])[i + 1] = y := by rw [List.getElem_append_right (by omega)]; simp
      rw [last_is c0] at h
      rw [e1, e2, ← h]
      congr 2
      omega
theorem ChN.few (c : ChN t g x S) : S.length ≤ t.length := c.nd.length_le_of_subset (fun y hy => c.mem y hy)
theorem ChN.full (G : GN t g) (hx : some x ∉ t.map g) (c : ChN t g x S) (h : S.length = t.length) : nxN t g (S.getLastD "") = none := by
  cases q : nxN t g (S.getLastD "") with
  | none => rfl
  | some y =>
    obtain ⟨q1, q2⟩ := nx_some.mp q
    have := (c.grow G hx q1 q2).few
    rw [List.length_append, List.length_singleton] at this
    omega
end
end TN
set_option Elab.async false
set_option linter.all false
set_option maxRecDepth 100000
set_option maxHeartbeats 2000000
set_option autoImplicit false
namespace TN
open PySem PySem.Spec PyProof.Rows L2
end TN
set_option Elab.async false
set_option linter.all false
set_option maxRecDepth 100000
set_option maxHeartbeats 2000000
set_option autoImplicit false
namespace TN
open PySem PySem.Spec PyProof.Rows L2
def Le.kind : Le → Str
  | .place _ => "place"
  | .lost _ => "lost"
  | .twice _ => "twice"
  | .named _ _ => "named"
  | .new _ => "new"
  | .lostnew _ => "lostnew"
end TN
set_option Elab.async false
set_option linter.all false
set_option maxRecDepth 100000
set_option maxHeartbeats 2000000
set_option autoImplicit false
namespace TN
open PySem PySem.Spec PyProof.Rows L2
end TN
set_option Elab.async false
set_option linter.all false
set_option maxRecDepth 100000
set_option maxHeartbeats 2000000
set_option autoImplicit false
namespace TN
open PySem PySem.Spec PyProof.Rows L2
theorem letters_somes (u : List Str) : lettersN (u.map some) = u := by
  unfold lettersN
  induction u with
  | nil => rfl
  | cons a u ih =>
    rw [List.map_cons]
    show a :: List.filterMap id (u.map some) = _
    rw [ih]
theorem last_somes (u : List Str) : (u.map some).getLast? ≠ some none := fun z => by
  have := List.mem_of_getLast? z
  simp at this
theorem Lrn.pair {t u : List Str} (gt : GRow t) (gu : GRow u) : Lrn t (u.map some) :=
  ⟨gt.few, gt.nd, gt.let', by rw [List.length_map]; have := gu.few; omega, by rw [letters_somes]; exact gu.nd, by rw [letters_somes]; exact gu.let', last_somes u⟩
end TN
set_option Elab.async false
set_option linter.all false
set_option maxRecDepth 100000
set_option maxHeartbeats 2000000
set_option autoImplicit false
namespace TN
open PySem PySem.Spec PyProof.Rows L2
section
variable {P : Program} {w : World} {K : PySem.W.Frag} {mg : Str → Option Value} {base : Heap} {name : Str} {k : Nat} {f : Addr} {ps ks : List Str} {pl : List Nat} {sem sem' : List D → (Sl → Prop) → Prop}
theorem sp0_imp (h : ∀ ds Q, sem ds Q → sem' ds Q) : ∀ vs H Q E, sp0 K sem vs H Q E → sp0 K sem' vs H Q E := fun vs H Q E ⟨G, ds, Qd, a, b, c, d⟩ => ⟨G, ds, Qd, a, b, h ds Qd c, d⟩
theorem Has.imp (F : Has P w K mg base name k ps (sp0 K sem')) (h : ∀ ds Q, sem ds Q → sem' ds Q) : Has P w K mg base name k ps (sp0 K sem) := by
  obtain ⟨f, fd, a, b, c, d⟩ := F.ex
  exact ⟨f, fd, a.less (sp0_imp h), b, c, d⟩
theorem HasAt.imp (F : HasAt P w K mg base f k ps (sp0 K sem')) (h : ∀ ds Q, sem ds Q → sem' ds Q) : HasAt P w K mg base f k ps (sp0 K sem) := by
  obtain ⟨fd, a, c, d⟩ := F.ex
  exact ⟨fd, a.less (sp0_imp h), c, d⟩
end
end TN
set_option Elab.async false
set_option linter.all false
set_option maxRecDepth 100000
set_option maxHeartbeats 2000000
set_option autoImplicit false
namespace TN
open PySem PySem.Spec PyProof.Rows L2
section
variable {ks : List Str} {f f' : Str → Str}
end
def Ev.le : Ev → Le
  | .lost p => .lost p
  | .twice p => .twice p
  | .place p => .place p
  | .name _ => .place 0
  | .as' _ _ => .place 0
section
variable {t h : List Str} {x : Str}
end
end TN
namespace TN
open PySem PySem.Spec PyProof.Rows L2
end TN
namespace TN
open PySem PySem.Spec PyProof.Rows L2
end TN
set_option Elab.async false
set_option linter.all false
set_option maxRecDepth 100000
set_option maxHeartbeats 2000000
set_option autoImplicit false
namespace TN
open PySem PySem.Spec PyProof.Rows L2
inductive EndsN (t : List Str) (g : Str → Nb) : Str → Prop
  | stop {y : Str} : nxN t g y = none → EndsN t g y
  | step {y z : Str} : nxN t g y = some z → EndsN t g z → EndsN t g y
section
variable {t : List Str} {g g' : Str → Nb} {x y z : Str}
structure NamedN (t : List Str) (g : Str → Nb) (x : Str) (g' : Str → Nb) : Prop where
  here : g' x = some x
  back : ∀ y ∈ t, y ≠ x → g y = some x → g' y = g x
  else' : ∀ y ∈ t, y ≠ x → g y ≠ some x → g' y = g y
end
section
variable {t t' : List Str} {g g' : Str → Nb} {x : Str}
theorem GN.congr (G : GN t g) (p : t'.Perm t) (e : ∀ y ∈ t, g' y = g y) : GN t' g' where
  few := by rw [p.length_eq]; exact G.few
  nd := p.nodup_iff.mpr G.nd
  isl := fun y hy => G.isl y (p.mem_iff.mp hy)
  okg := fun y hy w q => G.okg y (p.mem_iff.mp hy) w (by rw [← e y (p.mem_iff.mp hy)]; exact q)
  inj := fun y hy w hw n q => by
    have hy := p.mem_iff.mp hy
    have hw := p.mem_iff.mp hw
    rw [e y hy] at n q
    rw [e w hw] at q
    exact G.inj y hy w hw n q
end
end TN
set_option Elab.async false
set_option linter.all false
set_option maxRecDepth 100000
set_option maxHeartbeats 2000000
set_option autoImplicit false
namespace TN
open PySem PySem.Spec PyProof.Rows L2
section
variable {ks ks' : List Str} {f f' : Str → Str} {x : Str}
end
section
variable {t : List Str} {g g' : Str → Nb} {x y : Str}
end
end TN
set_option Elab.async false
set_option linter.all false
set_option maxRecDepth 100000
set_option maxHeartbeats 2000000
set_option autoImplicit false
namespace TN
open PySem PySem.Spec PyProof.Rows L2
def InjN (h : List Nb) : Prop := ∀ i j y, h.getD i none = some y → h.getD j none = some y → i = j
abbrev IslN (h : List Nb) : Prop := ∀ y, some y ∈ h → isL y
theorem mem_getD {h : List Nb} {y : Str} (m : some y ∈ h) : ∃ i, h.getD i none = some y := by
  obtain ⟨i, hi, e⟩ := List.mem_iff_getElem.mp m
  exact ⟨i, by rw [getD_of hi, e]⟩
theorem inj_nd : ∀ {h : List Nb}, InjN h → (lettersN h).Nodup
  | [], _ => List.nodup_nil
  | none :: h, I => inj_nd (h := h) fun i j y e1 e2 => by have := I (i + 1) (j + 1) y e1 e2; omega
  | some x :: h, I => by
    show (x :: lettersN h).Nodup
    rw [List.nodup_cons]
    refine ⟨fun m => ?_, inj_nd (h := h) fun i j y e1 e2 => by have := I (i + 1) (j + 1) y e1 e2; omega⟩
    obtain ⟨i, e⟩ := mem_getD (letters_mem.mp m)
    have := I 0 (i + 1) x rfl e
    omega
theorem Lrn.injN {t : List Str} {h : List Nb} (lr : Lrn t h) : InjN h := fun i j y e1 e2 => letters_inj lr.hnd e1 e2
theorem Lrn.islN {t : List Str} {h : List Nb} (lr : Lrn t h) : IslN h := fun y m => lr.hisl y (letters_mem.mpr m)
theorem Lrn.okN {t : List Str} {h : List Nb} (lr : Lrn t h) : okN h := fun y m => (lr.islN y m).ok
theorem trim_last (L : List Nb) : (trimN L).getLast? ≠ some none := by
  unfold trimN
  rw [List.getLast?_reverse]
  intro z
  have := List.head?_dropWhile_not (fun w : Nb => decide (w = none)) L.reverse
  rw [z] at this
  simp at this
theorem Lrn.mk' {t : List Str} {h : List Nb} (few : t.length ≤ 16) (nd : t.Nodup) (isl : ∀ x ∈ t, isL x) (hf : h.length ≤ 1000) (I : InjN h) (l : IslN h) (la : h.getLast? ≠ some none) : Lrn t h :=
  ⟨few, nd, isl, hf, inj_nd I, fun x hx => l x (letters_mem.mp hx), la⟩
theorem taken_inj {h : List Nb} (I : InjN h) (p : Nat) : InjN (takenN h p).1 := fun i j y e1 e2 => by
  have ea : ∀ k, (takenN h p).1.getD k none = h.getD (if k = 0 then p else if k ≤ p then k - 1 else k) none := fun k => by
    show (trimN (toFN (reachN h p) p)).getD k none = _
    rw [trim_getD, toFN_getD]
    simp only [reach_getD]
    split
    · rfl
    · split <;> rfl
  rw [ea] at e1 e2
  have := I _ _ y e1 e2
  repeat' split at this
  all_goals omega
theorem trim_mem {L : List Nb} {y : Str} (m : some y ∈ trimN L) : some y ∈ L := by
  obtain ⟨i, e⟩ := mem_getD m
  rw [trim_getD] at e
  exact getD_who e
theorem taken_mem {h : List Nb} {p : Nat} {y : Str} (m : some y ∈ (takenN h p).1) : some y ∈ h :=
  in_pad.mp (toFN_mem (W := reachN h p) (by rw [reach_len]; omega) (trim_mem m))
theorem ixN'_getD {x : Str} {h : List Nb} (m : some x ∈ h) : h.getD (ixN' x h) none = some x := by
  rw [getD_of (ixN'_lt m)]
  exact of_decide_eq_true (p := h[ixN' x h]'(ixN'_lt m) = some x) (List.findIdx_getElem (w := ixN'_lt m))

theorem learned_getD {h : List Nb} {p : Nat} {x : Str} (k : Nat) : (learnedN h p x).getD k none = if k = p then some x else if some x ∈ h ∧ k = ixN' x h then h.getD p none else h.getD k none := by
  have rl := reach_len h p
  show (wideL (reachN h p) p x).getD k none = _
  unfold wideL
  by_cases m : some x ∈ h
  · have m2 : some x ∈ reachN h p := in_pad.mpr m
    have i2 : ixN' x (reachN h p) = ixN' x h := ixN'_app m
    have lt := ixN'_lt m
    rw [if_pos m2, i2, getD_set (by rw [List.length_set]; omega), getD_set (by omega), reach_getD, reach_getD]
    simp only [m, true_and]
  · have m2 : some x ∉ reachN h p := fun z => m (in_pad.mp z)
    rw [if_neg m2, getD_set (by omega), reach_getD]
    simp only [m, false_and, if_false]
theorem learned_inj {h : List Nb} (I : InjN h) (p : Nat) (x : Str) : InjN (learnedN h p x) := fun i j y e1 e2 => by
  rw [learned_getD] at e1 e2
  by_cases m : some x ∈ h
  · have gx := ixN'_getD m
    simp only [m, true_and] at e1 e2
    have one : ∀ k, h.getD k none = some x → k = ixN' x h := fun k e => I _ _ x e gx
    by_cases a1 : i = p
    · by_cases b1 : j = p
      · omega
      · rw [if_pos a1] at e1; rw [if_neg b1] at e2
        injection e1 with e1; subst e1
        by_cases b2 : j = ixN' x h
        · rw [if_pos b2] at e2
          have := one p e2; omega
        · rw [if_neg b2] at e2
          exact absurd (one j e2) b2
    · rw [if_neg a1] at e1
      by_cases b1 : j = p
      · rw [if_pos b1] at e2
        injection e2 with e2; subst e2
        by_cases a2 : i = ixN' x h
        · rw [if_pos a2] at e1
          have := one p e1; omega
        · rw [if_neg a2] at e1
          exact absurd (one i e1) a2
      · rw [if_neg b1] at e2
        by_cases a2 : i = ixN' x h
        · by_cases b2 : j = ixN' x h
          · omega
          · rw [if_pos a2] at e1; rw [if_neg b2] at e2
            exact absurd (I _ _ y e1 e2).symm b1
        · rw [if_neg a2] at e1
          by_cases b2 : j = ixN' x h
          · rw [if_pos b2] at e2
            exact absurd (I _ _ y e1 e2) a1
          · rw [if_neg b2] at e2
            exact I _ _ y e1 e2
  · have no : ∀ k, h.getD k none ≠ some x := fun k e => m (getD_who e)
    simp only [m, false_and, if_false] at e1 e2
    by_cases a1 : i = p
    · by_cases b1 : j = p
      · omega
      · rw [if_pos a1] at e1; rw [if_neg b1] at e2
        injection e1 with e1; subst e1
        exact absurd e2 (no j)
    · rw [if_neg a1] at e1
      by_cases b1 : j = p
      · rw [if_pos b1] at e2
        injection e2 with e2; subst e2
        exact absurd e1 (no i)
      · rw [if_neg b1] at e2
        exact I _ _ y e1 e2
theorem learned_isl {h : List Nb} (l : IslN h) {p : Nat} {x : Str} (lx : isL x) : IslN (learnedN h p x) := fun y m => by
  obtain ⟨k, e⟩ := mem_getD m
  rw [learned_getD] at e
  split at e
  · injection e with e; exact e ▸ lx
  · split at e
    · exact l y (getD_who e)
    · exact l y (getD_who e)

theorem Lrn.next {t : List Str} {h : List Nb} {e : Le} (lr : Lrn t h) (ok : e.ok t h) (hf : h.length ≤ 900) : Lrn (e.told t) (e.heard h).1 := by
  have tk := told_ok ok lr.few lr.isl
  have hl := heard_len (h := h) ok lr.few
  have tf := lr.few
  have nd : (e.told t).Nodup := by
    cases e with
    | new x => exact List.nodup_cons.mpr ⟨ok.2.1, lr.nd⟩
    | lostnew x => exact List.nodup_cons.mpr ⟨ok.2.1, lr.nd⟩
    | named p x => exact (toF_perm ok.1).nodup_iff.mpr lr.nd
    | place p => exact (toF_perm (show p < t.length from ok)).nodup_iff.mpr lr.nd
    | lost p => exact (toF_perm (show p < t.length from ok)).nodup_iff.mpr lr.nd
    | twice p => exact (toF_perm (show p < t.length from ok)).nodup_iff.mpr lr.nd
  have I := lr.injN
  have l := lr.islN
  refine .mk' tk.1 nd tk.2 (by omega) ?_ ?_ ?_
  · cases e with
    | lost p => exact I
    | lostnew x => exact I
    | place p => exact taken_inj I p
    | twice p => exact taken_inj (taken_inj I p) p
    | named p x => exact taken_inj (learned_inj I p x) p
    | new x =>
      have nx : some x ∉ h := ok.2.2.1
      intro i j y e1 e2
      cases i with
      | zero =>
        cases j with
        | zero => rfl
        | succ j =>
          have e1 : some x = some y := e1
          injection e1 with e1; subst e1
          exact absurd (getD_who (h := h) (i := j) e2) nx
      | succ i =>
        cases j with
        | zero =>
          have e2 : some x = some y := e2
          injection e2 with e2; subst e2
          exact absurd (getD_who (h := h) (i := i) e1) nx
        | succ j => rw [I i j y e1 e2]
  · cases e with
    | lost p => exact l
    | lostnew x => exact l
    | place p => exact fun y m => l y (taken_mem m)
    | twice p => exact fun y m => l y (taken_mem (taken_mem m))
    | named p x =>
      have lx : isL x := by
        have e := ok.2
        rw [getD_of ok.1] at e
        exact lr.isl x (e ▸ List.getElem_mem ok.1)
      exact fun y m => learned_isl l lx y (taken_mem m)
    | new x =>
      intro y m
      rcases List.mem_cons.mp m with e | m
      · injection e with e; exact e ▸ ok.1
      · exact l y m
  · cases e with
    | lost p => exact lr.last
    | lostnew x => exact lr.last
    | place p => exact trim_last _
    | twice p => exact trim_last _
    | named p x => exact trim_last _
    | new x =>
      show (some x :: h).getLast? ≠ some none
      cases h with
      | nil => intro z; cases z
      | cons a h => rw [List.getLast?_cons_cons]; exact lr.last
theorem Lrn.run : ∀ {es : List Le} {t : List Str} {h : List Nb}, Lrn t h → okAll t h es → max h.length 16 + es.length ≤ 900 → Lrn (endL t h es).1 (endL t h es).2 ∧ (endL t h es).2.length ≤ max h.length 16 + es.length
  | [], t, h, lr, _, _ => ⟨lr, by show h.length ≤ _; omega⟩
  | e :: es, t, h, lr, ⟨oe, os⟩, hf => by
    rw [List.length_cons] at hf
    have hl := heard_len (h := h) oe lr.few
    obtain ⟨a, b⟩ := Lrn.run (es := es) (lr.next oe (by omega)) os (by omega)
    refine ⟨a, ?_⟩
    show (endL (e.told t) (e.heard h).1 es).2.length ≤ _
    rw [List.length_cons]; omega

section
variable {t : List Str} {h : List Nb} {x : Str}
end
end TN
set_option Elab.async false
set_option linter.all false
set_option maxRecDepth 100000
set_option maxHeartbeats 2000000
set_option autoImplicit false
namespace TN
open PySem PySem.Spec PyProof.Rows L2
inductive Any : Nat → D → Prop
  | none {k : Nat} : Any k .none
  | bool {k : Nat} (b : Bool) : Any k (.bool b)
  | int {k : Nat} (i : Int) : Any k (.int i)
  | str {k : Nat} {x : Str} (h : okS x) (few : x.cps.size ≤ 100000) : Any k (.str x)
  | list {k : Nat} {xs : List D} (h : ∀ x ∈ xs, Any k x) (few : xs.length ≤ 1000) : Any (k + 1) (.list xs)
  | tuple {k : Nat} {xs : List D} (h : ∀ x ∈ xs, Any k x) (few : xs.length ≤ 1000) : Any (k + 1) (.tuple xs)
  | nod {k : Nat} : Any k (.dict [])
end TN
namespace TN
open PySem PySem.Spec PyProof.Rows L2
end TN
namespace TN
open PySem PySem.Spec PyProof.Rows L2
end TN
namespace TN
open PySem PySem.Spec PyProof.Rows L2
end TN
namespace TN
open PySem PySem.Spec PyProof.Rows L2
end TN
namespace TN
open PySem PySem.Spec PyProof.Rows L2
end TN
namespace TN
open PySem PySem.Spec PyProof.Rows L2
end TN
namespace TN
open PySem PySem.Spec PyProof.Rows L2
end TN
set_option Elab.async false
set_option linter.all false
set_option maxRecDepth 100000
set_option maxHeartbeats 2000000
set_option autoImplicit false
namespace TN
open PySem PySem.Spec PyProof.Rows L2
def tRgTup (te : L2.St → Hp → (Int → Int → Hp → Prop) → Prop) : TE := fun σ H Q => te σ H fun a b H1 => L2.RgOk a b ∧ ∀ (q : Addr) (o : Obj), o.dict = none → H1 q = none → Q (.ref q) (upd H1 q (.frz o (.tup (rgV a b))))
theorem pe_rgTup {X : Cx} {e : Expr} {te : L2.St → Hp → (Int → Int → Hp → Prop) → Prop} {p pos : Pos} (calm : X.calm = true) (gl : Gl X "tuple") (mg : X.mg "tuple" = none) (rg : PRg X e te)
    (one : starEach [e] X.env = (false, eval e X.env) :: starEach [] X.env := by rfl) : PE X (.Call (.Name "tuple" p) [e] [] pos) (tRgTup te) := by
  constructor
  intro pins s σ H Q I hq
  refine Call_ (ld_blt I gl mg boot_tuple ?_)
  refine PyProof.Rows.callWith_type1 ?_ one
  refine args_cons ?_ one
  refine thn (rg pins s σ H _ I hq) ?_
  rintro x s1 ⟨r, a, b, t, u, v, H1, rfl, isr, I1, ⟨b1, b2, b3, b4, b5⟩, q⟩
  refine args_nil ?_
  refine call_tuple_range (n := (b - a).toNat) (I1.ok.hd calm) isr (small_one b1 b2 b3 b4) (rangeSize_nat a b) b5 ?_
  intro h' tk acc old items
  have I2 : Inv X pins σ H1 { s1 with heap := h', toks := tk } := I1.kept old
  have few : (rgV a b).length ≤ sizeLine := by
    rw [rgV_length, sizeLine_eq]
    omega
  have laid := tup_laid I2 (vals_rg items) few
  rw [Array.toArray_toList] at laid
  exact ⟨.ref h'.objs.size, _, laid, rfl, q _ _ rfl (I2.hok.fresh (Nat.le_refl _))⟩
section
variable {K : PySem.W.Frag} {bor : List Nat} {te : TE} {A : TDE}
theorem dq_rng {K : PySem.W.Frag} {G : Hp} : ∀ L : List Nat, DqAll K G (L.map fun i => V.int (0 + (i : Nat))) (L.map fun (i : Nat) => PyData.int i)
  | [] => .nil
  | i :: L => .cons (by show Dq K G (V.int (0 + (i : Nat))) (.int (i : Nat)); rw [Int.zero_add]; exact .int _) (dq_rng L)

def dRgTup (A : TDE) : TDE := fun ρ Q => A ρ fun d ρ1 => ∃ n : Nat, d = .int n ∧ n ≤ 1000 ∧ Q (.tuple ((List.range n).map fun (i : Nat) => PyData.int i)) ρ1
theorem le_rgTup (h : LE K bor te A) : LE K bor (tRgTup (tRg1 te)) (dRgTup A) := fun {c G σ H ρ Qd Q} hc R q k =>
  h hc R q fun v H1 G1 ρ1 d s1 R1 p1 ⟨n, e, few, q1⟩ => by
    subst e
    cases p1
    refine ⟨n, rfl, L2.RgOk.of_le (a := 0) (b := (n : Int)) (by omega) (by omega) (by omega) (by omega), fun p o hd hp => ?_⟩
    have g2 := grow_new (o := .frz o (.tup (rgV 0 n))) R1.sub hp
    refine k _ _ _ _ _ (s1.trans g2.g) (R1.grow g2) (.tup (.inl ⟨o, upd_same, hd⟩) ?_) q1
    unfold rgV
    rw [show ((n : Int) - 0).toNat = n by omega]
    exact dq_rng _
end
def oDivW : F2 := fun d e => match d, e with
  | .int i, .int j => if 0 < j ∧ j.natAbs < 2 ^ 400 then some (.int (i / j)) else none
  | _, _ => none
theorem rb_divW {K : PySem.W.Frag} : RB K (rI CDivW fun i j => .int (i / j)) oDivW := rb_I fun d e z h => by
  unfold oDivW at h; split at h
  · split at h
    · rename_i i j hc
      injection h with h
      exact ⟨_, _, rfl, rfl, wide_div hc.1 hc.2 (by decide) (by decide), .inl ⟨_, rfl, h.symm⟩⟩
    · cases h
  · cases h
end TN
set_option Elab.async false
set_option linter.all false
set_option maxRecDepth 100000
set_option maxHeartbeats 2000000
set_option autoImplicit false
namespace TN
open PySem PySem.Spec PyProof.Rows L2
section
variable {α β : Type}
def toA (r : List α) (p : Nat) : List α := r[p]?.toList ++ (r.take p ++ r.drop (p + 1))
theorem toA_map (f : α → β) (r : List α) (p : Nat) : toA (r.map f) p = (toA r p).map f := by
  unfold toA
  rw [List.getElem?_map, List.map_append, List.map_append, List.map_take, List.map_drop]
  cases r[p]? <;> rfl
theorem toA_perm {r : List α} {p : Nat} (h : p < r.length) : (toA r p).Perm r := by
  unfold toA
  rw [List.getElem?_eq_getElem h]
  show (r[p] :: (r.take p ++ r.drop (p + 1))).Perm r
  refine List.Perm.trans List.perm_middle.symm ?_
  rw [← List.drop_eq_getElem_cons h, List.take_append_drop]
theorem toA_len {r : List α} {p : Nat} (h : p < r.length) : (toA r p).length = r.length := (toA_perm h).length_eq
def Ev.pl : Ev → Nat
  | .place p | .lost p | .twice p | .as' p _ => p
  | .name _ => 0
def Ev.tk : Ev → List Nat
  | .place p => [p]
  | .twice p => [p, p]
  | .as' _ q => [q]
  | .lost _ | .name _ => []
def Ev.okN (n : Nat) : Ev → Prop
  | .place p | .lost p | .twice p => p < n
  | .as' p q => p < n ∧ q < n ∧ p ≠ q
  | .name _ => False
theorem Ev.pl_lt {n : Nat} {e : Ev} (h : e.okN n) : e.pl < n := by
  cases e with
  | name x => cases h
  | as' p q => exact h.1
  | _ p => exact h
theorem Ev.tk_lt {n : Nat} {e : Ev} (h : e.okN n) : ∀ p ∈ e.tk, p < n := by
  cases e with
  | name x => cases h
  | as' p q => intro x hx; rw [List.mem_singleton.mp hx]; exact h.2.1
  | lost p => intro x hx; cases hx
  | place p => intro x hx; rw [List.mem_singleton.mp hx]; exact h
  | twice p =>
    intro x hx
    rcases List.mem_cons.mp hx with rfl | hx
    · exact h
    · rw [List.mem_singleton.mp hx]; exact h
theorem Ev.tk_few (e : Ev) : e.tk.length ≤ 2 := by cases e <;> simp [Ev.tk]
def takeA : List α → List Nat → List α × List α
  | r, [] => (r, [])
  | r, p :: ps => ((takeA (toA r p) ps).1, r[p]?.toList ++ (takeA (toA r p) ps).2)
def ledT : List α → List Ev → List α × List α
  | r, [] => (r, [])
  | r, e :: es => ((ledT (toA r e.pl) es).1, r[e.pl]?.toList ++ (ledT (toA r e.pl) es).2)
def ledH : List α → List Ev → List α × List α
  | r, [] => (r, [])
  | r, e :: es => ((ledH (takeA r e.tk).1 es).1, (takeA r e.tk).2 ++ (ledH (takeA r e.tk).1 es).2)
theorem takeA_map (f : α → β) : ∀ (ps : List Nat) (r : List α), (takeA (r.map f) ps).1 = (takeA r ps).1.map f
  | [], _ => rfl
  | p :: ps, r => by
    show (takeA (toA (r.map f) p) ps).1 = (takeA (toA r p) ps).1.map f
    rw [toA_map, takeA_map f ps]
theorem ledT_map (f : α → β) : ∀ (es : List Ev) (r : List α), (ledT (r.map f) es).1 = (ledT r es).1.map f
  | [], _ => rfl
  | e :: es, r => by
    show (ledT (toA (r.map f) e.pl) es).1 = (ledT (toA r e.pl) es).1.map f
    rw [toA_map, ledT_map f es]
theorem ledH_map (f : α → β) : ∀ (es : List Ev) (r : List α), (ledH (r.map f) es).1 = (ledH r es).1.map f
  | [], _ => rfl
  | e :: es, r => by
    show (ledH (takeA (r.map f) e.tk).1 es).1 = (ledH (takeA r e.tk).1 es).1.map f
    rw [takeA_map, ledH_map f es]
theorem takeA_perm : ∀ (ps : List Nat) (r : List α), (∀ p ∈ ps, p < r.length) → (takeA r ps).1.Perm r ∧ (takeA r ps).2.length = ps.length
  | [], r, _ => ⟨List.Perm.refl _, rfl⟩
  | p :: ps, r, h => by
    have hp := h p List.mem_cons_self
    obtain ⟨a, b⟩ := takeA_perm ps (toA r p) fun x hx => by rw [toA_len hp]; exact h x (List.mem_cons_of_mem _ hx)
    refine ⟨a.trans (toA_perm hp), ?_⟩
    show (r[p]?.toList ++ (takeA (toA r p) ps).2).length = _
    rw [List.length_append, b, List.getElem?_eq_getElem hp]
    show 1 + ps.length = ps.length + 1
    omega
theorem ledT_perm : ∀ (es : List Ev) (r : List α), (∀ e ∈ es, e.okN r.length) → (ledT r es).1.Perm r
  | [], r, _ => List.Perm.refl _
  | e :: es, r, h => by
    have hp := Ev.pl_lt (h e List.mem_cons_self)
    exact (ledT_perm es (toA r e.pl) fun x hx => by rw [toA_len hp]; exact h x (List.mem_cons_of_mem _ hx)).trans (toA_perm hp)
theorem ledH_perm : ∀ (es : List Ev) (r : List α), (∀ e ∈ es, e.okN r.length) → (ledH r es).1.Perm r
  | [], r, _ => List.Perm.refl _
  | e :: es, r, h => by
    obtain ⟨a, _⟩ := takeA_perm e.tk r (Ev.tk_lt (h e List.mem_cons_self))
    exact (ledH_perm es (takeA r e.tk).1 fun x hx => by rw [a.length_eq]; exact h x (List.mem_cons_of_mem _ hx)).trans a
theorem ledT_app : ∀ (es fs : List Ev) (r : List α), (ledT r (es ++ fs)).1 = (ledT (ledT r es).1 fs).1
  | [], _, _ => rfl
  | e :: es, fs, r => ledT_app es fs (toA r e.pl)
theorem ledH_app : ∀ (es fs : List Ev) (r : List α), (ledH r (es ++ fs)).1 = (ledH (ledH r es).1 fs).1
  | [], _, _ => rfl
  | e :: es, fs, r => ledH_app es fs (takeA r e.tk).1
end
def itF (f : Nat → Nat) : Nat → Nat → Nat
  | 0, x => x
  | k + 1, x => f (itF f k x)
theorem itF_add (f : Nat → Nat) (x : Nat) (a : Nat) : ∀ b, itF f (b + a) x = itF f b (itF f a x)
  | 0 => by rw [Nat.zero_add]; rfl
  | b + 1 => by rw [show b + 1 + a = (b + a) + 1 by omega]; show f (itF f (b + a) x) = f (itF f b (itF f a x)); rw [itF_add f x a b]
theorem itF_mul {f : Nat → Nat} {x L : Nat} (h : itF f L x = x) : ∀ q, itF f (L * q) x = x
  | 0 => rfl
  | q + 1 => by rw [show L * (q + 1) = L * q + L by rw [Nat.mul_succ], itF_add, h, itF_mul h q]
theorem itF_mod {f : Nat → Nat} {x L : Nat} (h : itF f L x = x) (m : Nat) : itF f (m % L) x = itF f m x := by
  have e : m = m % L + L * (m / L) := (Nat.mod_add_div m L).symm
  conv => rhs; rw [e]
  rw [itF_add, itF_mul h]

structure Tn (a : List Nat) (n : Nat) : Prop where
  len : a.length = n
  lt : ∀ x ∈ a, x < n
  nd : a.Nodup
abbrev tf (a : List Nat) (k : Nat) : Nat := a.getD k 0
section
variable {a : List Nat} {n : Nat}
theorem Tn.at' (T : Tn a n) {k : Nat} (h : k < n) : tf a k < n := by
  have hk : k < a.length := by rw [T.len]; exact h
  unfold tf
  rw [List.getD_eq_getElem?_getD, List.getElem?_eq_getElem hk]
  exact T.lt _ (List.getElem_mem hk)
theorem Tn.inj (T : Tn a n) {j k : Nat} (hj : j < n) (hk : k < n) (e : tf a j = tf a k) : j = k := by
  have h1 : j < a.length := by rw [T.len]; exact hj
  have h2 : k < a.length := by rw [T.len]; exact hk
  unfold tf at e
  rw [List.getD_eq_getElem?_getD, List.getD_eq_getElem?_getD, List.getElem?_eq_getElem h1, List.getElem?_eq_getElem h2] at e
  exact (List.getElem_inj T.nd).mp e
theorem Tn.it (T : Tn a n) {x : Nat} (hx : x < n) : ∀ k, itF (tf a) k x < n
  | 0 => hx
  | k + 1 => T.at' (T.it hx k)
theorem Tn.back (T : Tn a n) {x : Nat} (hx : x < n) : ∀ (i d : Nat), itF (tf a) i x = itF (tf a) (d + i) x → itF (tf a) d x = x
  | 0, d, e => e.symm
  | i + 1, d, e => T.back hx i d (T.inj (T.it hx i) (T.it hx (d + i)) e)

structure Per (f : Nat → Nat) (x L : Nat) : Prop where
  pos : 0 < L
  back : itF f L x = x
  first : ∀ m, 0 < m → m < L → itF f m x ≠ x
theorem per_least {f : Nat → Nat} {x : Nat} : ∀ N, (∃ L, 0 < L ∧ L ≤ N ∧ itF f L x = x) → ∃ L, L ≤ N ∧ Per f x L
  | 0, ⟨L, h1, h2, _⟩ => by omega
  | N + 1, ⟨L, h1, h2, h3⟩ => by
    by_cases c : ∃ L, 0 < L ∧ L ≤ N ∧ itF f L x = x
    · obtain ⟨M, m1, m2⟩ := per_least N c
      exact ⟨M, by omega, m2⟩
    · exact ⟨L, h2, h1, h3, fun m m0 m1 e => c ⟨m, m0, by omega, e⟩⟩
theorem Tn.per (T : Tn a n) {x : Nat} (hx : x < n) : ∃ L, L ≤ n ∧ Per (tf a) x L := by
  apply per_least
  have dup : ¬ ((List.range (n + 1)).map fun k => itF (tf a) k x).Nodup := fun nd => by
    have := nd.length_le_of_subset (l₂ := List.range n) fun y hy => by
      obtain ⟨k, _, rfl⟩ := List.mem_map.mp hy
      exact List.mem_range.mpr (T.it hx k)
    rw [List.length_map, List.length_range, List.length_range] at this
    omega
  refine Classical.byContradiction fun no => dup ?_
  unfold List.Nodup
  rw [List.pairwise_map]
  refine (List.pairwise_lt_range (n := n + 1)).imp_of_mem fun {i j} hi hj lt e => no ⟨j - i, by omega, by have := List.mem_range.mp hj; omega, T.back hx i (j - i) ?_⟩
  rw [show j - i + i = j by omega]; exact e
end
def orb (f : Nat → Nat) (L x : Nat) : List Nat := (List.range L).map fun k => itF f k x
theorem orb_len (f : Nat → Nat) (L x : Nat) : (orb f L x).length = L := by unfold orb; rw [List.length_map, List.length_range]
theorem orb_snoc (f : Nat → Nat) (m x : Nat) : orb f (m + 1) x = orb f m x ++ [itF f m x] := by unfold orb; rw [List.range_succ, List.map_append]; rfl
theorem Tn.of {a : List Nat} {n : Nat} (p : a.Perm (List.range n)) : Tn a n := ⟨by rw [p.length_eq, List.length_range], fun x hx => List.mem_range.mp (p.mem_iff.mp hx), p.nodup_iff.mpr List.nodup_range⟩

def far {α : Type} (r : List α) (f : Nat → Nat) (m : Nat) : List α := (List.range r.length).flatMap fun x => r[itF f m x]?.toList
end TN
set_option Elab.async false
set_option linter.all false
set_option maxRecDepth 100000
set_option maxHeartbeats 2000000
set_option autoImplicit false
namespace TN
open PySem PySem.Spec PyProof.Rows L2
abbrev intsD (a : List Nat) : List D := a.map fun (k : Nat) => PyData.int k
def evsN (n : Nat) (es : List Ev) : Prop := ∀ e ∈ es, e.okN n
def semFrontD (ds : List D) (Q : Sl → Prop) : Prop := ∃ (r : List D) (p : Nat), ds = [.tuple r, .int p] ∧ p < r.length ∧ r.length ≤ 1000 ∧ Q (.sh (.tuple (toA r p)))
def semToldD (ds : List D) (Q : Sl → Prop) : Prop := ∃ (r : List D) (e : Ev) (n : Nat), ds = [.tuple r, e.d] ∧ e.okN n ∧ Q (.sh (.int e.pl))
def semHeardD (ds : List D) (Q : Sl → Prop) : Prop := ∃ (r : List D) (e : Ev) (n : Nat), ds = [.tuple r, e.d] ∧ e.okN n ∧ Q (.sh (.list (intsD e.tk)))
def semGoneD (ds : List D) (Q : Sl → Prop) : Prop := ∃ (t h : List D) (es : List Ev), ds = [.tuple [.tuple t, .tuple h], .list (es.map Ev.d)] ∧ t.length ≤ 16 ∧ h.length = t.length ∧ evsN t.length es ∧ es.length ≤ 1000 ∧
  Q (.tp [.sh (.tuple [.tuple (ledT t es).1, .tuple (ledH h es).1]), .ow (ledT t es).2, .ow (ledH h es).2])
def semGoD (ds : List D) (Q : Sl → Prop) : Prop := ∃ (t h : List Str) (es : List Ev), ds = [pairS t h, .list (es.map Ev.d)] ∧ GPair t h ∧ evsN t.length es ∧ es.length ≤ 1000 ∧
  Q (.tp [.sh (.tuple [.tuple (ledT (t.map PyData.str) es).1, .tuple (ledH (h.map PyData.str) es).1]), .ow (ledT (t.map PyData.str) es).2, .ow (ledH (h.map PyData.str) es).2])
def semBehindD (ds : List D) (Q : Sl → Prop) : Prop := ∃ (t h : List D) (es : List Ev), ds = [.tuple [.tuple t, .tuple h], .list (es.map Ev.d)] ∧ t.length ≤ 16 ∧ h.length = t.length ∧ evsN t.length es ∧ es.length ≤ 1000 ∧
  Q (.sh (.tuple [.tuple (ledT t es).1, .tuple (ledH h es).1]))
def tnT (n : Nat) (es : List Ev) : List Nat := (ledT (List.range n) es).1
def tnH (n : Nat) (es : List Ev) : List Nat := (ledH (List.range n) es).1
def semTurnsOf (ds : List D) (Q : Sl → Prop) : Prop := ∃ (t h : List Str) (es : List Ev), ds = [pairS t h, .list (es.map Ev.d)] ∧ GPair t h ∧ evsN t.length es ∧ es.length ≤ 1000 ∧
  Q (.sh (.tuple [.tuple (intsD (tnT t.length es)), .tuple (intsD (tnH t.length es))]))
def semRingI (ds : List D) (Q : Sl → Prop) : Prop := ∃ (a : List Nat) (x n L : Nat), ds = [.tuple (intsD a), .int x] ∧ Tn a n ∧ n ≤ 16 ∧ x < n ∧ L ≤ n ∧ Per (tf a) x L ∧ Q (.sh (.tuple (intsD (orb (tf a) L x))))
def semLettersAt (ds : List D) (Q : Sl → Prop) : Prop := ∃ (r : List Str) (a : List Nat) (x L : Nat), ds = [tupL r, .tuple (intsD a), .int x] ∧ Tn a r.length ∧ r.length ≤ 16 ∧ x < r.length ∧ L ≤ r.length ∧ Per (tf a) x L ∧ Q (.sh (lstL ((orb (tf a) L x).map fun k => r.getD k "")))
def semStanding (ds : List D) (Q : Sl → Prop) : Prop := ∃ (l : List Str) (m : Nat), ds = [lstL l, .int m] ∧ 0 < l.length ∧ l.length ≤ 1000 ∧ Q (.sh (.str (l.getD (m % l.length) "")))
def farS (r : List Str) (a : List Nat) (m : Nat) : List Str := (List.range r.length).map fun x => r.getD (itF (tf a) m x) ""
def semTurnedN (ds : List D) (Q : Sl → Prop) : Prop := ∃ (r : List Str) (a : List Nat) (m : Nat), ds = [tupL r, .tuple (intsD a), .int m] ∧ Tn a r.length ∧ r.length ≤ 16 ∧ Q (.sh (tupL (farS r a m)))
def semRoundsN (ds : List D) (Q : Sl → Prop) : Prop := ∃ (t h : List Str) (es : List Ev) (m : Nat), ds = [pairS t h, .list (es.map Ev.d), .int m] ∧ GPair t h ∧ evsN t.length es ∧ es.length ≤ 1000 ∧
  Q (.sh (pairS (farS t (tnT t.length es) m) (farS h (tnH t.length es) m)))
theorem evs_ok {t : List Str} {es : List Ev} (h : evsN t.length es) : ∀ e ∈ es, e.ok t := fun e he => by
  have := h e he
  cases e with
  | name x => cases this
  | _ => exact this
theorem tnT_tn {n : Nat} {es : List Ev} (h : evsN n es) : Tn (tnT n es) n := Tn.of (ledT_perm es _ (by rw [List.length_range]; exact h))
theorem tnH_tn {n : Nat} {es : List Ev} (h : evsN n es) : Tn (tnH n es) n := Tn.of (ledH_perm es _ (by rw [List.length_range]; exact h))
theorem oIx_tupD' {xs : List D} {k : Nat} (hk : k < xs.length) : oIx (.tuple xs) (.int k) = some xs[k] := atI_nat hk
theorem oIx_intsD {a : List Nat} {k : Nat} (hk : k < a.length) : oIx (.tuple (intsD a)) (.int k) = some (.int (tf a k : Nat)) := by
  rw [oIx_tupD' (by rw [List.length_map]; exact hk)]
  unfold tf
  rw [List.getElem_map, List.getD_eq_getElem?_getD, List.getElem?_eq_getElem hk]; rfl
end TN
set_option Elab.async false
set_option linter.all false
set_option maxRecDepth 100000
set_option maxHeartbeats 2000000
set_option autoImplicit false
namespace TN
open PySem PySem.Spec PyProof.Rows L2
theorem oIx_snoc {l : List D} {d : D} : oIx (.list (l ++ [d])) (.int (-1)) = some d := by
  show atI (l ++ [d]) (-1) = _
  unfold atI
  have e : ixN (l ++ [d]).length (-1) = some l.length := by
    unfold ixN
    rw [List.length_append, List.length_singleton]
    split <;> first | (split <;> first | (congr 1; omega) | omega) | omega
  rw [e]
  show (l ++ [d])[l.length]? = _
  simp
theorem noN {n : Nat} {es : List Ev} (h : evsN n es) : es.any Ev.isN = false := by
  rw [List.any_eq_false]
  intro e he z
  have := h e he
  cases e with
  | name x => cases this
  | _ => cases z
abbrev rgC : TDT := dB (asBool (f2 oNe (f2 oIx (fVar 0) (f2 oIx (fPeek 2) (f1 oNeg (fC (PyData.int 1))))) (fVar 1)))
abbrev rgB : TDS := sDrop (dAppend 2 (dP (f2 oIx (fVar 0) (f2 oIx (fPeek 2) (f1 oNeg (fC (PyData.int 1)))))))
theorem ring_turnsI {E : DEnds} {a : List Nat} {n x L : Nat} (T : Tn a n) (xn : x < n) (P : Per (tf a) x L) (Lf : L ≤ 1000) : ∀ d m, m + 1 + d = L →
    E.nx [.sh (.tuple (intsD a)), .sh (.int x), .ow (intsD (orb (tf a) L x))] → whileD rgC rgB E (d + 1) [.sh (.tuple (intsD a)), .sh (.int x), .ow (intsD (orb (tf a) (m + 1) x))] := by
  have on : oNeg (.int 1) = some (.int (-1)) := rfl
  intro d
  induction d with
  | zero =>
    intro m hm q
    have e := P.back
    rw [← hm] at e
    unfold whileD
    have lst : oIx (.list (intsD (orb (tf a) (m + 1) x))) (.int (-1)) = some (.int (itF (tf a) m x : Nat)) := by
      unfold intsD; rw [orb_snoc, List.map_append]; exact oIx_snoc
    (simp only [TN.dCallO, TN.dCallOI, TN.dCallNO, TN.oVar, TN.sCut, TN.tgLst, TN.iK, TN.iV, TN.iLT, TN.pNew, TN.dCallN, TN.dCompI2, TN.dLAddE, TN.oD, TN.sDNew, TN.sPutD, TN.fGetO, TN.fGetO2, TN.fInO, TN.fNinO, TN.dVarD, TN.dExtS, TN.mOwn, TN.dCallM, TN.mVar, TN.sRetV, TN.dAug, TN.dCallNT, TN.dCallNL, TN.fIxTs, TN.sForI, TN.dCompI, TN.dCompL, TN.dCompT, TN.dCompR, TN.iL, TN.iT, TN.iR1, TN.iR2, TN.iR3, TN.iS, TN.iE, TN.iRv, TN.iZ, TN.dKeepT, TN.dCallT, TN.pTup, TN.pCons, TN.pOwn, TN.sAsgT, TN.sRetT, TN.tpL, TN.fIxT, TN.fTp, TN.dAppendT, TN.dReverseT, TN.dClearT, TN.dVarT, TN.dReverse, TN.dClear, TN.dPop, Pt.d, Sl.tp.injEq, TN.startF, TN.dCallV, Sl.fn.injEq, TN.dCallF, TN.dLRev, TN.dLAdd, TN.dLSlP, TN.dLSlice, TN.dSliceE, TN.dNo, TN.dEnd, TN.fNo, TN.sSeq, TN.sNext, TN.sDrop, TN.sRet, TN.sRetL, TN.sRetN, TN.sIf, TN.sAsg, TN.sAsgL, TN.sStore, TN.sForL, TN.sForT, TN.sForR, TN.sForR2, TN.tgN, TN.tgTup, TN.tgCons, TN.tgNil, TN.dP, TN.dB, TN.dCall, TN.dCallL, TN.dCallB, TN.dCallBL, TN.dCons, TN.dNil, TN.dTup, TN.dLst, TN.dKeep, TN.dVar, TN.fVar, TN.fPeek, TN.fC, TN.f2, TN.d2, TN.d2V, TN.f1, TN.d1, TN.fCB, TN.dCB, TN.dCBL, TN.fNil, TN.fCons, TN.asBool, TN.dTest, TN.bAnd, TN.bOr, TN.bNot, TN.dAnd, TN.dOr, TN.dNot, TN.fAndV, TN.fOrV, TN.fNotV, TN.dAndV, TN.dOrV, TN.dNotV, TN.dIfE, TN.dIfL, TN.fIfE, TN.fChain, TN.fSlice, TN.dSlice, TN.fNo, TN.fEnd, TN.dAppend, TN.dInsert, TN.dPopAt, TN.ownL, TN.start0, TN.begB, TN.backD, TN.wipeD, TN.dYes, TN.sNever, List.getElem?_cons_zero, List.getElem?_cons_succ, List.set_cons_zero, List.set_cons_succ, List.map_cons, List.map_nil, List.length_cons, List.length_nil, List.cons_append, List.nil_append, List.replicate_succ, List.replicate_zero, Option.map_some, Option.map_none, Nat.add_one_sub_one, Nat.sub_zero, Nat.sub_self, Nat.zero_add, reduceCtorEq, Option.some.injEq, PyData.int.injEq, PyData.str.injEq, PyData.bool.injEq, PyData.list.injEq, PyData.tuple.injEq, Sl.sh.injEq, Sl.ow.injEq, List.cons.injEq, exists_eq_left', exists_eq_left, true_implies, false_implies, and_true, true_and, forall_const, Option.isSome_some, TN.imp_ff, TN.imp_tf, TN.imp_tt, exists_eq_left, exists_eq_left', exists_eq])
    simp only [on, lst, oIx_intsD (show itF (tf a) m x < a.length by rw [T.len]; exact T.it xn m), oNe_int]
    have e : tf a (itF (tf a) m x) = x := e
    rw [e]
    refine ⟨_, rfl, fun z => ?_, fun _ => ?_⟩
    · simp at z
    · rw [show m + 1 = L by omega]; exact q
  | succ d ih =>
    intro m hm q
    have ne := P.first (m + 1) (by omega) (by omega)
    unfold whileD
    have lst : oIx (.list (intsD (orb (tf a) (m + 1) x))) (.int (-1)) = some (.int (itF (tf a) m x : Nat)) := by
      unfold intsD; rw [orb_snoc, List.map_append]; exact oIx_snoc
    (simp only [TN.dCallO, TN.dCallOI, TN.dCallNO, TN.oVar, TN.sCut, TN.tgLst, TN.iK, TN.iV, TN.iLT, TN.pNew, TN.dCallN, TN.dCompI2, TN.dLAddE, TN.oD, TN.sDNew, TN.sPutD, TN.fGetO, TN.fGetO2, TN.fInO, TN.fNinO, TN.dVarD, TN.dExtS, TN.mOwn, TN.dCallM, TN.mVar, TN.sRetV, TN.dAug, TN.dCallNT, TN.dCallNL, TN.fIxTs, TN.sForI, TN.dCompI, TN.dCompL, TN.dCompT, TN.dCompR, TN.iL, TN.iT, TN.iR1, TN.iR2, TN.iR3, TN.iS, TN.iE, TN.iRv, TN.iZ, TN.dKeepT, TN.dCallT, TN.pTup, TN.pCons, TN.pOwn, TN.sAsgT, TN.sRetT, TN.tpL, TN.fIxT, TN.fTp, TN.dAppendT, TN.dReverseT, TN.dClearT, TN.dVarT, TN.dReverse, TN.dClear, TN.dPop, Pt.d, Sl.tp.injEq, TN.startF, TN.dCallV, Sl.fn.injEq, TN.dCallF, TN.dLRev, TN.dLAdd, TN.dLSlP, TN.dLSlice, TN.dSliceE, TN.dNo, TN.dEnd, TN.fNo, TN.sSeq, TN.sNext, TN.sDrop, TN.sRet, TN.sRetL, TN.sRetN, TN.sIf, TN.sAsg, TN.sAsgL, TN.sStore, TN.sForL, TN.sForT, TN.sForR, TN.sForR2, TN.tgN, TN.tgTup, TN.tgCons, TN.tgNil, TN.dP, TN.dB, TN.dCall, TN.dCallL, TN.dCallB, TN.dCallBL, TN.dCons, TN.dNil, TN.dTup, TN.dLst, TN.dKeep, TN.dVar, TN.fVar, TN.fPeek, TN.fC, TN.f2, TN.d2, TN.d2V, TN.f1, TN.d1, TN.fCB, TN.dCB, TN.dCBL, TN.fNil, TN.fCons, TN.asBool, TN.dTest, TN.bAnd, TN.bOr, TN.bNot, TN.dAnd, TN.dOr, TN.dNot, TN.fAndV, TN.fOrV, TN.fNotV, TN.dAndV, TN.dOrV, TN.dNotV, TN.dIfE, TN.dIfL, TN.fIfE, TN.fChain, TN.fSlice, TN.dSlice, TN.fNo, TN.fEnd, TN.dAppend, TN.dInsert, TN.dPopAt, TN.ownL, TN.start0, TN.begB, TN.backD, TN.wipeD, TN.dYes, TN.sNever, List.getElem?_cons_zero, List.getElem?_cons_succ, List.set_cons_zero, List.set_cons_succ, List.map_cons, List.map_nil, List.length_cons, List.length_nil, List.cons_append, List.nil_append, List.replicate_succ, List.replicate_zero, Option.map_some, Option.map_none, Nat.add_one_sub_one, Nat.sub_zero, Nat.sub_self, Nat.zero_add, reduceCtorEq, Option.some.injEq, PyData.int.injEq, PyData.str.injEq, PyData.bool.injEq, PyData.list.injEq, PyData.tuple.injEq, Sl.sh.injEq, Sl.ow.injEq, List.cons.injEq, exists_eq_left', exists_eq_left, true_implies, false_implies, and_true, true_and, forall_const, Option.isSome_some, TN.imp_ff, TN.imp_tf, TN.imp_tt, exists_eq_left, exists_eq_left', exists_eq])
    simp only [on, lst, oIx_intsD (show itF (tf a) m x < a.length by rw [T.len]; exact T.it xn m), oNe_int]
    have ne : tf a (itF (tf a) m x) ≠ x := ne
    refine ⟨_, rfl, fun _ => ⟨_, rfl, by rw [List.length_map, orb_len]; omega, ?_⟩, fun z => ?_⟩
    · have := ih (m + 1) (by omega) q
      rw [show m + 1 + 1 = (m + 1) + 1 from rfl, orb_snoc] at this
      unfold intsD at this ⊢
      rw [List.map_append] at this
      exact this
    · have : ((tf a (itF (tf a) m x) : Nat) : Int) = (x : Int) := by simpa using z
      exact absurd (by omega) ne
end TN
namespace TN
open PySem PySem.Spec PyProof.Rows L2
section
variable {P : Program} {w : World} {K : PySem.W.Frag} {mg : Str → Option Value} {base : Heap} {name : Str} {k : Nat} {ps : List Str} {sem sem' : List D → List D → (Sl → List D → Prop) → Prop}
theorem spB_imp (h : ∀ xs ds Q, sem xs ds Q → sem' xs ds Q) : ∀ vs H Q E, spB K sem vs H Q E → spB K sem' vs H Q E := fun vs H Q E ⟨G, a, ws, xs, vr, ds, Qd, h1, h2, h3, h4, h5, h6, h7, h8⟩ => ⟨G, a, ws, xs, vr, ds, Qd, h1, h2, h3, h4, h5, h6, h xs ds Qd h7, h8⟩
theorem Has.impB (F : Has P w K mg base name k ps (spB K sem')) (h : ∀ xs ds Q, sem xs ds Q → sem' xs ds Q) : Has P w K mg base name k ps (spB K sem) := by
  obtain ⟨f, fd, a, b, c, d⟩ := F.ex
  exact ⟨f, fd, a.less (spB_imp h), b, c, d⟩
end
def semWindW (xs ds : List D) (Q : Sl → List D → Prop) : Prop := ∃ n w : Int, Spl n xs ∧ n ≤ big ∧ ds = [.int w] ∧ 0 < w ∧ w < 1000000000000000000000000000000000000000000000000 ∧
  ∀ (r : Int) (ys : List D), 0 ≤ r → r < w → Spl (n + 1) ys → Q (.sh (.int r)) ys
theorem windW {n w : Int} {xs : List D} {Q : Sl → List D → Prop} (sp : Spl n xs) (hn : n ≤ big) (w0 : 0 < w) (w1 : w < 1000000000000000000000000000000000000000000000000) (q : ∀ (k : Nat) (ys : List D), (k : Int) < w → Spl (n + 1) ys → Q (.sh (.int k)) ys) : semWindW xs [.int w] Q :=
  ⟨n, w, sp, hn, rfl, w0, w1, fun r ys r0 r1 sp' => by
    obtain ⟨k, rfl⟩ : ∃ k : Nat, r = k := ⟨r.toNat, by omega⟩
    exact q k ys r1 sp'⟩
def semFrontBD (xs ds : List D) (Q : Sl → List D → Prop) : Prop := ∃ p : Nat, ds = [.int p] ∧ p < xs.length ∧ xs.length ≤ 16 ∧ Q (.sh (xs.getD p .none)) (toA xs p)
def semLedD (ds : List D) (Q : Sl → Prop) : Prop := ∃ (t h : List D) (es : List Ev), ds = [.tuple [.tuple t, .tuple h], .list (es.map Ev.d)] ∧ t.length ≤ 16 ∧ h.length = t.length ∧ evsN t.length es ∧ es.length ≤ 1000 ∧
  Q (.sh (.tuple [.tuple [.tuple (ledT t es).1, .tuple (ledH h es).1], .list (ledT t es).2, .list (ledH h es).2]))
def semTurnsL (ds : List D) (Q : Sl → Prop) : Prop := ∃ (n : Nat) (es : List Ev), ds = [.int n, .list (es.map Ev.d)] ∧ n ≤ 16 ∧ evsN n es ∧ es.length ≤ 1000 ∧ Q (.sh (.tuple [.tuple (intsD (tnT n es)), .tuple (intsD (tnH n es))]))
def semFarL (ds : List D) (Q : Sl → Prop) : Prop := ∃ (r : List Str) (a : List Nat) (m : Nat), ds = [tupL r, .tuple (intsD a), .int m] ∧ Tn a r.length ∧ r.length ≤ 16 ∧ Q (.sh (tupL (farS r a m)))
theorem oDivW_p {i j : Int} (h : 0 < j) (h2 : j < 1000000000000000000000000000000000000000000000000) : oDivW (.int i) (.int j) = some (.int (i / j)) := if_pos ⟨h, by
  have : (2 : Nat) ^ 400 = 2582249878086908589655919172003011874329705792829223512830659356540647622016841194629645353280137831435903171972747493376 := by decide
  omega⟩
end TN
namespace TN
open PySem PySem.Spec PyProof.Rows L2
abbrev rgC2 : TDT := dB (asBool (f2 oNe (f2 oIx (fVar 1) (f2 oIx (fPeek 5) (f1 oNeg (fC (PyData.int 1))))) (fVar 4)))
abbrev rgB2 : TDS := sDrop (dAppend 5 (dP (f2 oIx (fVar 1) (f2 oIx (fPeek 5) (f1 oNeg (fC (PyData.int 1)))))))
theorem ring_turnsL {E : DEnds} {z0 z2 z3 : Sl} {a : List Nat} {n x L : Nat} (T : Tn a n) (xn : x < n) (P : Per (tf a) x L) (Lf : L ≤ 1000) : ∀ d m, m + 1 + d = L →
    E.nx [z0, .sh (.tuple (intsD a)), z2, z3, .sh (.int x), .ow (intsD (orb (tf a) L x))] → whileD rgC2 rgB2 E (d + 1) [z0, .sh (.tuple (intsD a)), z2, z3, .sh (.int x), .ow (intsD (orb (tf a) (m + 1) x))] := by
  have on : oNeg (.int 1) = some (.int (-1)) := rfl
  intro d
  induction d with
  | zero =>
    intro m hm q
    have e := P.back
    rw [← hm] at e
    unfold whileD
    have lst : oIx (.list (intsD (orb (tf a) (m + 1) x))) (.int (-1)) = some (.int (itF (tf a) m x : Nat)) := by
      unfold intsD; rw [orb_snoc, List.map_append]; exact oIx_snoc
    (simp only [TN.dCallO, TN.dCallOI, TN.dCallNO, TN.oVar, TN.sCut, TN.tgLst, TN.iK, TN.iV, TN.iLT, TN.pNew, TN.dCallN, TN.dCompI2, TN.dLAddE, TN.oD, TN.sDNew, TN.sPutD, TN.fGetO, TN.fGetO2, TN.fInO, TN.fNinO, TN.dVarD, TN.dExtS, TN.mOwn, TN.dCallM, TN.mVar, TN.sRetV, TN.dAug, TN.dCallNT, TN.dCallNL, TN.fIxTs, TN.sForI, TN.dCompI, TN.dCompL, TN.dCompT, TN.dCompR, TN.iL, TN.iT, TN.iR1, TN.iR2, TN.iR3, TN.iS, TN.iE, TN.iRv, TN.iZ, TN.dKeepT, TN.dCallT, TN.pTup, TN.pCons, TN.pOwn, TN.sAsgT, TN.sRetT, TN.tpL, TN.fIxT, TN.fTp, TN.dAppendT, TN.dReverseT, TN.dClearT, TN.dVarT, TN.dReverse, TN.dClear, TN.dPop, Pt.d, Sl.tp.injEq, TN.startF, TN.dCallV, Sl.fn.injEq, TN.dCallF, TN.dLRev, TN.dLAdd, TN.dLSlP, TN.dLSlice, TN.dSliceE, TN.dNo, TN.dEnd, TN.fNo, TN.sSeq, TN.sNext, TN.sDrop, TN.sRet, TN.sRetL, TN.sRetN, TN.sIf, TN.sAsg, TN.sAsgL, TN.sStore, TN.sForL, TN.sForT, TN.sForR, TN.sForR2, TN.tgN, TN.tgTup, TN.tgCons, TN.tgNil, TN.dP, TN.dB, TN.dCall, TN.dCallL, TN.dCallB, TN.dCallBL, TN.dCons, TN.dNil, TN.dTup, TN.dLst, TN.dKeep, TN.dVar, TN.fVar, TN.fPeek, TN.fC, TN.f2, TN.d2, TN.d2V, TN.f1, TN.d1, TN.fCB, TN.dCB, TN.dCBL, TN.fNil, TN.fCons, TN.asBool, TN.dTest, TN.bAnd, TN.bOr, TN.bNot, TN.dAnd, TN.dOr, TN.dNot, TN.fAndV, TN.fOrV, TN.fNotV, TN.dAndV, TN.dOrV, TN.dNotV, TN.dIfE, TN.dIfL, TN.fIfE, TN.fChain, TN.fSlice, TN.dSlice, TN.fNo, TN.fEnd, TN.dAppend, TN.dInsert, TN.dPopAt, TN.ownL, TN.start0, TN.begB, TN.backD, TN.wipeD, TN.dYes, TN.sNever, List.getElem?_cons_zero, List.getElem?_cons_succ, List.set_cons_zero, List.set_cons_succ, List.map_cons, List.map_nil, List.length_cons, List.length_nil, List.cons_append, List.nil_append, List.replicate_succ, List.replicate_zero, Option.map_some, Option.map_none, Nat.add_one_sub_one, Nat.sub_zero, Nat.sub_self, Nat.zero_add, reduceCtorEq, Option.some.injEq, PyData.int.injEq, PyData.str.injEq, PyData.bool.injEq, PyData.list.injEq, PyData.tuple.injEq, Sl.sh.injEq, Sl.ow.injEq, List.cons.injEq, exists_eq_left', exists_eq_left, true_implies, false_implies, and_true, true_and, forall_const, Option.isSome_some, TN.imp_ff, TN.imp_tf, TN.imp_tt, exists_eq_left, exists_eq_left', exists_eq])
    simp only [on, lst, oIx_intsD (show itF (tf a) m x < a.length by rw [T.len]; exact T.it xn m), oNe_int]
    have e : tf a (itF (tf a) m x) = x := e
    rw [e]
    refine ⟨_, rfl, fun z => ?_, fun _ => ?_⟩
    · simp at z
    · rw [show m + 1 = L by omega]; exact q
  | succ d ih =>
    intro m hm q
    have ne := P.first (m + 1) (by omega) (by omega)
    unfold whileD
    have lst : oIx (.list (intsD (orb (tf a) (m + 1) x))) (.int (-1)) = some (.int (itF (tf a) m x : Nat)) := by
      unfold intsD; rw [orb_snoc, List.map_append]; exact oIx_snoc
    (simp only [TN.dCallO, TN.dCallOI, TN.dCallNO, TN.oVar, TN.sCut, TN.tgLst, TN.iK, TN.iV, TN.iLT, TN.pNew, TN.dCallN, TN.dCompI2, TN.dLAddE, TN.oD, TN.sDNew, TN.sPutD, TN.fGetO, TN.fGetO2, TN.fInO, TN.fNinO, TN.dVarD, TN.dExtS, TN.mOwn, TN.dCallM, TN.mVar, TN.sRetV, TN.dAug, TN.dCallNT, TN.dCallNL, TN.fIxTs, TN.sForI, TN.dCompI, TN.dCompL, TN.dCompT, TN.dCompR, TN.iL, TN.iT, TN.iR1, TN.iR2, TN.iR3, TN.iS, TN.iE, TN.iRv, TN.iZ, TN.dKeepT, TN.dCallT, TN.pTup, TN.pCons, TN.pOwn, TN.sAsgT, TN.sRetT, TN.tpL, TN.fIxT, TN.fTp, TN.dAppendT, TN.dReverseT, TN.dClearT, TN.dVarT, TN.dReverse, TN.dClear, TN.dPop, Pt.d, Sl.tp.injEq, TN.startF, TN.dCallV, Sl.fn.injEq, TN.dCallF, TN.dLRev, TN.dLAdd, TN.dLSlP, TN.dLSlice, TN.dSliceE, TN.dNo, TN.dEnd, TN.fNo, TN.sSeq, TN.sNext, TN.sDrop, TN.sRet, TN.sRetL, TN.sRetN, TN.sIf, TN.sAsg, TN.sAsgL, TN.sStore, TN.sForL, TN.sForT, TN.sForR, TN.sForR2, TN.tgN, TN.tgTup, TN.tgCons, TN.tgNil, TN.dP, TN.dB, TN.dCall, TN.dCallL, TN.dCallB, TN.dCallBL, TN.dCons, TN.dNil, TN.dTup, TN.dLst, TN.dKeep, TN.dVar, TN.fVar, TN.fPeek, TN.fC, TN.f2, TN.d2, TN.d2V, TN.f1, TN.d1, TN.fCB, TN.dCB, TN.dCBL, TN.fNil, TN.fCons, TN.asBool, TN.dTest, TN.bAnd, TN.bOr, TN.bNot, TN.dAnd, TN.dOr, TN.dNot, TN.fAndV, TN.fOrV, TN.fNotV, TN.dAndV, TN.dOrV, TN.dNotV, TN.dIfE, TN.dIfL, TN.fIfE, TN.fChain, TN.fSlice, TN.dSlice, TN.fNo, TN.fEnd, TN.dAppend, TN.dInsert, TN.dPopAt, TN.ownL, TN.start0, TN.begB, TN.backD, TN.wipeD, TN.dYes, TN.sNever, List.getElem?_cons_zero, List.getElem?_cons_succ, List.set_cons_zero, List.set_cons_succ, List.map_cons, List.map_nil, List.length_cons, List.length_nil, List.cons_append, List.nil_append, List.replicate_succ, List.replicate_zero, Option.map_some, Option.map_none, Nat.add_one_sub_one, Nat.sub_zero, Nat.sub_self, Nat.zero_add, reduceCtorEq, Option.some.injEq, PyData.int.injEq, PyData.str.injEq, PyData.bool.injEq, PyData.list.injEq, PyData.tuple.injEq, Sl.sh.injEq, Sl.ow.injEq, List.cons.injEq, exists_eq_left', exists_eq_left, true_implies, false_implies, and_true, true_and, forall_const, Option.isSome_some, TN.imp_ff, TN.imp_tf, TN.imp_tt, exists_eq_left, exists_eq_left', exists_eq])
    simp only [on, lst, oIx_intsD (show itF (tf a) m x < a.length by rw [T.len]; exact T.it xn m), oNe_int]
    have ne : tf a (itF (tf a) m x) ≠ x := ne
    refine ⟨_, rfl, fun _ => ⟨_, rfl, by rw [List.length_map, orb_len]; omega, ?_⟩, fun z => ?_⟩
    · have := ih (m + 1) (by omega) q
      rw [show m + 1 + 1 = (m + 1) + 1 from rfl, orb_snoc] at this
      unfold intsD at this ⊢
      rw [List.map_append] at this
      exact this
    · have : ((tf a (itF (tf a) m x) : Nat) : Int) = (x : Int) := by simpa using z
      exact absurd (by omega) ne
theorem far_len (r : List Str) (a : List Nat) (m : Nat) : (farS r a m).length = r.length := by unfold farS; rw [List.length_map, List.length_range]
theorem far_step {r : List Str} {a : List Nat} {m k : Nat} (hk : k < r.length) : (((farS r a m).take k ++ r.drop k).map PyData.str).set k (.str (r.getD (itF (tf a) m k) "")) = ((farS r a m).take (k + 1) ++ r.drop (k + 1)).map PyData.str := by
  have fl := far_len r a m
  have hf : k < (farS r a m).length := by omega
  have e1 : (farS r a m)[k] = r.getD (itF (tf a) m k) "" := by simp only [farS, List.getElem_map, List.getElem_range]
  rw [List.take_succ_eq_append_getElem hf, e1, List.drop_eq_getElem_cons hk, ← List.map_set, List.set_append_right _ _ (by rw [List.length_take]; omega)]
  congr 1
  rw [List.length_take, show k - min k (farS r a m).length = 0 by omega, List.set_cons_zero, List.append_assoc]; rfl
end TN
namespace TN
open PySem PySem.Spec PyProof.Rows L2
section
variable {K : PySem.W.Frag} {bor : List Nat} {tb : TE} {f : FE}
def dRepO (j : Nat) (f : FE) : TDL := fun ρ Q => ∃ xs, ρ[j]? = some (.ow xs) ∧ ∃ k : Int, f ρ = some (.int k) ∧ -(2 ^ 63) ≤ k ∧ k < 2 ^ 63 ∧ xs.length * k.toNat ≤ 100000 ∧ Q (List.replicate k.toNat xs).flatten ρ
theorem ll_repO {j : Nat} (hb : LM K bor tb f) : LL K bor (tOp rRep (tVar j) tb) (dRepO j f) := fun {c G σ H ρ Qd Q} hc R ⟨xs, h0, n, e, n1, n2, n3, q⟩ k => by
  obtain ⟨a, us, e1, e2, e3, e4, e5⟩ := R.owAt h0
  refine ⟨.ref a, e1, hb hc R e fun w G2 H2 g2 p2 => ?_⟩
  cases p2.int
  refine ⟨a, n, us, rfl, rfl, g2.h _ _ e2, n1, n2, by rw [dps_len e3]; exact Nat.le_trans n3 (by decide), fun p hp => ?_⟩
  have R2 := R.grow g2
  exact k p _ _ G2 ρ _ g2.g (R2.grow (grow_own R2.sub hp)) (mine_new R2 hp) (dqs_rep (dpsS g2.g e3) _) q
end
end TN
namespace TN
open PySem PySem.Spec PyProof.Rows L2
def semEventsO (xs ds : List D) (Q : Sl → List D → Prop) : Prop := ∃ (n m : Int) (r ks : List Str), Spl n xs ∧ n + 3000 ≤ big ∧ ds = [tupL r, .int m, lstL ks] ∧ 0 ≤ m ∧ m ≤ 200 ∧ GRow r ∧ Kinds ks ∧
  ∀ (es : List Ev) (ys : List D), (∀ e ∈ es, e.ok r ∧ (e.kind ∈ ks ∨ e = .place 0)) → (es.length : Int) ≤ m → Spl (n + 3000) ys → Q (.ow (es.map Ev.d)) ys
end TN
namespace TN
open PySem PySem.Spec PyProof.Rows L2
section
variable {K : PySem.W.Frag} {bor : List Nat} {ta : TA} {f : FA}
theorem paired_now {G H : Hp} (s : Same G H) : ∀ {vs : List V} {ds : List D}, Paired (DpM K G H) vs ds → DqAll K H vs ds
  | [], _, h => by cases h; exact .nil
  | _ :: _, _, h => by
    cases h with
    | cons a b => exact .cons (a.now s) (paired_now s b)
def fLstN (f : FA) : FE := fun ρ => match f ρ with
  | some ds => if ds.length ≤ 100000 then some (.list ds) else none
  | none => none

theorem ln_lst (h : LMs K bor ta f) : LN K bor (tLst ta) (fLstN f) := fun {c G σ H ρ d Q} hc R e k => by
  unfold fLstN at e
  split at e
  · rename_i ds e1
    split at e
    · rename_i few
      injection e with e; subst e
      refine h hc R e1 fun vs G' H' g p => ?_
      have q := paired_now g.s p
      refine ⟨by rw [dps_len q]; exact Nat.le_trans few (by decide), fun x hx => ?_⟩
      have g2 := grow_own (o := .lst vs) g.s hx
      exact k (.ref x) G' _ (g.trans g2) (.lst (sqU upd_same) (dpsS g2.h q))
    · cases e
  · cases e
end
end TN
namespace TN
open PySem PySem.Spec PyProof.Rows L2
theorem evs_nl {r ks : List Str} {es : List Ev} (nk : Str.ofString "name" ∉ ks) (h : ∀ e ∈ es, e.ok r ∧ (e.kind ∈ ks ∨ e = .place 0)) : evsN r.length es := fun e he => by
  obtain ⟨ok, k⟩ := h e he
  cases e with
  | name x =>
    rcases k with k | k
    · exact absurd (show Str.ofString "name" ∈ ks from k) nk
    · cases k
  | _ => exact ok
theorem row_range (r : List Str) : (List.range r.length).map (fun k => r.getD k "") = r := by
  refine List.ext_getElem (by simp) fun i h1 h2 => ?_
  rw [List.getElem_map, List.getElem_range, getD_of h2]
theorem far_zero (r : List Str) (a : List Nat) : farS r a 0 = r := row_range r
theorem itF_one (f : Nat → Nat) (m x : Nat) : itF f m (f x) = itF f (m + 1) x := (itF_add f x 1 m).symm
theorem far_next {r : List Str} {a : List Nat} {n : Nat} (T : Tn a n) (l : r.length = n) (m : Nat) : a.map (fun k => (farS r a m).getD k "") = farS r a (m + 1) := by
  refine List.ext_getElem (by rw [List.length_map, T.len, far_len, l]) fun i h1 h2 => ?_
  rw [List.length_map] at h1
  have e0 : a[i] = tf a i := by
    unfold tf
    rw [List.getD_eq_getElem?_getD, List.getElem?_eq_getElem h1]; rfl
  have lt : tf a i < r.length := by rw [l]; exact T.at' (by rw [← T.len]; exact h1)
  rw [List.getElem_map, e0, getD_of (by rw [far_len]; exact lt)]
  simp only [farS, List.getElem_map, List.getElem_range]
  rw [itF_one]
theorem led_any {es : List Ev} {r : List Str} {n : Nat} (l : r.length = n) : (ledT r es).1 = (tnT n es).map (fun k => r.getD k "") ∧ (ledH r es).1 = (tnH n es).map (fun k => r.getD k "") := by
  have e := row_range r
  rw [l] at e
  refine ⟨?_, ?_⟩
  · conv => lhs; rw [← e]
    exact ledT_map _ es _
  · conv => lhs; rw [← e]
    exact ledH_map _ es _
theorem rep_snoc (es : List Ev) : ∀ m, (List.replicate (m + 1) es).flatten = (List.replicate m es).flatten ++ es
  | 0 => by simp
  | m + 1 => by
    have e1 : (List.replicate (m + 1 + 1) es).flatten = es ++ (List.replicate (m + 1) es).flatten := by rw [List.replicate_succ, List.flatten_cons]
    have e2 : (List.replicate (m + 1) es).flatten = es ++ (List.replicate m es).flatten := by rw [List.replicate_succ, List.flatten_cons]
    calc _ = es ++ (List.replicate (m + 1) es).flatten := e1
      _ = es ++ ((List.replicate m es).flatten ++ es) := by rw [rep_snoc es m]
      _ = _ := by rw [← List.append_assoc, ← e2]
theorem far_led {es : List Ev} {r : List Str} (ok : evsN r.length es) : ∀ m, (ledT r (List.replicate m es).flatten).1 = farS r (tnT r.length es) m ∧ (ledH r (List.replicate m es).flatten).1 = farS r (tnH r.length es) m
  | 0 => ⟨(far_zero r _).symm, (far_zero r _).symm⟩
  | m + 1 => by
    obtain ⟨h1, h2⟩ := far_led ok m
    rw [rep_snoc, ledT_app, ledH_app, h1, h2]
    refine ⟨?_, ?_⟩
    · rw [(led_any (far_len r _ m)).1]
      exact far_next (tnT_tn ok) rfl m
    · rw [(led_any (far_len r _ m)).2]
      exact far_next (tnH_tn ok) rfl m
theorem far_isL {r : List Str} {a : List Nat} {m : Nat} (T : Tn a r.length) (isl : ∀ x ∈ r, isL x) : ∀ x ∈ farS r a m, isL x := fun x hx => by
  obtain ⟨k, hk, rfl⟩ := List.mem_map.mp hx
  have := T.it (List.mem_range.mp hk) m
  rw [getD_of this]
  exact isl _ (List.getElem_mem _)
end TN
namespace TN
open PySem PySem.Spec PyProof.Rows L2
theorem noLists_ints : ∀ a : List Nat, noLists (intsD a) = true
  | [] => rfl
  | x :: a => noLists_ints a
end TN
namespace TN
open PySem PySem.Spec PyProof.Rows L2
theorem pw30 : oPow (.int 10) (.int 30) = some (.int 1000000000000000000000000000000) := oPow_p (k := 30) (by decide) (by decide) (by decide +kernel)
end TN
namespace TN
open PySem PySem.Spec PyProof.Rows L2
theorem oMul_few {i : Int} {n : Nat} (h : n ≤ 1000) : oMul (.int i) (.int (n : Int)) = some (.int (i * (n : Int))) :=
  oMul_r ⟨Int.lt_of_lt_of_le (b := 0) (by decide) (Int.natCast_nonneg _), Int.lt_of_le_of_lt (b := 1000) (by omega) (by decide)⟩
theorem f2_ev {o : F2} {f g : FE} {ρ : List Sl} {d e : D} (ef : f ρ = some d) (eg : g ρ = some e) : f2 o f g ρ = o d e := by unfold f2; rw [ef, eg]
theorem few_cut {M : F2} (hM : oMul = M) (B0 B1 B2 B3 B4 B5 B7 B8 B10 B11 : Sl) (es : List Ev) (m : Nat) (Q : List Sl → Prop) (hm : es.length ≤ 1000) (h : ∀ f : Bool, (f = true → m ≤ 200 ∧ m * es.length ≤ 200) → Q [B0, B1, B2, B3, B4, B5, .ow (es.map Ev.d), B7, B8, .sh (.int m), B10, .sh (.bool f)]) : (dAndV (dP (f2 (oU (fun i j => decide (i < j)) (fun i j => decide (i.cps.toList < j.cps.toList))) (fVar 9) (fC (.int 201)))) (dP (f2 (oU (fun i j => decide (i < j)) (fun i j => decide (i.cps.toList < j.cps.toList))) (f2 M (fVar 9) (fCB oLen (fCons (fPeek 6) fNil))) (fC (.int 201))))) [B0, B1, B2, B3, B4, B5, .ow (es.map Ev.d), B7, B8, .sh (.int m), B10, B11] (fun d ρ1 => Q (ρ1.set 11 (.sh d))) := by
  generalize hρ : [B0, B1, B2, B3, B4, B5, .ow (es.map Ev.d), B7, B8, .sh (.int m), B10, B11] = ρ
  have v9 : fVar 9 ρ = some (.int (m : Int)) := by subst hρ; rfl
  have v6 : fPeek 6 ρ = some (.list (es.map Ev.d)) := by subst hρ; rfl
  have st : ∀ d, ρ.set 11 (.sh d) = [B0, B1, B2, B3, B4, B5, .ow (es.map Ev.d), B7, B8, .sh (.int m), B10, .sh d] := fun d => by subst hρ; rfl
  clear hρ
  have oe : fCB oLen (fCons (fPeek 6) fNil) ρ = some (.int es.length) := by
    unfold fCB fCons fNil
    rw [v6]
    show some (PyData.int (es.map Ev.d).length) = _
    rw [List.length_map]
  have om : oMul (.int (m : Int)) (.int (es.length : Int)) = some (.int ((m : Int) * (es.length : Int))) := oMul_few hm
  rw [hM] at om
  have c : ∀ x : PyData, fC x ρ = some x := fun _ => rfl
  refine ⟨.bool (decide ((m : Int) < 201)), (f2_ev v9 (c _)).trans oU_int, _, rfl, fun z => ?_, fun z => ?_⟩
  · have c1 : (m : Int) < 201 := of_decide_eq_true z
    refine ⟨.bool (decide ((m : Int) * (es.length : Int) < 201)), (f2_ev ((f2_ev v9 oe).trans om) (c _)).trans oU_int, ?_⟩
    show Q _
    rw [st]
    refine h _ fun z2 => ⟨by omega, ?_⟩
    have c2 : (m : Int) * (es.length : Int) < 201 := of_decide_eq_true z2
    have : ((m * es.length : Nat) : Int) < 201 := by rw [Int.natCast_mul]; exact c2
    omega
  · show Q _
    rw [st]
    exact h false (fun z => by cases z)
end TN
set_option Elab.async false
set_option linter.all false
set_option maxRecDepth 100000
set_option maxHeartbeats 2000000
set_option autoImplicit false
namespace K32
open PySem PySem.Spec PyProof.Rows L2 TN
def topS (i : Nat) : Stmt := PySem.Challenge.pw_twonames_k32_rounds_without_names.main.body.getD i (.Pass ⟨0, 0, 0, 0⟩)
structure Blt (mg : Str → Option Value) : Prop where
  abs : mg "abs" = none
  all : mg "all" = none
  any : mg "any" = none
  int : mg "int" = none
  len : mg "len" = none
  list : mg "list" = none
  max : mg "max" = none
  min : mg "min" = none
  range : mg "range" = none
  repr : mg "repr" = none
  set : mg "set" = none
  sorted : mg "sorted" = none
  str : mg "str" = none
  tuple : mg "tuple" = none
  type : mg "type" = none
section
variable {P : Program} {w : World} {K : PySem.W.Frag} {mg : Str → Option Value} {base : Heap}
abbrev s_is_letter : Stmt := topS 10
theorem sc_is_letter : FnScope ["thing"] ["thing"] (defScope s_is_letter) := ⟨rfl, rfl, rfl, by decide +kernel, rfl, by decide +kernel, by decide +kernel⟩
theorem ok_is_letter (b : Blt mg) {f : Addr} {fd : FuncData} (F : Fun K "is_letter" "is_letter" s_is_letter f fd) : FnG P w K mg base CX0 1 f fd ["thing"] (sp0 K semLetter) := by
  refine fn0 (k := 0) F sc_is_letter (fun ds Q h => by obtain ⟨x, rfl, _⟩ := h; rfl) (fun cdv A outer s H E hg hr =>
    have nd := sc_is_letter.nd
    have hu := hr.units
    have hu1 := hu_of hr
    (pss_one (ps_ret (pe_and (pe_cmpR op_isTyB (pe_callTy call_typeF (by rfl) b.type (by decide +kernel) (pa_cons (pv 0) pa_nil)) (pe_bltn (v := .ty "str") (by rfl) b.str (by decide +kernel) rfl) (nomark _)) (pe_and (pe_cmpR (op_eqD hu) (pe_callB call_len (by rfl) b.len (by decide +kernel) (pa_cons (pv 0) pa_nil)) pe_int (nomark _)) (pe_one (pe_chain op_leU op_leU pe_str (pv 0) pe_str)))))))
    (ls_ret (LP.e (lp_andV (LP.m (lp_typeIs (LP.m (lp_var (i := 0))))) (lp_andV (LP.m (lp_op (LP.m (lp_cb (lms_cons (LP.m (lp_var (i := 0))) lms_nil) rc_len)) (LP.m lp_int) rb_eq)) (lp_chain (LP.m lp_str) (LP.m (lp_var (i := 0))) (LP.m lp_str) rb_U rb_U))))) ?_
  rintro ds Q ⟨x, rfl, hx, q⟩
  (simp only [TN.sSeq, TN.sNext, TN.sDrop, TN.sRet, TN.sRetL, TN.sRetN, TN.sIf, TN.sAsg, TN.sAsgL, TN.sStore, TN.sForL, TN.sForT, TN.sForR, TN.sForR2, TN.tgN, TN.tgTup, TN.tgCons, TN.tgNil, TN.dP, TN.dB, TN.dCall, TN.dCallL, TN.dCallB, TN.dCallBL, TN.dCons, TN.dNil, TN.dTup, TN.dLst, TN.dKeep, TN.dVar, TN.fVar, TN.fPeek, TN.fC, TN.f2, TN.d2, TN.d2V, TN.f1, TN.d1, TN.fCB, TN.dCB, TN.dCBL, TN.fNil, TN.fCons, TN.asBool, TN.dTest, TN.bAnd, TN.bOr, TN.bNot, TN.dAnd, TN.dOr, TN.dNot, TN.fAndV, TN.fOrV, TN.fNotV, TN.dAndV, TN.dOrV, TN.dNotV, TN.dIfE, TN.dIfL, TN.fIfE, TN.fChain, TN.fSlice, TN.dSlice, TN.fNo, TN.fEnd, TN.dAppend, TN.dInsert, TN.dPopAt, TN.ownL, TN.start0, TN.begB, TN.backD, TN.wipeD, TN.dYes, TN.sNever, List.getElem?_cons_zero, List.getElem?_cons_succ, List.set_cons_zero, List.set_cons_succ, List.map_cons, List.map_nil, List.length_cons, List.length_nil, List.cons_append, List.nil_append, List.replicate_succ, List.replicate_zero, Option.map_some, Option.map_none, Nat.add_one_sub_one, Nat.sub_zero, Nat.sub_self, Nat.zero_add, reduceCtorEq, Option.some.injEq, PyData.int.injEq, PyData.str.injEq, PyData.bool.injEq, PyData.list.injEq, PyData.tuple.injEq, Sl.sh.injEq, Sl.ow.injEq, List.cons.injEq, exists_eq_left', exists_eq_left, true_implies, false_implies, and_true, true_and, forall_const, Option.isSome_some, TN.imp_ff, TN.imp_tf, TN.imp_tt, exists_eq_left, exists_eq_left', exists_eq])
  obtain ⟨c, rfl, h1, h2⟩ := hx
  have ea : Str.ofString "a" = ⟨#[97]⟩ := by decide +kernel
  have ez : Str.ofString "z" = ⟨#[122]⟩ := by decide +kernel
  have l1 : oLen [.str ⟨#[c]⟩] = some (.int 1) := rfl
  refine ⟨.bool true, ?_, q⟩
  (simp only [Ev.d, TN.ix0, TN.ix1, TN.ix2, TN.ixl0, TN.ixl1, TN.ixl2, TN.ixm2, TN.ixm3, TN.len2, TN.len3, TN.neg1, TN.ty_tup, TN.ty_lst, TN.ty_str, TN.ty_int, TN.oLen_tupL, TN.oLen_lstL, TN.oU_int, TN.oEq_int, TN.oNe_int, decide_true, Bool.not_true, Bool.not_false, reduceCtorEq, Option.some.injEq, PyData.int.injEq, PyData.str.injEq, PyData.bool.injEq, PyData.list.injEq, PyData.tuple.injEq, exists_eq_left', TN.imp_ff, TN.imp_tf, TN.imp_tt, true_and, and_true, forall_const, true_implies, false_implies, TN.w_place_place, TN.n_place_place, TN.w_place_name, TN.n_place_name, TN.w_place_lost, TN.n_place_lost, TN.w_place_twice, TN.n_place_twice, TN.w_place_as, TN.n_place_as, TN.w_name_place, TN.n_name_place, TN.w_name_name, TN.n_name_name, TN.w_name_lost, TN.n_name_lost, TN.w_name_twice, TN.n_name_twice, TN.w_name_as, TN.n_name_as, TN.w_lost_place, TN.n_lost_place, TN.w_lost_name, TN.n_lost_name, TN.w_lost_lost, TN.n_lost_lost, TN.w_lost_twice, TN.n_lost_twice, TN.w_lost_as, TN.n_lost_as, TN.w_twice_place, TN.n_twice_place, TN.w_twice_name, TN.n_twice_name, TN.w_twice_lost, TN.n_twice_lost, TN.w_twice_twice, TN.n_twice_twice, TN.w_twice_as, TN.n_twice_as, TN.w_as_place, TN.n_as_place, TN.w_as_name, TN.n_as_name, TN.w_as_lost, TN.n_as_lost, TN.w_as_twice, TN.n_as_twice, TN.w_as_as, TN.n_as_as])
  simp only [l1, oEq_int, oU_str, ea, ez, decide_true]
  have a1 : ¬ ([c] < [97]) := by rw [List.cons_lt_cons_iff]; simp; omega
  have a2 : ¬ ([122] < [c]) := by rw [List.cons_lt_cons_iff]; simp; omega
  simp [a1, a2]

abbrev s_is_row : Stmt := topS 11
theorem sc_is_row : FnScope ["thing"] ["thing"] (defScope s_is_row) := ⟨rfl, rfl, rfl, by decide +kernel, rfl, by decide +kernel, by decide +kernel⟩
theorem ok_is_row (b : Blt mg) (h_are_unlike_letters : Has P w K mg base "are_unlike_letters" 2 ["parts"] (sp0 K semUnlikeL)) {tkM : Tok} (c_MOST_LETTERS : mg "MOST_LETTERS" = some (.int 16 tkM)) {f : Addr} {fd : FuncData} (F : Fun K "is_row" "is_row" s_is_row f fd) : FnG P w K mg base CX0 3 f fd ["thing"] (sp0 K semRow) := by
  refine fn0 (k := 2) F sc_is_row (fun ds Q h => by obtain ⟨x, rfl, _⟩ := h; rfl) (fun cdv A outer s H E hg hr =>
    have nd := sc_is_row.nd
    have hu := hr.units
    have hu1 := hu_of hr
    (pss_cons (ps_if (PW.pt (pw_or (pt_cmpR op_notTyB (pe_callTy call_typeF (by rfl) b.type (by decide +kernel) (pa_cons (pv 0) pa_nil)) (pe_bltn (v := .ty "tuple") (by rfl) b.tuple (by decide +kernel) rfl) (nomark _)) (pw_or1 (pt_not (pt_chain op_leU op_leU pe_int (pe_callB call_len (by rfl) b.len (by decide +kernel) (pa_cons (pv 0) pa_nil)) (pe_glob (v := .int 16) (by rfl) c_MOST_LETTERS ⟨_, rfl⟩)))))) (pss_one (ps_ret pe_bl)) pss_nil)
 (pss_one (ps_ret (pe_has (h_are_unlike_letters.up (by decide)) hg hr (by rfl) (pa_cons (pv 0) pa_nil))))))
    (ls_seq (ls_if (LB.g (lb_or (lb_test (LP.m (lp_typeNot (LP.m (lp_var (i := 0)))))) (lb_not (lb_test (LP.m (lp_chain (LP.m lp_int) (LP.m (lp_cb (lms_cons (LP.m (lp_var (i := 0))) lms_nil) rc_len)) (LP.m lp_int) rb_U rb_U)))))) (ls_ret (LP.e lp_bl)) ls_next)
 (ls_ret (le_call (les_cons (LP.e (lp_var (i := 0))) les_nil)))) ?_
  rintro ds Q ⟨r, rfl, hr, q⟩
  (simp only [TN.sSeq, TN.sNext, TN.sDrop, TN.sRet, TN.sRetL, TN.sRetN, TN.sIf, TN.sAsg, TN.sAsgL, TN.sStore, TN.sForL, TN.sForT, TN.sForR, TN.sForR2, TN.tgN, TN.tgTup, TN.tgCons, TN.tgNil, TN.dP, TN.dB, TN.dCall, TN.dCallL, TN.dCallB, TN.dCallBL, TN.dCons, TN.dNil, TN.dTup, TN.dLst, TN.dKeep, TN.dVar, TN.fVar, TN.fPeek, TN.fC, TN.f2, TN.d2, TN.d2V, TN.f1, TN.d1, TN.fCB, TN.dCB, TN.dCBL, TN.fNil, TN.fCons, TN.asBool, TN.dTest, TN.bAnd, TN.bOr, TN.bNot, TN.dAnd, TN.dOr, TN.dNot, TN.fAndV, TN.fOrV, TN.fNotV, TN.dAndV, TN.dOrV, TN.dNotV, TN.dIfE, TN.dIfL, TN.fIfE, TN.fChain, TN.fSlice, TN.dSlice, TN.fNo, TN.fEnd, TN.dAppend, TN.dInsert, TN.dPopAt, TN.ownL, TN.start0, TN.begB, TN.backD, TN.wipeD, TN.dYes, TN.sNever, List.getElem?_cons_zero, List.getElem?_cons_succ, List.set_cons_zero, List.set_cons_succ, List.map_cons, List.map_nil, List.length_cons, List.length_nil, List.cons_append, List.nil_append, List.replicate_succ, List.replicate_zero, Option.map_some, Option.map_none, Nat.add_one_sub_one, Nat.sub_zero, Nat.sub_self, Nat.zero_add, reduceCtorEq, Option.some.injEq, PyData.int.injEq, PyData.str.injEq, PyData.bool.injEq, PyData.list.injEq, PyData.tuple.injEq, Sl.sh.injEq, Sl.ow.injEq, List.cons.injEq, exists_eq_left', exists_eq_left, true_implies, false_implies, and_true, true_and, forall_const, Option.isSome_some, TN.imp_ff, TN.imp_tf, TN.imp_tt, exists_eq_left, exists_eq_left', exists_eq])
  have n1 := hr.few
  have n2 : 0 < r.length := List.length_pos_iff.mpr hr.ne
  have a1 : ((1 : Int) ≤ r.length) := by omega
  have a2 : ((r.length : Int) ≤ 16) := by omega
  refine ⟨false, ?_, (fun z => by cases z), fun _ => ⟨r, rfl, hr, _, rfl, q⟩⟩
  (simp only [Ev.d, TN.ix0, TN.ix1, TN.ix2, TN.ixl0, TN.ixl1, TN.ixl2, TN.ixm2, TN.ixm3, TN.len2, TN.len3, TN.neg1, TN.ty_tup, TN.ty_lst, TN.ty_str, TN.ty_int, TN.oLen_tupL, TN.oLen_lstL, TN.oU_int, TN.oEq_int, TN.oNe_int, decide_true, Bool.not_true, Bool.not_false, reduceCtorEq, Option.some.injEq, PyData.int.injEq, PyData.str.injEq, PyData.bool.injEq, PyData.list.injEq, PyData.tuple.injEq, exists_eq_left', TN.imp_ff, TN.imp_tf, TN.imp_tt, true_and, and_true, forall_const, true_implies, false_implies, TN.w_place_place, TN.n_place_place, TN.w_place_name, TN.n_place_name, TN.w_place_lost, TN.n_place_lost, TN.w_place_twice, TN.n_place_twice, TN.w_place_as, TN.n_place_as, TN.w_name_place, TN.n_name_place, TN.w_name_name, TN.n_name_name, TN.w_name_lost, TN.n_name_lost, TN.w_name_twice, TN.n_name_twice, TN.w_name_as, TN.n_name_as, TN.w_lost_place, TN.n_lost_place, TN.w_lost_name, TN.n_lost_name, TN.w_lost_lost, TN.n_lost_lost, TN.w_lost_twice, TN.n_lost_twice, TN.w_lost_as, TN.n_lost_as, TN.w_twice_place, TN.n_twice_place, TN.w_twice_name, TN.n_twice_name, TN.w_twice_lost, TN.n_twice_lost, TN.w_twice_twice, TN.n_twice_twice, TN.w_twice_as, TN.n_twice_as, TN.w_as_place, TN.n_as_place, TN.w_as_name, TN.n_as_name, TN.w_as_lost, TN.n_as_lost, TN.w_as_twice, TN.n_as_twice, TN.w_as_as, TN.n_as_as])
  simp [a1, a2]

abbrev s_are_unlike_letters : Stmt := topS 12
theorem sc_are_unlike_letters : FnScope ["parts", "part"] ["parts"] (defScope s_are_unlike_letters) := ⟨rfl, rfl, rfl, by decide +kernel, rfl, by decide +kernel, by decide +kernel⟩
theorem ok_are_unlike_letters (b : Blt mg) (h_is_letter : Has P w K mg base "is_letter" 1 ["thing"] (sp0 K semLetter)) {f : Addr} {fd : FuncData} (F : Fun K "are_unlike_letters" "are_unlike_letters" s_are_unlike_letters f fd) : FnG P w K mg base CX0 2 f fd ["parts"] (sp0 K semUnlikeL) := by
  refine fn0 (k := 1) F sc_are_unlike_letters (fun ds Q h => by obtain ⟨r, rfl, _⟩ := h; rfl) (fun cdv A outer s H E hg hr =>
    have nd := sc_are_unlike_letters.nd
    have hu := hr.units
    have hu1 := hu_of hr
    (pss_one (ps_ret (pe_and (pe_callB (cr_all rfl) (by rfl) b.all (by decide +kernel) (pa_cons (pe_lc (own := [("part", 1)]) (g := gName 1) (tt := tYes) rfl nd (pi_tup (pv 0)) (blkOk_by (own := [("part", 1)]) (N := ["parts", "part"]) (sc := defScope s_are_unlike_letters) (by decide +kernel)) (fun _ _ _ _ _ => pg_name (i := 1) nd rfl (by first | exact Or.inl rfl | exact Or.inr rfl)) (fun _ _ _ _ _ => by exact pts_nil) (fun _ _ _ _ _ => by exact (pe_has (h_is_letter.up (by decide)) hg hr (by rfl) (pa_cons (pv 1) pa_nil)))) pa_nil)) (pe_one (pe_cmpR (op_eqD hu) (pe_lenSetT rfl (by rfl) b.len (by rfl) b.set (pv 0)) (pe_callB call_len (by rfl) b.len (by decide +kernel) (pa_cons (pv 0) pa_nil)) (nomark _)))))))
    (ls_ret (le_andV (le_cb (les_cons (LL.e (ll_compT (j := 1) (vs := [1]) (by decide) (by decide) (LP.e (lp_var (i := 0))) lt_yes (le_call (les_cons (LP.e (lp_var (i := 1))) les_nil)))) les_nil) rc_all) (LP.e (lp_op (LP.m (lp_lenSet (LP.m (lp_var (i := 0))))) (LP.m (lp_cb (lms_cons (LP.m (lp_var (i := 0))) lms_nil) rc_len)) rb_eq)))) ?_
  rintro ds Q ⟨r, rfl, hr, q⟩
  (simp only [TN.sSeq, TN.sNext, TN.sDrop, TN.sRet, TN.sRetL, TN.sRetN, TN.sIf, TN.sAsg, TN.sAsgL, TN.sStore, TN.sForL, TN.sForT, TN.sForR, TN.sForR2, TN.tgN, TN.tgTup, TN.tgCons, TN.tgNil, TN.dP, TN.dB, TN.dCall, TN.dCallL, TN.dCallB, TN.dCallBL, TN.dCons, TN.dNil, TN.dTup, TN.dLst, TN.dKeep, TN.dVar, TN.fVar, TN.fPeek, TN.fC, TN.f2, TN.d2, TN.d2V, TN.f1, TN.d1, TN.fCB, TN.dCB, TN.dCBL, TN.fNil, TN.fCons, TN.asBool, TN.dTest, TN.bAnd, TN.bOr, TN.bNot, TN.dAnd, TN.dOr, TN.dNot, TN.fAndV, TN.fOrV, TN.fNotV, TN.dAndV, TN.dOrV, TN.dNotV, TN.dIfE, TN.dIfL, TN.fIfE, TN.fChain, TN.fSlice, TN.dSlice, TN.fNo, TN.fEnd, TN.dAppend, TN.dInsert, TN.dPopAt, TN.ownL, TN.start0, TN.begB, TN.backD, TN.wipeD, TN.dYes, TN.sNever, List.getElem?_cons_zero, List.getElem?_cons_succ, List.set_cons_zero, List.set_cons_succ, List.map_cons, List.map_nil, List.length_cons, List.length_nil, List.cons_append, List.nil_append, List.replicate_succ, List.replicate_zero, Option.map_some, Option.map_none, Nat.add_one_sub_one, Nat.sub_zero, Nat.sub_self, Nat.zero_add, reduceCtorEq, Option.some.injEq, PyData.int.injEq, PyData.str.injEq, PyData.bool.injEq, PyData.list.injEq, PyData.tuple.injEq, Sl.sh.injEq, Sl.ow.injEq, List.cons.injEq, exists_eq_left', exists_eq_left, true_implies, false_implies, and_true, true_and, forall_const, Option.isSome_some, TN.imp_ff, TN.imp_tf, TN.imp_tt, exists_eq_left, exists_eq_left', exists_eq])
  have n1 := hr.few
  have n2 : 0 < r.length := List.length_pos_iff.mpr hr.ne
  refine ⟨_, rfl, _, rfl, ?_⟩
  refine comp_all (fun d => ∃ x ∈ r, d = .str x) (fun _ => .bool true) rfl (fun _ => rfl) ?_ _ _ ?_ ?_ ?_
  · rintro d R ⟨x, hx, rfl⟩ k
    (simp only [TN.sSeq, TN.sNext, TN.sDrop, TN.sRet, TN.sRetL, TN.sRetN, TN.sIf, TN.sAsg, TN.sAsgL, TN.sStore, TN.sForL, TN.sForT, TN.sForR, TN.sForR2, TN.tgN, TN.tgTup, TN.tgCons, TN.tgNil, TN.dP, TN.dB, TN.dCall, TN.dCallL, TN.dCallB, TN.dCallBL, TN.dCons, TN.dNil, TN.dTup, TN.dLst, TN.dKeep, TN.dVar, TN.fVar, TN.fPeek, TN.fC, TN.f2, TN.d2, TN.d2V, TN.f1, TN.d1, TN.fCB, TN.dCB, TN.dCBL, TN.fNil, TN.fCons, TN.asBool, TN.dTest, TN.bAnd, TN.bOr, TN.bNot, TN.dAnd, TN.dOr, TN.dNot, TN.fAndV, TN.fOrV, TN.fNotV, TN.dAndV, TN.dOrV, TN.dNotV, TN.dIfE, TN.dIfL, TN.fIfE, TN.fChain, TN.fSlice, TN.dSlice, TN.fNo, TN.fEnd, TN.dAppend, TN.dInsert, TN.dPopAt, TN.ownL, TN.start0, TN.begB, TN.backD, TN.wipeD, TN.dYes, TN.sNever, List.getElem?_cons_zero, List.getElem?_cons_succ, List.set_cons_zero, List.set_cons_succ, List.map_cons, List.map_nil, List.length_cons, List.length_nil, List.cons_append, List.nil_append, List.replicate_succ, List.replicate_zero, Option.map_some, Option.map_none, Nat.add_one_sub_one, Nat.sub_zero, Nat.sub_self, Nat.zero_add, reduceCtorEq, Option.some.injEq, PyData.int.injEq, PyData.str.injEq, PyData.bool.injEq, PyData.list.injEq, PyData.tuple.injEq, Sl.sh.injEq, Sl.ow.injEq, List.cons.injEq, exists_eq_left', exists_eq_left, true_implies, false_implies, and_true, true_and, forall_const, Option.isSome_some, TN.imp_ff, TN.imp_tf, TN.imp_tt, exists_eq_left, exists_eq_left', exists_eq])
    exact ⟨x, rfl, hr.let' x hx, _, rfl, k⟩
  · intro d hd
    obtain ⟨x, hx, rfl⟩ := List.mem_map.mp hd
    exact ⟨x, hx, rfl⟩
  · simp; omega
  · rw [List.nil_append]
    refine ⟨_, oAll_tt, true, rfl, fun _ => ⟨.bool true, ?_, q⟩, (fun z => by cases z)⟩
    (simp only [TN.sSeq, TN.sNext, TN.sDrop, TN.sRet, TN.sRetL, TN.sRetN, TN.sIf, TN.sAsg, TN.sAsgL, TN.sStore, TN.sForL, TN.sForT, TN.sForR, TN.sForR2, TN.tgN, TN.tgTup, TN.tgCons, TN.tgNil, TN.dP, TN.dB, TN.dCall, TN.dCallL, TN.dCallB, TN.dCallBL, TN.dCons, TN.dNil, TN.dTup, TN.dLst, TN.dKeep, TN.dVar, TN.fVar, TN.fPeek, TN.fC, TN.f2, TN.d2, TN.d2V, TN.f1, TN.d1, TN.fCB, TN.dCB, TN.dCBL, TN.fNil, TN.fCons, TN.asBool, TN.dTest, TN.bAnd, TN.bOr, TN.bNot, TN.dAnd, TN.dOr, TN.dNot, TN.fAndV, TN.fOrV, TN.fNotV, TN.dAndV, TN.dOrV, TN.dNotV, TN.dIfE, TN.dIfL, TN.fIfE, TN.fChain, TN.fSlice, TN.dSlice, TN.fNo, TN.fEnd, TN.dAppend, TN.dInsert, TN.dPopAt, TN.ownL, TN.start0, TN.begB, TN.backD, TN.wipeD, TN.dYes, TN.sNever, List.getElem?_cons_zero, List.getElem?_cons_succ, List.set_cons_zero, List.set_cons_succ, List.map_cons, List.map_nil, List.length_cons, List.length_nil, List.cons_append, List.nil_append, List.replicate_succ, List.replicate_zero, Option.map_some, Option.map_none, Nat.add_one_sub_one, Nat.sub_zero, Nat.sub_self, Nat.zero_add, reduceCtorEq, Option.some.injEq, PyData.int.injEq, PyData.str.injEq, PyData.bool.injEq, PyData.list.injEq, PyData.tuple.injEq, Sl.sh.injEq, Sl.ow.injEq, List.cons.injEq, exists_eq_left', exists_eq_left, true_implies, false_implies, and_true, true_and, forall_const, Option.isSome_some, TN.imp_ff, TN.imp_tf, TN.imp_tt, exists_eq_left, exists_eq_left', exists_eq])
    rw [oLenSet_nd hr.nd (by omega)]
    (simp only [Ev.d, TN.ix0, TN.ix1, TN.ix2, TN.ixl0, TN.ixl1, TN.ixl2, TN.ixm2, TN.ixm3, TN.len2, TN.len3, TN.neg1, TN.ty_tup, TN.ty_lst, TN.ty_str, TN.ty_int, TN.oLen_tupL, TN.oLen_lstL, TN.oU_int, TN.oEq_int, TN.oNe_int, decide_true, Bool.not_true, Bool.not_false, reduceCtorEq, Option.some.injEq, PyData.int.injEq, PyData.str.injEq, PyData.bool.injEq, PyData.list.injEq, PyData.tuple.injEq, exists_eq_left', TN.imp_ff, TN.imp_tf, TN.imp_tt, true_and, and_true, forall_const, true_implies, false_implies, TN.w_place_place, TN.n_place_place, TN.w_place_name, TN.n_place_name, TN.w_place_lost, TN.n_place_lost, TN.w_place_twice, TN.n_place_twice, TN.w_place_as, TN.n_place_as, TN.w_name_place, TN.n_name_place, TN.w_name_name, TN.n_name_name, TN.w_name_lost, TN.n_name_lost, TN.w_name_twice, TN.n_name_twice, TN.w_name_as, TN.n_name_as, TN.w_lost_place, TN.n_lost_place, TN.w_lost_name, TN.n_lost_name, TN.w_lost_lost, TN.n_lost_lost, TN.w_lost_twice, TN.n_lost_twice, TN.w_lost_as, TN.n_lost_as, TN.w_twice_place, TN.n_twice_place, TN.w_twice_name, TN.n_twice_name, TN.w_twice_lost, TN.n_twice_lost, TN.w_twice_twice, TN.n_twice_twice, TN.w_twice_as, TN.n_twice_as, TN.w_as_place, TN.n_as_place, TN.w_as_name, TN.n_as_name, TN.w_as_lost, TN.n_as_lost, TN.w_as_twice, TN.n_as_twice, TN.w_as_as, TN.n_as_as])

abbrev s_is_pair : Stmt := topS 13
theorem sc_is_pair : FnScope ["thing", "told", "heard"] ["thing"] (defScope s_is_pair) := ⟨rfl, rfl, rfl, by decide +kernel, rfl, by decide +kernel, by decide +kernel⟩
theorem ok_is_pair (b : Blt mg) (h_is_row : Has P w K mg base "is_row" 3 ["thing"] (sp0 K semRow)) {f : Addr} {fd : FuncData} (F : Fun K "is_pair" "is_pair" s_is_pair f fd) : FnG P w K mg base CX0 4 f fd ["thing"] (sp0 K semPair) := by
  refine fn0 (k := 3) F sc_is_pair (fun ds Q h => by obtain ⟨t, x, rfl, _⟩ := h; rfl) (fun cdv A outer s H E hg hr =>
    have nd := sc_is_pair.nd
    have hu := hr.units
    have hu1 := hu_of hr
    (pss_cons (ps_if (PW.pt (pw_or (pt_cmpR op_notTyB (pe_callTy call_typeF (by rfl) b.type (by decide +kernel) (pa_cons (pv 0) pa_nil)) (pe_bltn (v := .ty "tuple") (by rfl) b.tuple (by decide +kernel) rfl) (nomark _)) (pw_or1 (pt_cmpR (op_neD hu) (pe_callB call_len (by rfl) b.len (by decide +kernel) (pa_cons (pv 0) pa_nil)) pe_int (nomark _))))) (pss_one (ps_ret pe_bl)) pss_nil)
 (pss_cons (ps_asg (pv 0) (pg_tup (n := 2) rfl (pgs_cons (pg_name (i := 1) nd rfl (by first | exact Or.inl rfl | exact Or.inr rfl)) (pgs_cons (pg_name (i := 2) nd rfl (by first | exact Or.inl rfl | exact Or.inr rfl)) pgs_nil))))
 (pss_one (ps_ret (pe_and (pe_has (h_is_row.up (by decide)) hg hr (by rfl) (pa_cons (pv 1) pa_nil)) (pe_and (pe_has (h_is_row.up (by decide)) hg hr (by rfl) (pa_cons (pv 2) pa_nil)) (pe_one (pe_cmpR (op_eqD hu) (pe_callB call_sortedA (by rfl) b.sorted (by decide +kernel) (pa_cons (pv 1) pa_nil)) (pe_callB call_sortedA (by rfl) b.sorted (by decide +kernel) (pa_cons (pv 2) pa_nil)) (nomark _))))))))))
    (ls_seq (ls_if (LB.g (lb_or (lb_test (LP.m (lp_typeNot (LP.m (lp_var (i := 0)))))) (lb_test (LP.m (lp_op (LP.m (lp_cb (lms_cons (LP.m (lp_var (i := 0))) lms_nil) rc_len)) (LP.m lp_int) rb_ne))))) (ls_ret (LP.e lp_bl)) ls_next)
 (ls_seq (ls_asg (LP.e (lp_var (i := 0))) (lg_tup (lgs_cons (lg_name (i := 1) (by decide)) (lgs_cons (lg_name (i := 2) (by decide)) lgs_nil))))
 (ls_ret (le_andV (le_call (les_cons (LP.e (lp_var (i := 1))) les_nil)) (le_andV (le_call (les_cons (LP.e (lp_var (i := 2))) les_nil)) (LP.e (lp_op (LP.m (lp_cb (lms_cons (LP.m (lp_var (i := 1))) lms_nil) (RCL.c rc_sorted))) (LP.m (lp_cb (lms_cons (LP.m (lp_var (i := 2))) lms_nil) (RCL.c rc_sorted))) rb_eq))))))) ?_
  rintro ds Q ⟨t, h, rfl, hp, q⟩
  (simp only [TN.sSeq, TN.sNext, TN.sDrop, TN.sRet, TN.sRetL, TN.sRetN, TN.sIf, TN.sAsg, TN.sAsgL, TN.sStore, TN.sForL, TN.sForT, TN.sForR, TN.sForR2, TN.tgN, TN.tgTup, TN.tgCons, TN.tgNil, TN.dP, TN.dB, TN.dCall, TN.dCallL, TN.dCallB, TN.dCallBL, TN.dCons, TN.dNil, TN.dTup, TN.dLst, TN.dKeep, TN.dVar, TN.fVar, TN.fPeek, TN.fC, TN.f2, TN.d2, TN.d2V, TN.f1, TN.d1, TN.fCB, TN.dCB, TN.dCBL, TN.fNil, TN.fCons, TN.asBool, TN.dTest, TN.bAnd, TN.bOr, TN.bNot, TN.dAnd, TN.dOr, TN.dNot, TN.fAndV, TN.fOrV, TN.fNotV, TN.dAndV, TN.dOrV, TN.dNotV, TN.dIfE, TN.dIfL, TN.fIfE, TN.fChain, TN.fSlice, TN.dSlice, TN.fNo, TN.fEnd, TN.dAppend, TN.dInsert, TN.dPopAt, TN.ownL, TN.start0, TN.begB, TN.backD, TN.wipeD, TN.dYes, TN.sNever, List.getElem?_cons_zero, List.getElem?_cons_succ, List.set_cons_zero, List.set_cons_succ, List.map_cons, List.map_nil, List.length_cons, List.length_nil, List.cons_append, List.nil_append, List.replicate_succ, List.replicate_zero, Option.map_some, Option.map_none, Nat.add_one_sub_one, Nat.sub_zero, Nat.sub_self, Nat.zero_add, reduceCtorEq, Option.some.injEq, PyData.int.injEq, PyData.str.injEq, PyData.bool.injEq, PyData.list.injEq, PyData.tuple.injEq, Sl.sh.injEq, Sl.ow.injEq, List.cons.injEq, exists_eq_left', exists_eq_left, true_implies, false_implies, and_true, true_and, forall_const, Option.isSome_some, TN.imp_ff, TN.imp_tf, TN.imp_tt, exists_eq_left, exists_eq_left', exists_eq])
  have n1 := hp.gt.few
  have n2 := hp.len
  refine ⟨false, by (simp only [Ev.d, TN.ix0, TN.ix1, TN.ix2, TN.ixl0, TN.ixl1, TN.ixl2, TN.ixm2, TN.ixm3, TN.len2, TN.len3, TN.neg1, TN.ty_tup, TN.ty_lst, TN.ty_str, TN.ty_int, TN.oLen_tupL, TN.oLen_lstL, TN.oU_int, TN.oEq_int, TN.oNe_int, decide_true, Bool.not_true, Bool.not_false, reduceCtorEq, Option.some.injEq, PyData.int.injEq, PyData.str.injEq, PyData.bool.injEq, PyData.list.injEq, PyData.tuple.injEq, exists_eq_left', TN.imp_ff, TN.imp_tf, TN.imp_tt, true_and, and_true, forall_const, true_implies, false_implies, TN.w_place_place, TN.n_place_place, TN.w_place_name, TN.n_place_name, TN.w_place_lost, TN.n_place_lost, TN.w_place_twice, TN.n_place_twice, TN.w_place_as, TN.n_place_as, TN.w_name_place, TN.n_name_place, TN.w_name_name, TN.n_name_name, TN.w_name_lost, TN.n_name_lost, TN.w_name_twice, TN.n_name_twice, TN.w_name_as, TN.n_name_as, TN.w_lost_place, TN.n_lost_place, TN.w_lost_name, TN.n_lost_name, TN.w_lost_lost, TN.n_lost_lost, TN.w_lost_twice, TN.n_lost_twice, TN.w_lost_as, TN.n_lost_as, TN.w_twice_place, TN.n_twice_place, TN.w_twice_name, TN.n_twice_name, TN.w_twice_lost, TN.n_twice_lost, TN.w_twice_twice, TN.n_twice_twice, TN.w_twice_as, TN.n_twice_as, TN.w_as_place, TN.n_as_place, TN.w_as_name, TN.n_as_name, TN.w_as_lost, TN.n_as_lost, TN.w_as_twice, TN.n_as_twice, TN.w_as_as, TN.n_as_as]), (fun z => by cases z), fun _ => ⟨_, _, ⟨rfl, rfl⟩, _, _, rfl, rfl, t, rfl, hp.gt, _, rfl, true, rfl, fun _ => ⟨h, rfl, hp.gh, _, rfl, true, rfl, fun _ => ⟨.bool true, ?_, q⟩, (fun z => by cases z)⟩, (fun z => by cases z)⟩⟩
  rw [oSL_of (by omega), oSL_of (by omega)]
  show oEq _ _ = _
  have ok : ∀ x ∈ sortS h, okS x := fun x hx => hp.gh.oks x ((sortS_perm h).mem_iff.mp hx)
  rw [sortS_congr hp.pm, oEq_is (fine_lstL ok) (fine_lstL ok)]
  simp

abbrev s_is_letter_of : Stmt := topS 14
theorem sc_is_letter_of : FnScope ["row", "thing"] ["row", "thing"] (defScope s_is_letter_of) := ⟨rfl, rfl, rfl, by decide +kernel, rfl, by decide +kernel, by decide +kernel⟩
theorem ok_is_letter_of (b : Blt mg) (h_is_letter : Has P w K mg base "is_letter" 1 ["thing"] (sp0 K semLetter)) {f : Addr} {fd : FuncData} (F : Fun K "is_letter_of" "is_letter_of" s_is_letter_of f fd) : FnG P w K mg base CX0 2 f fd ["row", "thing"] (sp0 K semLetterOf) := by
  refine fn0 (k := 1) F sc_is_letter_of (fun ds Q h => by obtain ⟨r, x, rfl, _⟩ := h; rfl) (fun cdv A outer s H E hg hr =>
    have nd := sc_is_letter_of.nd
    have hu := hr.units
    have hu1 := hu_of hr
    (pss_one (ps_ret (pe_and (pe_has (h_is_letter.up (by decide)) hg hr (by rfl) (pa_cons (pv 1) pa_nil)) (pe_one (pe_cmpR op_in_seq (pv 1) (pv 0) rfl))))))
    (ls_ret (le_andV (le_call (les_cons (LP.e (lp_var (i := 1))) les_nil)) (LP.e (lp_op (LP.m (lp_var (i := 1))) (LP.m (lp_var (i := 0))) rb_in)))) ?_
  rintro ds Q ⟨r, x, rfl, hr, hx, q⟩
  (simp only [TN.sSeq, TN.sNext, TN.sDrop, TN.sRet, TN.sRetL, TN.sRetN, TN.sIf, TN.sAsg, TN.sAsgL, TN.sStore, TN.sForL, TN.sForT, TN.sForR, TN.sForR2, TN.tgN, TN.tgTup, TN.tgCons, TN.tgNil, TN.dP, TN.dB, TN.dCall, TN.dCallL, TN.dCallB, TN.dCallBL, TN.dCons, TN.dNil, TN.dTup, TN.dLst, TN.dKeep, TN.dVar, TN.fVar, TN.fPeek, TN.fC, TN.f2, TN.d2, TN.d2V, TN.f1, TN.d1, TN.fCB, TN.dCB, TN.dCBL, TN.fNil, TN.fCons, TN.asBool, TN.dTest, TN.bAnd, TN.bOr, TN.bNot, TN.dAnd, TN.dOr, TN.dNot, TN.fAndV, TN.fOrV, TN.fNotV, TN.dAndV, TN.dOrV, TN.dNotV, TN.dIfE, TN.dIfL, TN.fIfE, TN.fChain, TN.fSlice, TN.dSlice, TN.fNo, TN.fEnd, TN.dAppend, TN.dInsert, TN.dPopAt, TN.ownL, TN.start0, TN.begB, TN.backD, TN.wipeD, TN.dYes, TN.sNever, List.getElem?_cons_zero, List.getElem?_cons_succ, List.set_cons_zero, List.set_cons_succ, List.map_cons, List.map_nil, List.length_cons, List.length_nil, List.cons_append, List.nil_append, List.replicate_succ, List.replicate_zero, Option.map_some, Option.map_none, Nat.add_one_sub_one, Nat.sub_zero, Nat.sub_self, Nat.zero_add, reduceCtorEq, Option.some.injEq, PyData.int.injEq, PyData.str.injEq, PyData.bool.injEq, PyData.list.injEq, PyData.tuple.injEq, Sl.sh.injEq, Sl.ow.injEq, List.cons.injEq, exists_eq_left', exists_eq_left, true_implies, false_implies, and_true, true_and, forall_const, Option.isSome_some, TN.imp_ff, TN.imp_tf, TN.imp_tt, exists_eq_left, exists_eq_left', exists_eq])
  exact ⟨x, rfl, hr.let' x hx, _, rfl, true, rfl, fun _ => ⟨_, oIn_strs hx, q⟩, (fun z => by cases z)⟩

abbrev s_is_place : Stmt := topS 15
theorem sc_is_place : FnScope ["row", "thing"] ["row", "thing"] (defScope s_is_place) := ⟨rfl, rfl, rfl, by decide +kernel, rfl, by decide +kernel, by decide +kernel⟩
theorem ok_is_place (b : Blt mg) {f : Addr} {fd : FuncData} (F : Fun K "is_place" "is_place" s_is_place f fd) : FnG P w K mg base CX0 1 f fd ["row", "thing"] (sp0 K semPlace) := by
  refine fn0 (k := 0) F sc_is_place (fun ds Q h => by obtain ⟨r, p, rfl, _⟩ := h; rfl) (fun cdv A outer s H E hg hr =>
    have nd := sc_is_place.nd
    have hu := hr.units
    have hu1 := hu_of hr
    (pss_one (ps_ret (pe_and (pe_cmpR op_isTyB (pe_callTy call_typeF (by rfl) b.type (by decide +kernel) (pa_cons (pv 1) pa_nil)) (pe_bltn (v := .ty "int") (by rfl) b.int (by decide +kernel) rfl) (nomark _)) (pe_one (pe_chain op_leU op_ltU pe_int (pv 1) (pe_callB call_len (by rfl) b.len (by decide +kernel) (pa_cons (pv 0) pa_nil))))))))
    (ls_ret (LP.e (lp_andV (LP.m (lp_typeIs (LP.m (lp_var (i := 1))))) (lp_chain (LP.m lp_int) (LP.m (lp_var (i := 1))) (LP.m (lp_cb (lms_cons (LP.m (lp_var (i := 0))) lms_nil) rc_len)) rb_U rb_U)))) ?_
  rintro ds Q ⟨r, p, rfl, hp, q⟩
  (simp only [TN.sSeq, TN.sNext, TN.sDrop, TN.sRet, TN.sRetL, TN.sRetN, TN.sIf, TN.sAsg, TN.sAsgL, TN.sStore, TN.sForL, TN.sForT, TN.sForR, TN.sForR2, TN.tgN, TN.tgTup, TN.tgCons, TN.tgNil, TN.dP, TN.dB, TN.dCall, TN.dCallL, TN.dCallB, TN.dCallBL, TN.dCons, TN.dNil, TN.dTup, TN.dLst, TN.dKeep, TN.dVar, TN.fVar, TN.fPeek, TN.fC, TN.f2, TN.d2, TN.d2V, TN.f1, TN.d1, TN.fCB, TN.dCB, TN.dCBL, TN.fNil, TN.fCons, TN.asBool, TN.dTest, TN.bAnd, TN.bOr, TN.bNot, TN.dAnd, TN.dOr, TN.dNot, TN.fAndV, TN.fOrV, TN.fNotV, TN.dAndV, TN.dOrV, TN.dNotV, TN.dIfE, TN.dIfL, TN.fIfE, TN.fChain, TN.fSlice, TN.dSlice, TN.fNo, TN.fEnd, TN.dAppend, TN.dInsert, TN.dPopAt, TN.ownL, TN.start0, TN.begB, TN.backD, TN.wipeD, TN.dYes, TN.sNever, List.getElem?_cons_zero, List.getElem?_cons_succ, List.set_cons_zero, List.set_cons_succ, List.map_cons, List.map_nil, List.length_cons, List.length_nil, List.cons_append, List.nil_append, List.replicate_succ, List.replicate_zero, Option.map_some, Option.map_none, Nat.add_one_sub_one, Nat.sub_zero, Nat.sub_self, Nat.zero_add, reduceCtorEq, Option.some.injEq, PyData.int.injEq, PyData.str.injEq, PyData.bool.injEq, PyData.list.injEq, PyData.tuple.injEq, Sl.sh.injEq, Sl.ow.injEq, List.cons.injEq, exists_eq_left', exists_eq_left, true_implies, false_implies, and_true, true_and, forall_const, Option.isSome_some, TN.imp_ff, TN.imp_tf, TN.imp_tt, exists_eq_left, exists_eq_left', exists_eq])
  refine ⟨.bool true, ?_, q⟩
  (simp only [Ev.d, TN.ix0, TN.ix1, TN.ix2, TN.ixl0, TN.ixl1, TN.ixl2, TN.ixm2, TN.ixm3, TN.len2, TN.len3, TN.neg1, TN.ty_tup, TN.ty_lst, TN.ty_str, TN.ty_int, TN.oLen_tupL, TN.oLen_lstL, TN.oU_int, TN.oEq_int, TN.oNe_int, decide_true, Bool.not_true, Bool.not_false, reduceCtorEq, Option.some.injEq, PyData.int.injEq, PyData.str.injEq, PyData.bool.injEq, PyData.list.injEq, PyData.tuple.injEq, exists_eq_left', TN.imp_ff, TN.imp_tf, TN.imp_tt, true_and, and_true, forall_const, true_implies, false_implies, TN.w_place_place, TN.n_place_place, TN.w_place_name, TN.n_place_name, TN.w_place_lost, TN.n_place_lost, TN.w_place_twice, TN.n_place_twice, TN.w_place_as, TN.n_place_as, TN.w_name_place, TN.n_name_place, TN.w_name_name, TN.n_name_name, TN.w_name_lost, TN.n_name_lost, TN.w_name_twice, TN.n_name_twice, TN.w_name_as, TN.n_name_as, TN.w_lost_place, TN.n_lost_place, TN.w_lost_name, TN.n_lost_name, TN.w_lost_lost, TN.n_lost_lost, TN.w_lost_twice, TN.n_lost_twice, TN.w_lost_as, TN.n_lost_as, TN.w_twice_place, TN.n_twice_place, TN.w_twice_name, TN.n_twice_name, TN.w_twice_lost, TN.n_twice_lost, TN.w_twice_twice, TN.n_twice_twice, TN.w_twice_as, TN.n_twice_as, TN.w_as_place, TN.n_as_place, TN.w_as_name, TN.n_as_name, TN.w_as_lost, TN.n_as_lost, TN.w_as_twice, TN.n_as_twice, TN.w_as_as, TN.n_as_as])
  have a1 : ((0 : Int) ≤ p) := by omega
  have a2 : ((p : Int) < r.length) := by omega
  simp [a1, a2]

abbrev s_is_event_of : Stmt := topS 16
theorem sc_is_event_of : FnScope ["row", "thing", "word"] ["row", "thing"] (defScope s_is_event_of) := ⟨rfl, rfl, rfl, by decide +kernel, rfl, by decide +kernel, by decide +kernel⟩
theorem ok_is_event_of (b : Blt mg) (h_has_word : Has P w K mg base "has_word" 1 ["thing"] (sp0 K semHasWord)) (h_are_unlike_places : Has P w K mg base "are_unlike_places" 2 ["row", "one", "other"] (sp0 K semUnlike)) (h_is_letter_of : Has P w K mg base "is_letter_of" 2 ["row", "thing"] (sp0 K semLetterOf)) (h_is_place : Has P w K mg base "is_place" 1 ["row", "thing"] (sp0 K semPlace)) {aW : Addr} (c_WORDS : mg "WORDS_WITH_ONE_PLACE" = some (.ref aW)) (l_WORDS : LP K [] (tC (.ref aW)) (fC (.tuple ((["place", "lost", "twice"] : List Str).map PyData.str)))) {f : Addr} {fd : FuncData} (F : Fun K "is_event_of" "is_event_of" s_is_event_of f fd) : FnG P w K mg base CX0 3 f fd ["row", "thing"] (sp0 K semEventOf) := by
  refine fn0 (k := 2) F sc_is_event_of (fun ds Q h => by obtain ⟨r, e, rfl, _⟩ := h; rfl) (fun cdv A outer s H E hg hr =>
    have nd := sc_is_event_of.nd
    have hu := hr.units
    have hu1 := hu_of hr
    (pss_cons (ps_if (pt_not (pt_val (pe_has (h_has_word.up (by decide)) hg hr (by rfl) (pa_cons (pv 1) pa_nil)))) (pss_one (ps_ret pe_bl)) pss_nil)
 (pss_cons (ps_set (i := 2) nd rfl (by first | exact Or.inl rfl | exact Or.inr rfl) (pe_ix ix_seq (pv 1) pe_int (fun _ _ => rfl)))
 (pss_cons (ps_if (pt_cmpR (op_eqD hu) (pe_callB call_len (by rfl) b.len (by decide +kernel) (pa_cons (pv 1) pa_nil)) pe_int (nomark _)) (pss_one (ps_ret (pe_and (pe_cmpR (op_eqD hu) (pv 2) pe_str (nomark _)) (pe_one (pe_has (h_are_unlike_places.up (by decide)) hg hr (by rfl) (pa_cons (pv 0) (pa_cons (pe_ix ix_seq (pv 1) pe_int (fun _ _ => rfl)) (pa_cons (pe_ix ix_seq (pv 1) pe_int (fun _ _ => rfl)) pa_nil)))))))) pss_nil)
 (pss_cons (ps_if (pt_cmpR (op_eqD hu) (pv 2) pe_str (nomark _)) (pss_one (ps_ret (pe_has (h_is_letter_of.up (by decide)) hg hr (by rfl) (pa_cons (pv 0) (pa_cons (pe_ix ix_seq (pv 1) pe_int (fun _ _ => rfl)) pa_nil))))) pss_nil)
 (pss_one (ps_ret (pe_and (pe_cmpR op_in_seq (pv 2) (pe_glob (v := .ref aW) (by rfl) c_WORDS rfl) rfl) (pe_one (pe_has (h_is_place.up (by decide)) hg hr (by rfl) (pa_cons (pv 0) (pa_cons (pe_ix ix_seq (pv 1) pe_int (fun _ _ => rfl)) pa_nil))))))))))))
    (ls_seq (ls_if (lt_not (lt_B (le_call (les_cons (LP.e (lp_var (i := 1))) les_nil)))) (ls_ret (LP.e lp_bl)) ls_next)
 (ls_seq (ls_asg (LP.e (lp_op (LP.m (lp_var (i := 1))) (LP.m lp_int) rb_ix)) (lg_name (i := 2) (by decide)))
 (ls_seq (ls_if (LB.g (lb_test (LP.m (lp_op (LP.m (lp_cb (lms_cons (LP.m (lp_var (i := 1))) lms_nil) rc_len)) (LP.m lp_int) rb_eq)))) (ls_ret (le_andV (LP.e (lp_op (LP.m (lp_var (i := 2))) (LP.m lp_str) rb_eq)) (le_call (les_cons (LP.e (lp_var (i := 0))) (les_cons (LP.e (lp_op (LP.m (lp_var (i := 1))) (LP.m lp_int) rb_ix)) (les_cons (LP.e (lp_op (LP.m (lp_var (i := 1))) (LP.m lp_int) rb_ix)) les_nil)))))) ls_next)
 (ls_seq (ls_if (LB.g (lb_test (LP.m (lp_op (LP.m (lp_var (i := 2))) (LP.m lp_str) rb_eq)))) (ls_ret (le_call (les_cons (LP.e (lp_var (i := 0))) (les_cons (LP.e (lp_op (LP.m (lp_var (i := 1))) (LP.m lp_int) rb_ix)) les_nil)))) ls_next)
 (ls_ret (le_andV (LP.e (lp_op (LP.m (lp_var (i := 2))) (LP.m l_WORDS) rb_in)) (le_call (les_cons (LP.e (lp_var (i := 0))) (les_cons (LP.e (lp_op (LP.m (lp_var (i := 1))) (LP.m lp_int) rb_ix)) les_nil))))))))) ?_
  rintro ds Q ⟨r, e, rfl, hr, he, q⟩
  (simp only [TN.sSeq, TN.sNext, TN.sDrop, TN.sRet, TN.sRetL, TN.sRetN, TN.sIf, TN.sAsg, TN.sAsgL, TN.sStore, TN.sForL, TN.sForT, TN.sForR, TN.sForR2, TN.tgN, TN.tgTup, TN.tgCons, TN.tgNil, TN.dP, TN.dB, TN.dCall, TN.dCallL, TN.dCallB, TN.dCallBL, TN.dCons, TN.dNil, TN.dTup, TN.dLst, TN.dKeep, TN.dVar, TN.fVar, TN.fPeek, TN.fC, TN.f2, TN.d2, TN.d2V, TN.f1, TN.d1, TN.fCB, TN.dCB, TN.dCBL, TN.fNil, TN.fCons, TN.asBool, TN.dTest, TN.bAnd, TN.bOr, TN.bNot, TN.dAnd, TN.dOr, TN.dNot, TN.fAndV, TN.fOrV, TN.fNotV, TN.dAndV, TN.dOrV, TN.dNotV, TN.dIfE, TN.dIfL, TN.fIfE, TN.fChain, TN.fSlice, TN.dSlice, TN.fNo, TN.fEnd, TN.dAppend, TN.dInsert, TN.dPopAt, TN.ownL, TN.start0, TN.begB, TN.backD, TN.wipeD, TN.dYes, TN.sNever, List.getElem?_cons_zero, List.getElem?_cons_succ, List.set_cons_zero, List.set_cons_succ, List.map_cons, List.map_nil, List.length_cons, List.length_nil, List.cons_append, List.nil_append, List.replicate_succ, List.replicate_zero, Option.map_some, Option.map_none, Nat.add_one_sub_one, Nat.sub_zero, Nat.sub_self, Nat.zero_add, reduceCtorEq, Option.some.injEq, PyData.int.injEq, PyData.str.injEq, PyData.bool.injEq, PyData.list.injEq, PyData.tuple.injEq, Sl.sh.injEq, Sl.ow.injEq, List.cons.injEq, exists_eq_left', exists_eq_left, true_implies, false_implies, and_true, true_and, forall_const, Option.isSome_some, TN.imp_ff, TN.imp_tf, TN.imp_tt, exists_eq_left, exists_eq_left', exists_eq])
  refine ⟨e, rfl, _, rfl, true, rfl, (fun z => by cases z), fun _ => ?_⟩
  cases e with
  | name x =>
    (try (simp only [TN.sSeq, TN.sNext, TN.sDrop, TN.sRet, TN.sRetL, TN.sRetN, TN.sIf, TN.sAsg, TN.sAsgL, TN.sStore, TN.sForL, TN.sForT, TN.sForR, TN.sForR2, TN.tgN, TN.tgTup, TN.tgCons, TN.tgNil, TN.dP, TN.dB, TN.dCall, TN.dCallL, TN.dCallB, TN.dCallBL, TN.dCons, TN.dNil, TN.dTup, TN.dLst, TN.dKeep, TN.dVar, TN.fVar, TN.fPeek, TN.fC, TN.f2, TN.d2, TN.d2V, TN.f1, TN.d1, TN.fCB, TN.dCB, TN.dCBL, TN.fNil, TN.fCons, TN.asBool, TN.dTest, TN.bAnd, TN.bOr, TN.bNot, TN.dAnd, TN.dOr, TN.dNot, TN.fAndV, TN.fOrV, TN.fNotV, TN.dAndV, TN.dOrV, TN.dNotV, TN.dIfE, TN.dIfL, TN.fIfE, TN.fChain, TN.fSlice, TN.dSlice, TN.fNo, TN.fEnd, TN.dAppend, TN.dInsert, TN.dPopAt, TN.ownL, TN.start0, TN.begB, TN.backD, TN.wipeD, TN.dYes, TN.sNever, List.getElem?_cons_zero, List.getElem?_cons_succ, List.set_cons_zero, List.set_cons_succ, List.map_cons, List.map_nil, List.length_cons, List.length_nil, List.cons_append, List.nil_append, List.replicate_succ, List.replicate_zero, Option.map_some, Option.map_none, Nat.add_one_sub_one, Nat.sub_zero, Nat.sub_self, Nat.zero_add, reduceCtorEq, Option.some.injEq, PyData.int.injEq, PyData.str.injEq, PyData.bool.injEq, PyData.list.injEq, PyData.tuple.injEq, Sl.sh.injEq, Sl.ow.injEq, List.cons.injEq, exists_eq_left', exists_eq_left, true_implies, false_implies, and_true, true_and, forall_const, Option.isSome_some, TN.imp_ff, TN.imp_tf, TN.imp_tt, exists_eq_left, exists_eq_left', exists_eq])); (simp only [Ev.d, TN.ix0, TN.ix1, TN.ix2, TN.ixl0, TN.ixl1, TN.ixl2, TN.ixm2, TN.ixm3, TN.len2, TN.len3, TN.neg1, TN.ty_tup, TN.ty_lst, TN.ty_str, TN.ty_int, TN.oLen_tupL, TN.oLen_lstL, TN.oU_int, TN.oEq_int, TN.oNe_int, decide_true, Bool.not_true, Bool.not_false, reduceCtorEq, Option.some.injEq, PyData.int.injEq, PyData.str.injEq, PyData.bool.injEq, PyData.list.injEq, PyData.tuple.injEq, exists_eq_left', TN.imp_ff, TN.imp_tf, TN.imp_tt, true_and, and_true, forall_const, true_implies, false_implies, TN.w_place_place, TN.n_place_place, TN.w_place_name, TN.n_place_name, TN.w_place_lost, TN.n_place_lost, TN.w_place_twice, TN.n_place_twice, TN.w_place_as, TN.n_place_as, TN.w_name_place, TN.n_name_place, TN.w_name_name, TN.n_name_name, TN.w_name_lost, TN.n_name_lost, TN.w_name_twice, TN.n_name_twice, TN.w_name_as, TN.n_name_as, TN.w_lost_place, TN.n_lost_place, TN.w_lost_name, TN.n_lost_name, TN.w_lost_lost, TN.n_lost_lost, TN.w_lost_twice, TN.n_lost_twice, TN.w_lost_as, TN.n_lost_as, TN.w_twice_place, TN.n_twice_place, TN.w_twice_name, TN.n_twice_name, TN.w_twice_lost, TN.n_twice_lost, TN.w_twice_twice, TN.n_twice_twice, TN.w_twice_as, TN.n_twice_as, TN.w_as_place, TN.n_as_place, TN.w_as_name, TN.n_as_name, TN.w_as_lost, TN.n_as_lost, TN.w_as_twice, TN.n_as_twice, TN.w_as_as, TN.n_as_as])
    simp
    exact ⟨r, x, rfl, hr, he, _, rfl, q⟩
  | as' p p' =>
    (try (simp only [TN.sSeq, TN.sNext, TN.sDrop, TN.sRet, TN.sRetL, TN.sRetN, TN.sIf, TN.sAsg, TN.sAsgL, TN.sStore, TN.sForL, TN.sForT, TN.sForR, TN.sForR2, TN.tgN, TN.tgTup, TN.tgCons, TN.tgNil, TN.dP, TN.dB, TN.dCall, TN.dCallL, TN.dCallB, TN.dCallBL, TN.dCons, TN.dNil, TN.dTup, TN.dLst, TN.dKeep, TN.dVar, TN.fVar, TN.fPeek, TN.fC, TN.f2, TN.d2, TN.d2V, TN.f1, TN.d1, TN.fCB, TN.dCB, TN.dCBL, TN.fNil, TN.fCons, TN.asBool, TN.dTest, TN.bAnd, TN.bOr, TN.bNot, TN.dAnd, TN.dOr, TN.dNot, TN.fAndV, TN.fOrV, TN.fNotV, TN.dAndV, TN.dOrV, TN.dNotV, TN.dIfE, TN.dIfL, TN.fIfE, TN.fChain, TN.fSlice, TN.dSlice, TN.fNo, TN.fEnd, TN.dAppend, TN.dInsert, TN.dPopAt, TN.ownL, TN.start0, TN.begB, TN.backD, TN.wipeD, TN.dYes, TN.sNever, List.getElem?_cons_zero, List.getElem?_cons_succ, List.set_cons_zero, List.set_cons_succ, List.map_cons, List.map_nil, List.length_cons, List.length_nil, List.cons_append, List.nil_append, List.replicate_succ, List.replicate_zero, Option.map_some, Option.map_none, Nat.add_one_sub_one, Nat.sub_zero, Nat.sub_self, Nat.zero_add, reduceCtorEq, Option.some.injEq, PyData.int.injEq, PyData.str.injEq, PyData.bool.injEq, PyData.list.injEq, PyData.tuple.injEq, Sl.sh.injEq, Sl.ow.injEq, List.cons.injEq, exists_eq_left', exists_eq_left, true_implies, false_implies, and_true, true_and, forall_const, Option.isSome_some, TN.imp_ff, TN.imp_tf, TN.imp_tt, exists_eq_left, exists_eq_left', exists_eq])); (simp only [Ev.d, TN.ix0, TN.ix1, TN.ix2, TN.ixl0, TN.ixl1, TN.ixl2, TN.ixm2, TN.ixm3, TN.len2, TN.len3, TN.neg1, TN.ty_tup, TN.ty_lst, TN.ty_str, TN.ty_int, TN.oLen_tupL, TN.oLen_lstL, TN.oU_int, TN.oEq_int, TN.oNe_int, decide_true, Bool.not_true, Bool.not_false, reduceCtorEq, Option.some.injEq, PyData.int.injEq, PyData.str.injEq, PyData.bool.injEq, PyData.list.injEq, PyData.tuple.injEq, exists_eq_left', TN.imp_ff, TN.imp_tf, TN.imp_tt, true_and, and_true, forall_const, true_implies, false_implies, TN.w_place_place, TN.n_place_place, TN.w_place_name, TN.n_place_name, TN.w_place_lost, TN.n_place_lost, TN.w_place_twice, TN.n_place_twice, TN.w_place_as, TN.n_place_as, TN.w_name_place, TN.n_name_place, TN.w_name_name, TN.n_name_name, TN.w_name_lost, TN.n_name_lost, TN.w_name_twice, TN.n_name_twice, TN.w_name_as, TN.n_name_as, TN.w_lost_place, TN.n_lost_place, TN.w_lost_name, TN.n_lost_name, TN.w_lost_lost, TN.n_lost_lost, TN.w_lost_twice, TN.n_lost_twice, TN.w_lost_as, TN.n_lost_as, TN.w_twice_place, TN.n_twice_place, TN.w_twice_name, TN.n_twice_name, TN.w_twice_lost, TN.n_twice_lost, TN.w_twice_twice, TN.n_twice_twice, TN.w_twice_as, TN.n_twice_as, TN.w_as_place, TN.n_as_place, TN.w_as_name, TN.n_as_name, TN.w_as_lost, TN.n_as_lost, TN.w_as_twice, TN.n_as_twice, TN.w_as_as, TN.n_as_as])
    try simp
    exact ⟨r, p, p', rfl, he.1, he.2.1, he.2.2, _, rfl, q⟩
  | _ p =>
    (try (simp only [TN.sSeq, TN.sNext, TN.sDrop, TN.sRet, TN.sRetL, TN.sRetN, TN.sIf, TN.sAsg, TN.sAsgL, TN.sStore, TN.sForL, TN.sForT, TN.sForR, TN.sForR2, TN.tgN, TN.tgTup, TN.tgCons, TN.tgNil, TN.dP, TN.dB, TN.dCall, TN.dCallL, TN.dCallB, TN.dCallBL, TN.dCons, TN.dNil, TN.dTup, TN.dLst, TN.dKeep, TN.dVar, TN.fVar, TN.fPeek, TN.fC, TN.f2, TN.d2, TN.d2V, TN.f1, TN.d1, TN.fCB, TN.dCB, TN.dCBL, TN.fNil, TN.fCons, TN.asBool, TN.dTest, TN.bAnd, TN.bOr, TN.bNot, TN.dAnd, TN.dOr, TN.dNot, TN.fAndV, TN.fOrV, TN.fNotV, TN.dAndV, TN.dOrV, TN.dNotV, TN.dIfE, TN.dIfL, TN.fIfE, TN.fChain, TN.fSlice, TN.dSlice, TN.fNo, TN.fEnd, TN.dAppend, TN.dInsert, TN.dPopAt, TN.ownL, TN.start0, TN.begB, TN.backD, TN.wipeD, TN.dYes, TN.sNever, List.getElem?_cons_zero, List.getElem?_cons_succ, List.set_cons_zero, List.set_cons_succ, List.map_cons, List.map_nil, List.length_cons, List.length_nil, List.cons_append, List.nil_append, List.replicate_succ, List.replicate_zero, Option.map_some, Option.map_none, Nat.add_one_sub_one, Nat.sub_zero, Nat.sub_self, Nat.zero_add, reduceCtorEq, Option.some.injEq, PyData.int.injEq, PyData.str.injEq, PyData.bool.injEq, PyData.list.injEq, PyData.tuple.injEq, Sl.sh.injEq, Sl.ow.injEq, List.cons.injEq, exists_eq_left', exists_eq_left, true_implies, false_implies, and_true, true_and, forall_const, Option.isSome_some, TN.imp_ff, TN.imp_tf, TN.imp_tt, exists_eq_left, exists_eq_left', exists_eq])); (simp only [Ev.d, TN.ix0, TN.ix1, TN.ix2, TN.ixl0, TN.ixl1, TN.ixl2, TN.ixm2, TN.ixm3, TN.len2, TN.len3, TN.neg1, TN.ty_tup, TN.ty_lst, TN.ty_str, TN.ty_int, TN.oLen_tupL, TN.oLen_lstL, TN.oU_int, TN.oEq_int, TN.oNe_int, decide_true, Bool.not_true, Bool.not_false, reduceCtorEq, Option.some.injEq, PyData.int.injEq, PyData.str.injEq, PyData.bool.injEq, PyData.list.injEq, PyData.tuple.injEq, exists_eq_left', TN.imp_ff, TN.imp_tf, TN.imp_tt, true_and, and_true, forall_const, true_implies, false_implies, TN.w_place_place, TN.n_place_place, TN.w_place_name, TN.n_place_name, TN.w_place_lost, TN.n_place_lost, TN.w_place_twice, TN.n_place_twice, TN.w_place_as, TN.n_place_as, TN.w_name_place, TN.n_name_place, TN.w_name_name, TN.n_name_name, TN.w_name_lost, TN.n_name_lost, TN.w_name_twice, TN.n_name_twice, TN.w_name_as, TN.n_name_as, TN.w_lost_place, TN.n_lost_place, TN.w_lost_name, TN.n_lost_name, TN.w_lost_lost, TN.n_lost_lost, TN.w_lost_twice, TN.n_lost_twice, TN.w_lost_as, TN.n_lost_as, TN.w_twice_place, TN.n_twice_place, TN.w_twice_name, TN.n_twice_name, TN.w_twice_lost, TN.n_twice_lost, TN.w_twice_twice, TN.n_twice_twice, TN.w_twice_as, TN.n_twice_as, TN.w_as_place, TN.n_as_place, TN.w_as_name, TN.n_as_name, TN.w_as_lost, TN.n_as_lost, TN.w_as_twice, TN.n_as_twice, TN.w_as_as, TN.n_as_as])
    simp
    exact ⟨_, oIn_strs (r := ["place", "lost", "twice"]) (by simp), .inr ⟨rfl, r, p, rfl, he, _, rfl, q⟩⟩

abbrev s_has_word : Stmt := topS 17
theorem sc_has_word : FnScope ["thing", "word"] ["thing"] (defScope s_has_word) := ⟨rfl, rfl, rfl, by decide +kernel, rfl, by decide +kernel, by decide +kernel⟩
theorem ok_has_word (b : Blt mg) {f : Addr} {fd : FuncData} (F : Fun K "has_word" "has_word" s_has_word f fd) : FnG P w K mg base CX0 1 f fd ["thing"] (sp0 K semHasWord) := by
  refine fn0 (k := 0) F sc_has_word (fun ds Q h => by obtain ⟨e, rfl, _⟩ := h; rfl) (fun cdv A outer s H E hg hr =>
    have nd := sc_has_word.nd
    have hu := hr.units
    have hu1 := hu_of hr
    (pss_cons (ps_if (PW.pt (pw_or (pt_cmpR op_notTyB (pe_callTy call_typeF (by rfl) b.type (by decide +kernel) (pa_cons (pv 0) pa_nil)) (pe_bltn (v := .ty "tuple") (by rfl) b.tuple (by decide +kernel) rfl) (nomark _)) (pw_or1 (pt_not (pt_chain op_leU op_leU pe_int (pe_callB call_len (by rfl) b.len (by decide +kernel) (pa_cons (pv 0) pa_nil)) pe_int))))) (pss_one (ps_ret pe_bl)) pss_nil)
 (pss_cons (ps_set (i := 1) nd rfl (by first | exact Or.inl rfl | exact Or.inr rfl) (pe_ix ix_seq (pv 0) pe_int (fun _ _ => rfl)))
 (pss_one (ps_ret (pe_cmpR op_isTyB (pe_callTy call_typeF (by rfl) b.type (by decide +kernel) (pa_cons (pv 1) pa_nil)) (pe_bltn (v := .ty "str") (by rfl) b.str (by decide +kernel) rfl) (nomark _)))))))
    (ls_seq (ls_if (LB.g (lb_or (lb_test (LP.m (lp_typeNot (LP.m (lp_var (i := 0)))))) (lb_not (lb_test (LP.m (lp_chain (LP.m lp_int) (LP.m (lp_cb (lms_cons (LP.m (lp_var (i := 0))) lms_nil) rc_len)) (LP.m lp_int) rb_U rb_U)))))) (ls_ret (LP.e lp_bl)) ls_next)
 (ls_seq (ls_asg (LP.e (lp_op (LP.m (lp_var (i := 0))) (LP.m lp_int) rb_ix)) (lg_name (i := 1) (by decide)))
 (ls_ret (LP.e (lp_typeIs (LP.m (lp_var (i := 1)))))))) ?_
  rintro ds Q ⟨e, rfl, q⟩
  cases e <;> ((simp only [TN.sSeq, TN.sNext, TN.sDrop, TN.sRet, TN.sRetL, TN.sRetN, TN.sIf, TN.sAsg, TN.sAsgL, TN.sStore, TN.sForL, TN.sForT, TN.sForR, TN.sForR2, TN.tgN, TN.tgTup, TN.tgCons, TN.tgNil, TN.dP, TN.dB, TN.dCall, TN.dCallL, TN.dCallB, TN.dCallBL, TN.dCons, TN.dNil, TN.dTup, TN.dLst, TN.dKeep, TN.dVar, TN.fVar, TN.fPeek, TN.fC, TN.f2, TN.d2, TN.d2V, TN.f1, TN.d1, TN.fCB, TN.dCB, TN.dCBL, TN.fNil, TN.fCons, TN.asBool, TN.dTest, TN.bAnd, TN.bOr, TN.bNot, TN.dAnd, TN.dOr, TN.dNot, TN.fAndV, TN.fOrV, TN.fNotV, TN.dAndV, TN.dOrV, TN.dNotV, TN.dIfE, TN.dIfL, TN.fIfE, TN.fChain, TN.fSlice, TN.dSlice, TN.fNo, TN.fEnd, TN.dAppend, TN.dInsert, TN.dPopAt, TN.ownL, TN.start0, TN.begB, TN.backD, TN.wipeD, TN.dYes, TN.sNever, List.getElem?_cons_zero, List.getElem?_cons_succ, List.set_cons_zero, List.set_cons_succ, List.map_cons, List.map_nil, List.length_cons, List.length_nil, List.cons_append, List.nil_append, List.replicate_succ, List.replicate_zero, Option.map_some, Option.map_none, Nat.add_one_sub_one, Nat.sub_zero, Nat.sub_self, Nat.zero_add, reduceCtorEq, Option.some.injEq, PyData.int.injEq, PyData.str.injEq, PyData.bool.injEq, PyData.list.injEq, PyData.tuple.injEq, Sl.sh.injEq, Sl.ow.injEq, List.cons.injEq, exists_eq_left', exists_eq_left, true_implies, false_implies, and_true, true_and, forall_const, Option.isSome_some, TN.imp_ff, TN.imp_tf, TN.imp_tt, exists_eq_left, exists_eq_left', exists_eq]); (simp only [Ev.d, TN.ix0, TN.ix1, TN.ix2, TN.ixl0, TN.ixl1, TN.ixl2, TN.ixm2, TN.ixm3, TN.len2, TN.len3, TN.neg1, TN.ty_tup, TN.ty_lst, TN.ty_str, TN.ty_int, TN.oLen_tupL, TN.oLen_lstL, TN.oU_int, TN.oEq_int, TN.oNe_int, decide_true, Bool.not_true, Bool.not_false, reduceCtorEq, Option.some.injEq, PyData.int.injEq, PyData.str.injEq, PyData.bool.injEq, PyData.list.injEq, PyData.tuple.injEq, exists_eq_left', TN.imp_ff, TN.imp_tf, TN.imp_tt, true_and, and_true, forall_const, true_implies, false_implies, TN.w_place_place, TN.n_place_place, TN.w_place_name, TN.n_place_name, TN.w_place_lost, TN.n_place_lost, TN.w_place_twice, TN.n_place_twice, TN.w_place_as, TN.n_place_as, TN.w_name_place, TN.n_name_place, TN.w_name_name, TN.n_name_name, TN.w_name_lost, TN.n_name_lost, TN.w_name_twice, TN.n_name_twice, TN.w_name_as, TN.n_name_as, TN.w_lost_place, TN.n_lost_place, TN.w_lost_name, TN.n_lost_name, TN.w_lost_lost, TN.n_lost_lost, TN.w_lost_twice, TN.n_lost_twice, TN.w_lost_as, TN.n_lost_as, TN.w_twice_place, TN.n_twice_place, TN.w_twice_name, TN.n_twice_name, TN.w_twice_lost, TN.n_twice_lost, TN.w_twice_twice, TN.n_twice_twice, TN.w_twice_as, TN.n_twice_as, TN.w_as_place, TN.n_as_place, TN.w_as_name, TN.n_as_name, TN.w_as_lost, TN.n_as_lost, TN.w_as_twice, TN.n_as_twice, TN.w_as_as, TN.n_as_as]); simpa using q)

abbrev s_are_unlike_places : Stmt := topS 18
theorem sc_are_unlike_places : FnScope ["row", "one", "other"] ["row", "one", "other"] (defScope s_are_unlike_places) := ⟨rfl, rfl, rfl, by decide +kernel, rfl, by decide +kernel, by decide +kernel⟩
theorem ok_are_unlike_places (b : Blt mg) (h_is_place : Has P w K mg base "is_place" 1 ["row", "thing"] (sp0 K semPlace)) {f : Addr} {fd : FuncData} (F : Fun K "are_unlike_places" "are_unlike_places" s_are_unlike_places f fd) : FnG P w K mg base CX0 2 f fd ["row", "one", "other"] (sp0 K semUnlike) := by
  refine fn0 (k := 1) F sc_are_unlike_places (fun ds Q h => by obtain ⟨r, p, q, rfl, _⟩ := h; rfl) (fun cdv A outer s H E hg hr =>
    have nd := sc_are_unlike_places.nd
    have hu := hr.units
    have hu1 := hu_of hr
    (pss_one (ps_ret (pe_and (pe_has (h_is_place.up (by decide)) hg hr (by rfl) (pa_cons (pv 0) (pa_cons (pv 1) pa_nil))) (pe_and (pe_has (h_is_place.up (by decide)) hg hr (by rfl) (pa_cons (pv 0) (pa_cons (pv 2) pa_nil))) (pe_one (pe_cmpR (op_neD hu) (pv 1) (pv 2) (nomark _))))))))
    (ls_ret (le_andV (le_call (les_cons (LP.e (lp_var (i := 0))) (les_cons (LP.e (lp_var (i := 1))) les_nil))) (le_andV (le_call (les_cons (LP.e (lp_var (i := 0))) (les_cons (LP.e (lp_var (i := 2))) les_nil))) (LP.e (lp_op (LP.m (lp_var (i := 1))) (LP.m (lp_var (i := 2))) rb_ne))))) ?_
  rintro ds Q ⟨r, p, p', rfl, h1, h2, h3, q⟩
  (simp only [TN.sSeq, TN.sNext, TN.sDrop, TN.sRet, TN.sRetL, TN.sRetN, TN.sIf, TN.sAsg, TN.sAsgL, TN.sStore, TN.sForL, TN.sForT, TN.sForR, TN.sForR2, TN.tgN, TN.tgTup, TN.tgCons, TN.tgNil, TN.dP, TN.dB, TN.dCall, TN.dCallL, TN.dCallB, TN.dCallBL, TN.dCons, TN.dNil, TN.dTup, TN.dLst, TN.dKeep, TN.dVar, TN.fVar, TN.fPeek, TN.fC, TN.f2, TN.d2, TN.d2V, TN.f1, TN.d1, TN.fCB, TN.dCB, TN.dCBL, TN.fNil, TN.fCons, TN.asBool, TN.dTest, TN.bAnd, TN.bOr, TN.bNot, TN.dAnd, TN.dOr, TN.dNot, TN.fAndV, TN.fOrV, TN.fNotV, TN.dAndV, TN.dOrV, TN.dNotV, TN.dIfE, TN.dIfL, TN.fIfE, TN.fChain, TN.fSlice, TN.dSlice, TN.fNo, TN.fEnd, TN.dAppend, TN.dInsert, TN.dPopAt, TN.ownL, TN.start0, TN.begB, TN.backD, TN.wipeD, TN.dYes, TN.sNever, List.getElem?_cons_zero, List.getElem?_cons_succ, List.set_cons_zero, List.set_cons_succ, List.map_cons, List.map_nil, List.length_cons, List.length_nil, List.cons_append, List.nil_append, List.replicate_succ, List.replicate_zero, Option.map_some, Option.map_none, Nat.add_one_sub_one, Nat.sub_zero, Nat.sub_self, Nat.zero_add, reduceCtorEq, Option.some.injEq, PyData.int.injEq, PyData.str.injEq, PyData.bool.injEq, PyData.list.injEq, PyData.tuple.injEq, Sl.sh.injEq, Sl.ow.injEq, List.cons.injEq, exists_eq_left', exists_eq_left, true_implies, false_implies, and_true, true_and, forall_const, Option.isSome_some, TN.imp_ff, TN.imp_tf, TN.imp_tt, exists_eq_left, exists_eq_left', exists_eq])
  refine ⟨r, p, rfl, h1, _, rfl, true, rfl, fun _ => ⟨r, p', rfl, h2, _, rfl, true, rfl, fun _ => ⟨.bool true, ?_, q⟩, (fun z => by cases z)⟩, (fun z => by cases z)⟩
  (simp only [Ev.d, TN.ix0, TN.ix1, TN.ix2, TN.ixl0, TN.ixl1, TN.ixl2, TN.ixm2, TN.ixm3, TN.len2, TN.len3, TN.neg1, TN.ty_tup, TN.ty_lst, TN.ty_str, TN.ty_int, TN.oLen_tupL, TN.oLen_lstL, TN.oU_int, TN.oEq_int, TN.oNe_int, decide_true, Bool.not_true, Bool.not_false, reduceCtorEq, Option.some.injEq, PyData.int.injEq, PyData.str.injEq, PyData.bool.injEq, PyData.list.injEq, PyData.tuple.injEq, exists_eq_left', TN.imp_ff, TN.imp_tf, TN.imp_tt, true_and, and_true, forall_const, true_implies, false_implies, TN.w_place_place, TN.n_place_place, TN.w_place_name, TN.n_place_name, TN.w_place_lost, TN.n_place_lost, TN.w_place_twice, TN.n_place_twice, TN.w_place_as, TN.n_place_as, TN.w_name_place, TN.n_name_place, TN.w_name_name, TN.n_name_name, TN.w_name_lost, TN.n_name_lost, TN.w_name_twice, TN.n_name_twice, TN.w_name_as, TN.n_name_as, TN.w_lost_place, TN.n_lost_place, TN.w_lost_name, TN.n_lost_name, TN.w_lost_lost, TN.n_lost_lost, TN.w_lost_twice, TN.n_lost_twice, TN.w_lost_as, TN.n_lost_as, TN.w_twice_place, TN.n_twice_place, TN.w_twice_name, TN.n_twice_name, TN.w_twice_lost, TN.n_twice_lost, TN.w_twice_twice, TN.n_twice_twice, TN.w_twice_as, TN.n_twice_as, TN.w_as_place, TN.n_as_place, TN.w_as_name, TN.n_as_name, TN.w_as_lost, TN.n_as_lost, TN.w_as_twice, TN.n_as_twice, TN.w_as_as, TN.n_as_as])
  have a1 : ¬ ((p : Int) = p') := by omega
  simp [a1]

abbrev s_need_pair : Stmt := topS 19
theorem sc_need_pair : FnScope ["pair"] ["pair"] (defScope s_need_pair) := ⟨rfl, rfl, rfl, by decide +kernel, rfl, by decide +kernel, by decide +kernel⟩
theorem ok_need_pair (b : Blt mg) (h_is_pair : Has P w K mg base "is_pair" 4 ["thing"] (sp0 K semPair)) {f : Addr} {fd : FuncData} (F : Fun K "need_pair" "need_pair" s_need_pair f fd) : FnG P w K mg base CX0 5 f fd ["pair"] (sp0 K semNeedPair) := by
  refine fn0 (k := 4) F sc_need_pair (fun ds Q h => by obtain ⟨t, x, rfl, _⟩ := h; rfl) (fun cdv A outer s H E hg hr =>
    have nd := sc_need_pair.nd
    have hu := hr.units
    have hu1 := hu_of hr
    (pss_one (ps_if (pt_not (pt_val (pe_has (h_is_pair.up (by decide)) hg hr (by rfl) (pa_cons (pv 0) pa_nil)))) (pss_one ps_never) pss_nil)))
    (ls_if (lt_not (lt_B (le_call (les_cons (LP.e (lp_var (i := 0))) les_nil)))) ls_never ls_next) ?_
  rintro ds Q ⟨t, h, rfl, hp, q⟩
  (simp only [TN.sSeq, TN.sNext, TN.sDrop, TN.sRet, TN.sRetL, TN.sRetN, TN.sIf, TN.sAsg, TN.sAsgL, TN.sStore, TN.sForL, TN.sForT, TN.sForR, TN.sForR2, TN.tgN, TN.tgTup, TN.tgCons, TN.tgNil, TN.dP, TN.dB, TN.dCall, TN.dCallL, TN.dCallB, TN.dCallBL, TN.dCons, TN.dNil, TN.dTup, TN.dLst, TN.dKeep, TN.dVar, TN.fVar, TN.fPeek, TN.fC, TN.f2, TN.d2, TN.d2V, TN.f1, TN.d1, TN.fCB, TN.dCB, TN.dCBL, TN.fNil, TN.fCons, TN.asBool, TN.dTest, TN.bAnd, TN.bOr, TN.bNot, TN.dAnd, TN.dOr, TN.dNot, TN.fAndV, TN.fOrV, TN.fNotV, TN.dAndV, TN.dOrV, TN.dNotV, TN.dIfE, TN.dIfL, TN.fIfE, TN.fChain, TN.fSlice, TN.dSlice, TN.fNo, TN.fEnd, TN.dAppend, TN.dInsert, TN.dPopAt, TN.ownL, TN.start0, TN.begB, TN.backD, TN.wipeD, TN.dYes, TN.sNever, List.getElem?_cons_zero, List.getElem?_cons_succ, List.set_cons_zero, List.set_cons_succ, List.map_cons, List.map_nil, List.length_cons, List.length_nil, List.cons_append, List.nil_append, List.replicate_succ, List.replicate_zero, Option.map_some, Option.map_none, Nat.add_one_sub_one, Nat.sub_zero, Nat.sub_self, Nat.zero_add, reduceCtorEq, Option.some.injEq, PyData.int.injEq, PyData.str.injEq, PyData.bool.injEq, PyData.list.injEq, PyData.tuple.injEq, Sl.sh.injEq, Sl.ow.injEq, List.cons.injEq, exists_eq_left', exists_eq_left, true_implies, false_implies, and_true, true_and, forall_const, Option.isSome_some, TN.imp_ff, TN.imp_tf, TN.imp_tt, exists_eq_left, exists_eq_left', exists_eq])
  exact ⟨t, h, rfl, hp, _, rfl, true, rfl, (fun z => by cases z), fun _ => q⟩

abbrev s_need_events : Stmt := topS 20
theorem sc_need_events : FnScope ["pair", "events", "event"] ["pair", "events"] (defScope s_need_events) := ⟨rfl, rfl, rfl, by decide +kernel, rfl, by decide +kernel, by decide +kernel⟩
theorem ok_need_events (b : Blt mg) (h_is_event_of : Has P w K mg base "is_event_of" 3 ["row", "thing"] (sp0 K semEventOf)) {f : Addr} {fd : FuncData} (F : Fun K "need_events" "need_events" s_need_events f fd) : FnG P w K mg base CX0 4 f fd ["pair", "events"] (sp0 K semNeedEvents) := by
  refine fn0 (k := 3) F sc_need_events (fun ds Q h => by obtain ⟨t, x, es, rfl, _⟩ := h; rfl) (fun cdv A outer s H E hg hr =>
    have nd := sc_need_events.nd
    have hu := hr.units
    have hu1 := hu_of hr
    (pss_cons (ps_if (pt_cmpR op_notTyB (pe_callTy call_typeF (by rfl) b.type (by decide +kernel) (pa_cons (pv 1) pa_nil)) (pe_bltn (v := .ty "list") (by rfl) b.list (by decide +kernel) rfl) (nomark _)) (pss_one ps_never) pss_nil)
 (pss_one (ps_if (pt_not (pt_val (pe_callB (cr_all rfl) (by rfl) b.all (by decide +kernel) (pa_cons (pe_lc (own := [("event", 2)]) (g := gName 2) (tt := tYes) rfl nd (pi_list (pv 1)) (blkOk_by (own := [("event", 2)]) (N := ["pair", "events", "event"]) (sc := defScope s_need_events) (by decide +kernel)) (fun _ _ _ _ _ => pg_name (i := 2) nd rfl (by first | exact Or.inl rfl | exact Or.inr rfl)) (fun _ _ _ _ _ => by exact pts_nil) (fun _ _ _ _ _ => by exact (pe_has (h_is_event_of.up (by decide)) hg hr (by rfl) (pa_cons (pe_ix ix_seq (pv 0) pe_int (fun _ _ => rfl)) (pa_cons (pv 2) pa_nil))))) pa_nil)))) (pss_one ps_never) pss_nil))))
    (ls_seq (ls_if (LB.g (lb_test (LP.m (lp_typeNot (LP.m (lp_var (i := 1))))))) ls_never ls_next)
 (ls_if (lt_not (lt_B (le_cb (les_cons (LL.e (ll_compL (j := 2) (vs := [2]) (by decide) (by decide) (LP.e (lp_var (i := 1))) lt_yes (le_call (les_cons (LP.e (lp_op (LP.m (lp_var (i := 0))) (LP.m lp_int) rb_ix)) (les_cons (LP.e (lp_var (i := 2))) les_nil))))) les_nil) rc_all))) ls_never ls_next)) ?_
  rintro ds Q ⟨t, h, es, rfl, hp, few, he, q⟩
  (simp only [TN.sSeq, TN.sNext, TN.sDrop, TN.sRet, TN.sRetL, TN.sRetN, TN.sIf, TN.sAsg, TN.sAsgL, TN.sStore, TN.sForL, TN.sForT, TN.sForR, TN.sForR2, TN.tgN, TN.tgTup, TN.tgCons, TN.tgNil, TN.dP, TN.dB, TN.dCall, TN.dCallL, TN.dCallB, TN.dCallBL, TN.dCons, TN.dNil, TN.dTup, TN.dLst, TN.dKeep, TN.dVar, TN.fVar, TN.fPeek, TN.fC, TN.f2, TN.d2, TN.d2V, TN.f1, TN.d1, TN.fCB, TN.dCB, TN.dCBL, TN.fNil, TN.fCons, TN.asBool, TN.dTest, TN.bAnd, TN.bOr, TN.bNot, TN.dAnd, TN.dOr, TN.dNot, TN.fAndV, TN.fOrV, TN.fNotV, TN.dAndV, TN.dOrV, TN.dNotV, TN.dIfE, TN.dIfL, TN.fIfE, TN.fChain, TN.fSlice, TN.dSlice, TN.fNo, TN.fEnd, TN.dAppend, TN.dInsert, TN.dPopAt, TN.ownL, TN.start0, TN.begB, TN.backD, TN.wipeD, TN.dYes, TN.sNever, List.getElem?_cons_zero, List.getElem?_cons_succ, List.set_cons_zero, List.set_cons_succ, List.map_cons, List.map_nil, List.length_cons, List.length_nil, List.cons_append, List.nil_append, List.replicate_succ, List.replicate_zero, Option.map_some, Option.map_none, Nat.add_one_sub_one, Nat.sub_zero, Nat.sub_self, Nat.zero_add, reduceCtorEq, Option.some.injEq, PyData.int.injEq, PyData.str.injEq, PyData.bool.injEq, PyData.list.injEq, PyData.tuple.injEq, Sl.sh.injEq, Sl.ow.injEq, List.cons.injEq, exists_eq_left', exists_eq_left, true_implies, false_implies, and_true, true_and, forall_const, Option.isSome_some, TN.imp_ff, TN.imp_tf, TN.imp_tt, exists_eq_left, exists_eq_left', exists_eq])
  (simp only [Ev.d, TN.ix0, TN.ix1, TN.ix2, TN.ixl0, TN.ixl1, TN.ixl2, TN.ixm2, TN.ixm3, TN.len2, TN.len3, TN.neg1, TN.ty_tup, TN.ty_lst, TN.ty_str, TN.ty_int, TN.oLen_tupL, TN.oLen_lstL, TN.oU_int, TN.oEq_int, TN.oNe_int, decide_true, Bool.not_true, Bool.not_false, reduceCtorEq, Option.some.injEq, PyData.int.injEq, PyData.str.injEq, PyData.bool.injEq, PyData.list.injEq, PyData.tuple.injEq, exists_eq_left', TN.imp_ff, TN.imp_tf, TN.imp_tt, true_and, and_true, forall_const, true_implies, false_implies, TN.w_place_place, TN.n_place_place, TN.w_place_name, TN.n_place_name, TN.w_place_lost, TN.n_place_lost, TN.w_place_twice, TN.n_place_twice, TN.w_place_as, TN.n_place_as, TN.w_name_place, TN.n_name_place, TN.w_name_name, TN.n_name_name, TN.w_name_lost, TN.n_name_lost, TN.w_name_twice, TN.n_name_twice, TN.w_name_as, TN.n_name_as, TN.w_lost_place, TN.n_lost_place, TN.w_lost_name, TN.n_lost_name, TN.w_lost_lost, TN.n_lost_lost, TN.w_lost_twice, TN.n_lost_twice, TN.w_lost_as, TN.n_lost_as, TN.w_twice_place, TN.n_twice_place, TN.w_twice_name, TN.n_twice_name, TN.w_twice_lost, TN.n_twice_lost, TN.w_twice_twice, TN.n_twice_twice, TN.w_twice_as, TN.n_twice_as, TN.w_as_place, TN.n_as_place, TN.w_as_name, TN.n_as_name, TN.w_as_lost, TN.n_as_lost, TN.w_as_twice, TN.n_as_twice, TN.w_as_as, TN.n_as_as])
  refine ⟨_, rfl, _, rfl, ?_⟩
  refine comp_all (fun d => ∃ e : Ev, e.ok t ∧ d = e.d) (fun _ => .bool true) rfl (fun _ => rfl) ?_ _ _ ?_ ?_ ?_
  · rintro d R ⟨e, he, rfl⟩ k
    (simp only [TN.sSeq, TN.sNext, TN.sDrop, TN.sRet, TN.sRetL, TN.sRetN, TN.sIf, TN.sAsg, TN.sAsgL, TN.sStore, TN.sForL, TN.sForT, TN.sForR, TN.sForR2, TN.tgN, TN.tgTup, TN.tgCons, TN.tgNil, TN.dP, TN.dB, TN.dCall, TN.dCallL, TN.dCallB, TN.dCallBL, TN.dCons, TN.dNil, TN.dTup, TN.dLst, TN.dKeep, TN.dVar, TN.fVar, TN.fPeek, TN.fC, TN.f2, TN.d2, TN.d2V, TN.f1, TN.d1, TN.fCB, TN.dCB, TN.dCBL, TN.fNil, TN.fCons, TN.asBool, TN.dTest, TN.bAnd, TN.bOr, TN.bNot, TN.dAnd, TN.dOr, TN.dNot, TN.fAndV, TN.fOrV, TN.fNotV, TN.dAndV, TN.dOrV, TN.dNotV, TN.dIfE, TN.dIfL, TN.fIfE, TN.fChain, TN.fSlice, TN.dSlice, TN.fNo, TN.fEnd, TN.dAppend, TN.dInsert, TN.dPopAt, TN.ownL, TN.start0, TN.begB, TN.backD, TN.wipeD, TN.dYes, TN.sNever, List.getElem?_cons_zero, List.getElem?_cons_succ, List.set_cons_zero, List.set_cons_succ, List.map_cons, List.map_nil, List.length_cons, List.length_nil, List.cons_append, List.nil_append, List.replicate_succ, List.replicate_zero, Option.map_some, Option.map_none, Nat.add_one_sub_one, Nat.sub_zero, Nat.sub_self, Nat.zero_add, reduceCtorEq, Option.some.injEq, PyData.int.injEq, PyData.str.injEq, PyData.bool.injEq, PyData.list.injEq, PyData.tuple.injEq, Sl.sh.injEq, Sl.ow.injEq, List.cons.injEq, exists_eq_left', exists_eq_left, true_implies, false_implies, and_true, true_and, forall_const, Option.isSome_some, TN.imp_ff, TN.imp_tf, TN.imp_tt, exists_eq_left, exists_eq_left', exists_eq])
    exact ⟨_, ix0, t, e, rfl, hp.gt, he, _, rfl, k⟩
  · intro d hd
    obtain ⟨e, h1, rfl⟩ := List.mem_map.mp hd
    exact ⟨e, he e h1, rfl⟩
  · simp; omega
  · rw [List.nil_append]
    exact ⟨_, oAll_tt, true, rfl, (fun z => by cases z), fun _ => q⟩

abbrev s_to_front : Stmt := topS 21
theorem sc_to_front : FnScope ["row", "place"] ["row", "place"] (defScope s_to_front) := ⟨rfl, rfl, rfl, by decide +kernel, rfl, by decide +kernel, by decide +kernel⟩
theorem ok_to_front (b : Blt mg) {f : Addr} {fd : FuncData} (F : Fun K "to_front" "to_front" s_to_front f fd) : FnG P w K mg base CX0 1 f fd ["row", "place"] (sp0 K semFrontD) := by
  refine fn0 (k := 0) F sc_to_front (fun ds Q h => by obtain ⟨r, p, rfl, _⟩ := h; rfl) (fun cdv A outer s H E hg hr =>
    have nd := sc_to_front.nd
    have hu := hr.units
    have hu1 := hu_of hr
    (pss_one (ps_ret (pe_op op_addU (pe_op op_addU (pe_tupX (pa_cons (pe_ix ix_seq (pv 0) (pv 1) (fun _ _ => rfl)) pa_nil)) (pe_slice sl_U (pv 0) po_none (po_some (pv 1)))) (pe_slice sl_U (pv 0) (po_some (pe_op op_addU (pv 1) pe_int)) po_none)))))
    (ls_ret (le_op (le_op (le_tup (les_cons (LP.e (lp_op (LP.m (lp_var (i := 0))) (LP.m (lp_var (i := 1))) rb_ix)) les_nil)) (LP.e (lp_slice (LP.m (lp_var (i := 0))) lo_none (lo_some (LP.m (lp_var (i := 1)))))) rb_add) (LP.e (lp_slice (LP.m (lp_var (i := 0))) (lo_some (LP.m (lp_op (LP.m (lp_var (i := 1))) (LP.m lp_int) rb_add))) lo_none)) rb_add)) ?_
  rintro ds Q ⟨r, p, rfl, hp, few, q⟩
  (simp only [TN.dCallO, TN.dCallOI, TN.dCallNO, TN.oVar, TN.sCut, TN.tgLst, TN.iK, TN.iV, TN.iLT, TN.pNew, TN.dCallN, TN.dCompI2, TN.dLAddE, TN.oD, TN.sDNew, TN.sPutD, TN.fGetO, TN.fGetO2, TN.fInO, TN.fNinO, TN.dVarD, TN.dExtS, TN.mOwn, TN.dCallM, TN.mVar, TN.sRetV, TN.dAug, TN.dCallNT, TN.dCallNL, TN.fIxTs, TN.sForI, TN.dCompI, TN.dCompL, TN.dCompT, TN.dCompR, TN.iL, TN.iT, TN.iR1, TN.iR2, TN.iR3, TN.iS, TN.iE, TN.iRv, TN.iZ, TN.dKeepT, TN.dCallT, TN.pTup, TN.pCons, TN.pOwn, TN.sAsgT, TN.sRetT, TN.tpL, TN.fIxT, TN.fTp, TN.dAppendT, TN.dReverseT, TN.dClearT, TN.dVarT, TN.dReverse, TN.dClear, TN.dPop, Pt.d, Sl.tp.injEq, TN.startF, TN.dCallV, Sl.fn.injEq, TN.dCallF, TN.dLRev, TN.dLAdd, TN.dLSlP, TN.dLSlice, TN.dSliceE, TN.dNo, TN.dEnd, TN.fNo, TN.sSeq, TN.sNext, TN.sDrop, TN.sRet, TN.sRetL, TN.sRetN, TN.sIf, TN.sAsg, TN.sAsgL, TN.sStore, TN.sForL, TN.sForT, TN.sForR, TN.sForR2, TN.tgN, TN.tgTup, TN.tgCons, TN.tgNil, TN.dP, TN.dB, TN.dCall, TN.dCallL, TN.dCallB, TN.dCallBL, TN.dCons, TN.dNil, TN.dTup, TN.dLst, TN.dKeep, TN.dVar, TN.fVar, TN.fPeek, TN.fC, TN.f2, TN.d2, TN.d2V, TN.f1, TN.d1, TN.fCB, TN.dCB, TN.dCBL, TN.fNil, TN.fCons, TN.asBool, TN.dTest, TN.bAnd, TN.bOr, TN.bNot, TN.dAnd, TN.dOr, TN.dNot, TN.fAndV, TN.fOrV, TN.fNotV, TN.dAndV, TN.dOrV, TN.dNotV, TN.dIfE, TN.dIfL, TN.fIfE, TN.fChain, TN.fSlice, TN.dSlice, TN.fNo, TN.fEnd, TN.dAppend, TN.dInsert, TN.dPopAt, TN.ownL, TN.start0, TN.begB, TN.backD, TN.wipeD, TN.dYes, TN.sNever, List.getElem?_cons_zero, List.getElem?_cons_succ, List.set_cons_zero, List.set_cons_succ, List.map_cons, List.map_nil, List.length_cons, List.length_nil, List.cons_append, List.nil_append, List.replicate_succ, List.replicate_zero, Option.map_some, Option.map_none, Nat.add_one_sub_one, Nat.sub_zero, Nat.sub_self, Nat.zero_add, reduceCtorEq, Option.some.injEq, PyData.int.injEq, PyData.str.injEq, PyData.bool.injEq, PyData.list.injEq, PyData.tuple.injEq, Sl.sh.injEq, Sl.ow.injEq, List.cons.injEq, exists_eq_left', exists_eq_left, true_implies, false_implies, and_true, true_and, forall_const, Option.isSome_some, TN.imp_ff, TN.imp_tf, TN.imp_tt, exists_eq_left, exists_eq_left', exists_eq])
  have e1 : oSlice none (some (p : Int)) (.tuple r) = some (.tuple (r.take p)) := by show some (PyData.tuple (cutD _ _ _)) = _; rw [cut_to]
  have e2 : oSlice (some ((p + 1 : Nat) : Int)) none (.tuple r) = some (.tuple (r.drop (p + 1))) := by show some (PyData.tuple (cutD _ _ _)) = _; rw [cut_from]
  have l1 := List.length_take (i := p) (l := r)
  have l2 := List.length_drop (i := p + 1) (l := r)
  simp only [oAdd_int]
  rw [show (p : Int) + 1 = ((p + 1 : Nat) : Int) by omega]
  refine ⟨_, oIx_tupD' hp, by omega, _, e1, _, oAdd_tpl (by simp; omega), _, e2, _, oAdd_tpl (by simp; omega), ?_⟩
  have e : [r[p]] ++ r.take p ++ r.drop (p + 1) = toA r p := by
    unfold toA
    rw [List.getElem?_eq_getElem hp]; rfl
  rw [e]
  exact q

abbrev s_place_told : Stmt := topS 22
theorem sc_place_told : FnScope ["row", "event"] ["row", "event"] (defScope s_place_told) := ⟨rfl, rfl, rfl, by decide +kernel, rfl, by decide +kernel, by decide +kernel⟩
theorem ok_place_told (b : Blt mg) {f : Addr} {fd : FuncData} (F : Fun K "place_told" "place_told" s_place_told f fd) : FnG P w K mg base CX0 1 f fd ["row", "event"] (sp0 K semToldD) := by
  refine fn0 (k := 0) F sc_place_told (fun ds Q h => by obtain ⟨t, x, es, rfl, _⟩ := h; rfl) (fun cdv A outer s H E hg hr =>
    have nd := sc_place_told.nd
    have hu := hr.units
    have hu1 := hu_of hr
    (pss_cons (ps_if (pt_cmpR (op_eqD hu) (pe_ix ix_seq (pv 1) pe_int (fun _ _ => rfl)) pe_str (nomark _)) (pss_one (ps_ret (pe_tidx (pv 0) (pe_ix ix_seq (pv 1) pe_int (fun _ _ => rfl))))) pss_nil)
 (pss_one (ps_ret (pe_ix ix_seq (pv 1) pe_int (fun _ _ => rfl))))))
    (ls_seq (ls_if (LB.g (lb_test (LP.m (lp_op (LP.m (lp_op (LP.m (lp_var (i := 1))) (LP.m lp_int) rb_ix)) (LP.m lp_str) rb_eq)))) (ls_ret (LP.e (lp_tindex (LP.m (lp_var (i := 0))) (LP.m (lp_op (LP.m (lp_var (i := 1))) (LP.m lp_int) rb_ix))))) ls_next)
 (ls_ret (LP.e (lp_op (LP.m (lp_var (i := 1))) (LP.m lp_int) rb_ix)))) ?_
  rintro ds Q ⟨r, e, n, rfl, ok, q⟩
  cases e with
  | name x => cases ok
  | _ => (simp only [TN.dCallO, TN.dCallOI, TN.dCallNO, TN.oVar, TN.sCut, TN.tgLst, TN.iK, TN.iV, TN.iLT, TN.pNew, TN.dCallN, TN.dCompI2, TN.dLAddE, TN.oD, TN.sDNew, TN.sPutD, TN.fGetO, TN.fGetO2, TN.fInO, TN.fNinO, TN.dVarD, TN.dExtS, TN.mOwn, TN.dCallM, TN.mVar, TN.sRetV, TN.dAug, TN.dCallNT, TN.dCallNL, TN.fIxTs, TN.sForI, TN.dCompI, TN.dCompL, TN.dCompT, TN.dCompR, TN.iL, TN.iT, TN.iR1, TN.iR2, TN.iR3, TN.iS, TN.iE, TN.iRv, TN.iZ, TN.dKeepT, TN.dCallT, TN.pTup, TN.pCons, TN.pOwn, TN.sAsgT, TN.sRetT, TN.tpL, TN.fIxT, TN.fTp, TN.dAppendT, TN.dReverseT, TN.dClearT, TN.dVarT, TN.dReverse, TN.dClear, TN.dPop, Pt.d, Sl.tp.injEq, TN.startF, TN.dCallV, Sl.fn.injEq, TN.dCallF, TN.dLRev, TN.dLAdd, TN.dLSlP, TN.dLSlice, TN.dSliceE, TN.dNo, TN.dEnd, TN.fNo, TN.sSeq, TN.sNext, TN.sDrop, TN.sRet, TN.sRetL, TN.sRetN, TN.sIf, TN.sAsg, TN.sAsgL, TN.sStore, TN.sForL, TN.sForT, TN.sForR, TN.sForR2, TN.tgN, TN.tgTup, TN.tgCons, TN.tgNil, TN.dP, TN.dB, TN.dCall, TN.dCallL, TN.dCallB, TN.dCallBL, TN.dCons, TN.dNil, TN.dTup, TN.dLst, TN.dKeep, TN.dVar, TN.fVar, TN.fPeek, TN.fC, TN.f2, TN.d2, TN.d2V, TN.f1, TN.d1, TN.fCB, TN.dCB, TN.dCBL, TN.fNil, TN.fCons, TN.asBool, TN.dTest, TN.bAnd, TN.bOr, TN.bNot, TN.dAnd, TN.dOr, TN.dNot, TN.fAndV, TN.fOrV, TN.fNotV, TN.dAndV, TN.dOrV, TN.dNotV, TN.dIfE, TN.dIfL, TN.fIfE, TN.fChain, TN.fSlice, TN.dSlice, TN.fNo, TN.fEnd, TN.dAppend, TN.dInsert, TN.dPopAt, TN.ownL, TN.start0, TN.begB, TN.backD, TN.wipeD, TN.dYes, TN.sNever, List.getElem?_cons_zero, List.getElem?_cons_succ, List.set_cons_zero, List.set_cons_succ, List.map_cons, List.map_nil, List.length_cons, List.length_nil, List.cons_append, List.nil_append, List.replicate_succ, List.replicate_zero, Option.map_some, Option.map_none, Nat.add_one_sub_one, Nat.sub_zero, Nat.sub_self, Nat.zero_add, reduceCtorEq, Option.some.injEq, PyData.int.injEq, PyData.str.injEq, PyData.bool.injEq, PyData.list.injEq, PyData.tuple.injEq, Sl.sh.injEq, Sl.ow.injEq, List.cons.injEq, exists_eq_left', exists_eq_left, true_implies, false_implies, and_true, true_and, forall_const, Option.isSome_some, TN.imp_ff, TN.imp_tf, TN.imp_tt, exists_eq_left, exists_eq_left', exists_eq]); (simp only [Ev.d, TN.ix0, TN.ix1, TN.ix2, TN.ixl0, TN.ixl1, TN.ixl2, TN.ixm2, TN.ixm3, TN.len2, TN.len3, TN.neg1, TN.ty_tup, TN.ty_lst, TN.ty_str, TN.ty_int, TN.oLen_tupL, TN.oLen_lstL, TN.oU_int, TN.oEq_int, TN.oNe_int, decide_true, Bool.not_true, Bool.not_false, reduceCtorEq, Option.some.injEq, PyData.int.injEq, PyData.str.injEq, PyData.bool.injEq, PyData.list.injEq, PyData.tuple.injEq, exists_eq_left', TN.imp_ff, TN.imp_tf, TN.imp_tt, true_and, and_true, forall_const, true_implies, false_implies, TN.w_place_place, TN.n_place_place, TN.w_place_name, TN.n_place_name, TN.w_place_lost, TN.n_place_lost, TN.w_place_twice, TN.n_place_twice, TN.w_place_as, TN.n_place_as, TN.w_name_place, TN.n_name_place, TN.w_name_name, TN.n_name_name, TN.w_name_lost, TN.n_name_lost, TN.w_name_twice, TN.n_name_twice, TN.w_name_as, TN.n_name_as, TN.w_lost_place, TN.n_lost_place, TN.w_lost_name, TN.n_lost_name, TN.w_lost_lost, TN.n_lost_lost, TN.w_lost_twice, TN.n_lost_twice, TN.w_lost_as, TN.n_lost_as, TN.w_twice_place, TN.n_twice_place, TN.w_twice_name, TN.n_twice_name, TN.w_twice_lost, TN.n_twice_lost, TN.w_twice_twice, TN.n_twice_twice, TN.w_twice_as, TN.n_twice_as, TN.w_as_place, TN.n_as_place, TN.w_as_name, TN.n_as_name, TN.w_as_lost, TN.n_as_lost, TN.w_as_twice, TN.n_as_twice, TN.w_as_as, TN.n_as_as]); exact q

abbrev s_places_heard : Stmt := topS 23
theorem sc_places_heard : FnScope ["row", "event", "word"] ["row", "event"] (defScope s_places_heard) := ⟨rfl, rfl, rfl, by decide +kernel, rfl, by decide +kernel, by decide +kernel⟩
theorem ok_places_heard (b : Blt mg) {f : Addr} {fd : FuncData} (F : Fun K "places_heard" "places_heard" s_places_heard f fd) : FnG P w K mg base CX0 1 f fd ["row", "event"] (sp0 K semHeardD) := by
  refine fn0 (k := 0) F sc_places_heard (fun ds Q h => by obtain ⟨t, x, es, rfl, _⟩ := h; rfl) (fun cdv A outer s H E hg hr =>
    have nd := sc_places_heard.nd
    have hu := hr.units
    have hu1 := hu_of hr
    (pss_cons (ps_set (i := 2) nd rfl (by first | exact Or.inl rfl | exact Or.inr rfl) (pe_ix ix_seq (pv 1) pe_int (fun _ _ => rfl)))
 (pss_cons (ps_if (pt_cmpR (op_eqD hu) (pv 2) pe_str (nomark _)) (pss_one (ps_ret (pe_lst (pa_cons (pe_tidx (pv 0) (pe_ix ix_seq (pv 1) pe_int (fun _ _ => rfl))) pa_nil)))) pss_nil)
 (pss_cons (ps_if (pt_cmpR (op_eqD hu) (pv 2) pe_str (nomark _)) (pss_one (ps_ret (pe_lst pa_nil))) pss_nil)
 (pss_cons (ps_if (pt_cmpR (op_eqD hu) (pv 2) pe_str (nomark _)) (pss_one (ps_ret (pe_lst (pa_cons (pe_ix ix_seq (pv 1) pe_int (fun _ _ => rfl)) (pa_cons (pe_ix ix_seq (pv 1) pe_int (fun _ _ => rfl)) pa_nil))))) pss_nil)
 (pss_one (ps_ret (pe_lst (pa_cons (pe_ix ix_seq (pv 1) (pe_un un_neg pe_int) (fun _ _ => rfl)) pa_nil)))))))))
    (ls_seq (ls_asg (LP.e (lp_op (LP.m (lp_var (i := 1))) (LP.m lp_int) rb_ix)) (lg_name (i := 2) (by decide)))
 (ls_seq (ls_if (LB.g (lb_test (LP.m (lp_op (LP.m (lp_var (i := 2))) (LP.m lp_str) rb_eq)))) (ls_ret (LL.e (ll_lst (les_cons (LP.e (lp_tindex (LP.m (lp_var (i := 0))) (LP.m (lp_op (LP.m (lp_var (i := 1))) (LP.m lp_int) rb_ix)))) les_nil)))) ls_next)
 (ls_seq (ls_if (LB.g (lb_test (LP.m (lp_op (LP.m (lp_var (i := 2))) (LP.m lp_str) rb_eq)))) (ls_ret (LL.e (ll_lst les_nil))) ls_next)
 (ls_seq (ls_if (LB.g (lb_test (LP.m (lp_op (LP.m (lp_var (i := 2))) (LP.m lp_str) rb_eq)))) (ls_ret (LL.e (ll_lst (les_cons (LP.e (lp_op (LP.m (lp_var (i := 1))) (LP.m lp_int) rb_ix)) (les_cons (LP.e (lp_op (LP.m (lp_var (i := 1))) (LP.m lp_int) rb_ix)) les_nil))))) ls_next)
 (ls_ret (LL.e (ll_lst (les_cons (LP.e (lp_op (LP.m (lp_var (i := 1))) (LP.m (lp_un (LP.m lp_int) ru_neg)) rb_ix)) les_nil)))))))) ?_
  rintro ds Q ⟨r, e, n, rfl, ok, q⟩
  cases e with
  | name x => cases ok
  | _ => (simp only [TN.dCallO, TN.dCallOI, TN.dCallNO, TN.oVar, TN.sCut, TN.tgLst, TN.iK, TN.iV, TN.iLT, TN.pNew, TN.dCallN, TN.dCompI2, TN.dLAddE, TN.oD, TN.sDNew, TN.sPutD, TN.fGetO, TN.fGetO2, TN.fInO, TN.fNinO, TN.dVarD, TN.dExtS, TN.mOwn, TN.dCallM, TN.mVar, TN.sRetV, TN.dAug, TN.dCallNT, TN.dCallNL, TN.fIxTs, TN.sForI, TN.dCompI, TN.dCompL, TN.dCompT, TN.dCompR, TN.iL, TN.iT, TN.iR1, TN.iR2, TN.iR3, TN.iS, TN.iE, TN.iRv, TN.iZ, TN.dKeepT, TN.dCallT, TN.pTup, TN.pCons, TN.pOwn, TN.sAsgT, TN.sRetT, TN.tpL, TN.fIxT, TN.fTp, TN.dAppendT, TN.dReverseT, TN.dClearT, TN.dVarT, TN.dReverse, TN.dClear, TN.dPop, Pt.d, Sl.tp.injEq, TN.startF, TN.dCallV, Sl.fn.injEq, TN.dCallF, TN.dLRev, TN.dLAdd, TN.dLSlP, TN.dLSlice, TN.dSliceE, TN.dNo, TN.dEnd, TN.fNo, TN.sSeq, TN.sNext, TN.sDrop, TN.sRet, TN.sRetL, TN.sRetN, TN.sIf, TN.sAsg, TN.sAsgL, TN.sStore, TN.sForL, TN.sForT, TN.sForR, TN.sForR2, TN.tgN, TN.tgTup, TN.tgCons, TN.tgNil, TN.dP, TN.dB, TN.dCall, TN.dCallL, TN.dCallB, TN.dCallBL, TN.dCons, TN.dNil, TN.dTup, TN.dLst, TN.dKeep, TN.dVar, TN.fVar, TN.fPeek, TN.fC, TN.f2, TN.d2, TN.d2V, TN.f1, TN.d1, TN.fCB, TN.dCB, TN.dCBL, TN.fNil, TN.fCons, TN.asBool, TN.dTest, TN.bAnd, TN.bOr, TN.bNot, TN.dAnd, TN.dOr, TN.dNot, TN.fAndV, TN.fOrV, TN.fNotV, TN.dAndV, TN.dOrV, TN.dNotV, TN.dIfE, TN.dIfL, TN.fIfE, TN.fChain, TN.fSlice, TN.dSlice, TN.fNo, TN.fEnd, TN.dAppend, TN.dInsert, TN.dPopAt, TN.ownL, TN.start0, TN.begB, TN.backD, TN.wipeD, TN.dYes, TN.sNever, List.getElem?_cons_zero, List.getElem?_cons_succ, List.set_cons_zero, List.set_cons_succ, List.map_cons, List.map_nil, List.length_cons, List.length_nil, List.cons_append, List.nil_append, List.replicate_succ, List.replicate_zero, Option.map_some, Option.map_none, Nat.add_one_sub_one, Nat.sub_zero, Nat.sub_self, Nat.zero_add, reduceCtorEq, Option.some.injEq, PyData.int.injEq, PyData.str.injEq, PyData.bool.injEq, PyData.list.injEq, PyData.tuple.injEq, Sl.sh.injEq, Sl.ow.injEq, List.cons.injEq, exists_eq_left', exists_eq_left, true_implies, false_implies, and_true, true_and, forall_const, Option.isSome_some, TN.imp_ff, TN.imp_tf, TN.imp_tt, exists_eq_left, exists_eq_left', exists_eq]); (simp only [Ev.d, TN.ix0, TN.ix1, TN.ix2, TN.ixl0, TN.ixl1, TN.ixl2, TN.ixm2, TN.ixm3, TN.len2, TN.len3, TN.neg1, TN.ty_tup, TN.ty_lst, TN.ty_str, TN.ty_int, TN.oLen_tupL, TN.oLen_lstL, TN.oU_int, TN.oEq_int, TN.oNe_int, decide_true, Bool.not_true, Bool.not_false, reduceCtorEq, Option.some.injEq, PyData.int.injEq, PyData.str.injEq, PyData.bool.injEq, PyData.list.injEq, PyData.tuple.injEq, exists_eq_left', TN.imp_ff, TN.imp_tf, TN.imp_tt, true_and, and_true, forall_const, true_implies, false_implies, TN.w_place_place, TN.n_place_place, TN.w_place_name, TN.n_place_name, TN.w_place_lost, TN.n_place_lost, TN.w_place_twice, TN.n_place_twice, TN.w_place_as, TN.n_place_as, TN.w_name_place, TN.n_name_place, TN.w_name_name, TN.n_name_name, TN.w_name_lost, TN.n_name_lost, TN.w_name_twice, TN.n_name_twice, TN.w_name_as, TN.n_name_as, TN.w_lost_place, TN.n_lost_place, TN.w_lost_name, TN.n_lost_name, TN.w_lost_lost, TN.n_lost_lost, TN.w_lost_twice, TN.n_lost_twice, TN.w_lost_as, TN.n_lost_as, TN.w_twice_place, TN.n_twice_place, TN.w_twice_name, TN.n_twice_name, TN.w_twice_lost, TN.n_twice_lost, TN.w_twice_twice, TN.n_twice_twice, TN.w_twice_as, TN.n_twice_as, TN.w_as_place, TN.n_as_place, TN.w_as_name, TN.n_as_name, TN.w_as_lost, TN.n_as_lost, TN.w_as_twice, TN.n_as_twice, TN.w_as_as, TN.n_as_as]); first | exact q | exact ⟨by omega, q⟩

abbrev s_go : Stmt := topS 24
theorem sc_go : FnScope ["pair", "events"] ["pair", "events"] (defScope s_go) := ⟨rfl, rfl, rfl, by decide +kernel, rfl, by decide +kernel, by decide +kernel⟩
theorem ok_go (b : Blt mg) (h_need_pair : Has P w K mg base "need_pair" 5 ["pair"] (sp0 K semNeedPair)) (h_need_events : Has P w K mg base "need_events" 4 ["pair", "events"] (sp0 K semNeedEvents)) {f_to_front : Addr} (m_to_front : mg "to_front" = some (.ref f_to_front)) (h_gone__to_front : Has P w K mg base "gone" 2 ["pair", "events", "taken"] (spF K f_to_front semGoneD)) {f : Addr} {fd : FuncData} (F : Fun K "go" "go" s_go f fd) : FnG P w K mg base CX0 6 f fd ["pair", "events"] (sp0 K semGoD) := by
  refine fn0 (k := 5) F sc_go (fun ds Q h => by obtain ⟨t, x, es, rfl, _⟩ := h; rfl) (fun cdv A outer s H E hg hr =>
    have nd := sc_go.nd
    have hu := hr.units
    have hu1 := hu_of hr
    (pss_cons (ps_expr (by exact (pe_has (h_need_pair.up (by decide)) hg hr (by rfl) (pa_cons (pv 0) pa_nil))))
 (pss_cons (ps_expr (by exact (pe_has (h_need_events.up (by decide)) hg hr (by rfl) (pa_cons (pv 0) (pa_cons (pv 1) pa_nil)))))
 (pss_one (ps_ret (pe_has (h_gone__to_front.up (by decide)) hg hr (by rfl) (pa_cons (pv 0) (pa_cons (pv 1) (pa_cons (pe_fn (by rfl) m_to_front) pa_nil)))))))))
    (ls_seq (ls_drop (le_call (les_cons (LP.e (lp_var (i := 0))) les_nil)))
 (ls_seq (ls_drop (le_call (les_cons (LP.e (lp_var (i := 0))) (les_cons (LP.e (lp_var (i := 1))) les_nil))))
 (ls_retT (ltp_callFv (lesF_cons (LP.e (lp_var (i := 0))) (lesF_cons (LP.e (lp_var (i := 1))) lesF_fn)))))) ?_
  rintro ds Q ⟨t, h, es, rfl, gp, ok, few, q⟩
  have tf := gp.gt.few
  have hl := gp.pm.length_eq
  (simp only [TN.dCallO, TN.dCallOI, TN.dCallNO, TN.oVar, TN.sCut, TN.tgLst, TN.iK, TN.iV, TN.iLT, TN.pNew, TN.dCallN, TN.dCompI2, TN.dLAddE, TN.oD, TN.sDNew, TN.sPutD, TN.fGetO, TN.fGetO2, TN.fInO, TN.fNinO, TN.dVarD, TN.dExtS, TN.mOwn, TN.dCallM, TN.mVar, TN.sRetV, TN.dAug, TN.dCallNT, TN.dCallNL, TN.fIxTs, TN.sForI, TN.dCompI, TN.dCompL, TN.dCompT, TN.dCompR, TN.iL, TN.iT, TN.iR1, TN.iR2, TN.iR3, TN.iS, TN.iE, TN.iRv, TN.iZ, TN.dKeepT, TN.dCallT, TN.pTup, TN.pCons, TN.pOwn, TN.sAsgT, TN.sRetT, TN.tpL, TN.fIxT, TN.fTp, TN.dAppendT, TN.dReverseT, TN.dClearT, TN.dVarT, TN.dReverse, TN.dClear, TN.dPop, Pt.d, Sl.tp.injEq, TN.startF, TN.dCallV, Sl.fn.injEq, TN.dCallF, TN.dLRev, TN.dLAdd, TN.dLSlP, TN.dLSlice, TN.dSliceE, TN.dNo, TN.dEnd, TN.fNo, TN.sSeq, TN.sNext, TN.sDrop, TN.sRet, TN.sRetL, TN.sRetN, TN.sIf, TN.sAsg, TN.sAsgL, TN.sStore, TN.sForL, TN.sForT, TN.sForR, TN.sForR2, TN.tgN, TN.tgTup, TN.tgCons, TN.tgNil, TN.dP, TN.dB, TN.dCall, TN.dCallL, TN.dCallB, TN.dCallBL, TN.dCons, TN.dNil, TN.dTup, TN.dLst, TN.dKeep, TN.dVar, TN.fVar, TN.fPeek, TN.fC, TN.f2, TN.d2, TN.d2V, TN.f1, TN.d1, TN.fCB, TN.dCB, TN.dCBL, TN.fNil, TN.fCons, TN.asBool, TN.dTest, TN.bAnd, TN.bOr, TN.bNot, TN.dAnd, TN.dOr, TN.dNot, TN.fAndV, TN.fOrV, TN.fNotV, TN.dAndV, TN.dOrV, TN.dNotV, TN.dIfE, TN.dIfL, TN.fIfE, TN.fChain, TN.fSlice, TN.dSlice, TN.fNo, TN.fEnd, TN.dAppend, TN.dInsert, TN.dPopAt, TN.ownL, TN.start0, TN.begB, TN.backD, TN.wipeD, TN.dYes, TN.sNever, List.getElem?_cons_zero, List.getElem?_cons_succ, List.set_cons_zero, List.set_cons_succ, List.map_cons, List.map_nil, List.length_cons, List.length_nil, List.cons_append, List.nil_append, List.replicate_succ, List.replicate_zero, Option.map_some, Option.map_none, Nat.add_one_sub_one, Nat.sub_zero, Nat.sub_self, Nat.zero_add, reduceCtorEq, Option.some.injEq, PyData.int.injEq, PyData.str.injEq, PyData.bool.injEq, PyData.list.injEq, PyData.tuple.injEq, Sl.sh.injEq, Sl.ow.injEq, List.cons.injEq, exists_eq_left', exists_eq_left, true_implies, false_implies, and_true, true_and, forall_const, Option.isSome_some, TN.imp_ff, TN.imp_tf, TN.imp_tt, exists_eq_left, exists_eq_left', exists_eq])
  exact ⟨t, h, rfl, gp, _, rfl, t, h, es, rfl, gp, by omega, evs_ok ok, _, rfl, t.map PyData.str, h.map PyData.str, es, rfl, by rw [List.length_map]; exact tf, by rw [List.length_map, List.length_map]; exact hl.symm, by rw [List.length_map]; exact ok, few, _, rfl, q⟩

abbrev s_gone : Stmt := topS 25
theorem sc_gone : FnScope ["pair", "events", "taken", "said", "written", "event", "told", "heard", "place", "places", "at"] ["pair", "events", "taken"] (defScope s_gone) := ⟨rfl, rfl, rfl, by decide +kernel, rfl, by decide +kernel, by decide +kernel⟩
theorem ok_gone (b : Blt mg) (h_place_told : Has P w K mg base "place_told" 1 ["row", "event"] (sp0 K semToldD)) (h_places_heard : Has P w K mg base "places_heard" 1 ["row", "event"] (sp0 K semHeardD)) {f_taken : Addr} (h_taken : HasAt P w K mg base f_taken 1 ["row", "place"] (sp0 K semFrontD)) {f : Addr} {fd : FuncData} (F : Fun K "gone" "gone" s_gone f fd) : FnG P w K mg base CX0 2 f fd ["pair", "events", "taken"] (spF K f_taken semGoneD) := by
  refine fnF (k := 1) F sc_gone (fun ds Q h => by obtain ⟨t, x, es, rfl, _⟩ := h; rfl) (fun cdv A outer s H E hg hr =>
    have nd := sc_gone.nd
    have hu := hr.units
    have hu1 := hu_of hr
    (pss_cons (ps_asg (pv 0) (pg_tup (n := 2) rfl (pgs_cons (pg_name (i := 6) nd rfl (by first | exact Or.inl rfl | exact Or.inr rfl)) (pgs_cons (pg_name (i := 7) nd rfl (by first | exact Or.inl rfl | exact Or.inr rfl)) pgs_nil))))
 (pss_cons (ps_set (i := 3) nd rfl (by first | exact Or.inl rfl | exact Or.inr rfl) (pe_lst pa_nil))
 (pss_cons (ps_set (i := 4) nd rfl (by first | exact Or.inl rfl | exact Or.inr rfl) (pe_lst pa_nil))
 (pss_cons (ps_for PassesOwn.never rfl (pi_list (pv 1)) (pg_name (i := 5) nd rfl (by first | exact Or.inl rfl | exact Or.inr rfl)) (pss_cons (ps_set (i := 8) nd rfl (by first | exact Or.inl rfl | exact Or.inr rfl) (pe_has (h_place_told.up (by decide)) hg hr (by rfl) (pa_cons (pv 6) (pa_cons (pv 5) pa_nil))))
 (pss_cons (ps_expr (by exact (pe_bm PySem.F.plainAttrs_list PySem.F.slot_list_append PySem.F.type_list_append mt_append (pv 3) (pa_cons (pe_ix ix_seq (pv 6) (pv 8) (fun _ _ => rfl)) pa_nil))))
 (pss_cons (ps_set (i := 6) nd rfl (by first | exact Or.inl rfl | exact Or.inr rfl) (pe_hasL (i := 2) (h_taken.up (by decide)) hg hr rfl (.inl rfl) (pa_cons (pv 6) (pa_cons (pv 8) pa_nil))))
 (pss_cons (ps_set (i := 9) nd rfl (by first | exact Or.inl rfl | exact Or.inr rfl) (pe_has (h_places_heard.up (by decide)) hg hr (by rfl) (pa_cons (pv 7) (pa_cons (pv 5) pa_nil))))
 (pss_one (ps_for PassesOwn.never rfl (pi_list (pv 9)) (pg_name (i := 10) nd rfl (by first | exact Or.inl rfl | exact Or.inr rfl)) (pss_cons (ps_expr (by exact (pe_bm PySem.F.plainAttrs_list PySem.F.slot_list_append PySem.F.type_list_append mt_append (pv 4) (pa_cons (pe_ix ix_seq (pv 7) (pv 10) (fun _ _ => rfl)) pa_nil))))
 (pss_one (ps_set (i := 7) nd rfl (by first | exact Or.inl rfl | exact Or.inr rfl) (pe_hasL (i := 2) (h_taken.up (by decide)) hg hr rfl (.inl rfl) (pa_cons (pv 7) (pa_cons (pv 10) pa_nil)))))))))))))
 (pss_one (ps_ret (pe_tupX (pa_cons (pe_tupX (pa_cons (pv 6) (pa_cons (pv 7) pa_nil))) (pa_cons (pv 3) (pa_cons (pv 4) pa_nil)))))))))))
    (ls_seq (ls_asg (LP.e (lp_var (i := 0))) (lg_tup (lgs_cons (lg_name (i := 6) (by decide)) (lgs_cons (lg_name (i := 7) (by decide)) lgs_nil))))
 (ls_seq (ls_asgL (i := 3) (by decide) (ll_lst les_nil))
 (ls_seq (ls_asgL (i := 4) (by decide) (ll_lst les_nil))
 (ls_seq (ls_forL (LP.e (lp_var (i := 1))) (lg_name (i := 5) (by decide)) (ls_seq (ls_asg (le_call (les_cons (LP.e (lp_var (i := 6))) (les_cons (LP.e (lp_var (i := 5))) les_nil))) (lg_name (i := 8) (by decide)))
 (ls_seq (ls_drop (le_append (j := 3) (LP.e (lp_op (LP.m (lp_var (i := 6))) (LP.m (lp_var (i := 8))) rb_ix))))
 (ls_seq (ls_asg (le_callV (i := 2) (les_cons (LP.e (lp_var (i := 6))) (les_cons (LP.e (lp_var (i := 8))) les_nil))) (lg_name (i := 6) (by decide)))
 (ls_seq (ls_asg (le_call (les_cons (LP.e (lp_var (i := 7))) (les_cons (LP.e (lp_var (i := 5))) les_nil))) (lg_name (i := 9) (by decide)))
 (ls_forL (LP.e (lp_var (i := 9))) (lg_name (i := 10) (by decide)) (ls_seq (ls_drop (le_append (j := 4) (LP.e (lp_op (LP.m (lp_var (i := 7))) (LP.m (lp_var (i := 10))) rb_ix))))
 (ls_asg (le_callV (i := 2) (les_cons (LP.e (lp_var (i := 7))) (les_cons (LP.e (lp_var (i := 10))) les_nil))) (lg_name (i := 7) (by decide))))))))))
 (ls_retT (ltp_tup (lpts_sh (le_tup (les_cons (LP.e (lp_var (i := 6))) (les_cons (LP.e (lp_var (i := 7))) les_nil))) (lpts_ow (j := 3) (by decide) (lpts_ow (j := 4) (by decide) lpts_nil))))))))) ?_
  rintro ds Q ⟨t, h, es, rfl, tf, hl, ok, few, q⟩
  (simp only [TN.dCallO, TN.dCallOI, TN.dCallNO, TN.oVar, TN.sCut, TN.tgLst, TN.iK, TN.iV, TN.iLT, TN.pNew, TN.dCallN, TN.dCompI2, TN.dLAddE, TN.oD, TN.sDNew, TN.sPutD, TN.fGetO, TN.fGetO2, TN.fInO, TN.fNinO, TN.dVarD, TN.dExtS, TN.mOwn, TN.dCallM, TN.mVar, TN.sRetV, TN.dAug, TN.dCallNT, TN.dCallNL, TN.fIxTs, TN.sForI, TN.dCompI, TN.dCompL, TN.dCompT, TN.dCompR, TN.iL, TN.iT, TN.iR1, TN.iR2, TN.iR3, TN.iS, TN.iE, TN.iRv, TN.iZ, TN.dKeepT, TN.dCallT, TN.pTup, TN.pCons, TN.pOwn, TN.sAsgT, TN.sRetT, TN.tpL, TN.fIxT, TN.fTp, TN.dAppendT, TN.dReverseT, TN.dClearT, TN.dVarT, TN.dReverse, TN.dClear, TN.dPop, Pt.d, Sl.tp.injEq, TN.startF, TN.dCallV, Sl.fn.injEq, TN.dCallF, TN.dLRev, TN.dLAdd, TN.dLSlP, TN.dLSlice, TN.dSliceE, TN.dNo, TN.dEnd, TN.fNo, TN.sSeq, TN.sNext, TN.sDrop, TN.sRet, TN.sRetL, TN.sRetN, TN.sIf, TN.sAsg, TN.sAsgL, TN.sStore, TN.sForL, TN.sForT, TN.sForR, TN.sForR2, TN.tgN, TN.tgTup, TN.tgCons, TN.tgNil, TN.dP, TN.dB, TN.dCall, TN.dCallL, TN.dCallB, TN.dCallBL, TN.dCons, TN.dNil, TN.dTup, TN.dLst, TN.dKeep, TN.dVar, TN.fVar, TN.fPeek, TN.fC, TN.f2, TN.d2, TN.d2V, TN.f1, TN.d1, TN.fCB, TN.dCB, TN.dCBL, TN.fNil, TN.fCons, TN.asBool, TN.dTest, TN.bAnd, TN.bOr, TN.bNot, TN.dAnd, TN.dOr, TN.dNot, TN.fAndV, TN.fOrV, TN.fNotV, TN.dAndV, TN.dOrV, TN.dNotV, TN.dIfE, TN.dIfL, TN.fIfE, TN.fChain, TN.fSlice, TN.dSlice, TN.fNo, TN.fEnd, TN.dAppend, TN.dInsert, TN.dPopAt, TN.ownL, TN.start0, TN.begB, TN.backD, TN.wipeD, TN.dYes, TN.sNever, List.getElem?_cons_zero, List.getElem?_cons_succ, List.set_cons_zero, List.set_cons_succ, List.map_cons, List.map_nil, List.length_cons, List.length_nil, List.cons_append, List.nil_append, List.replicate_succ, List.replicate_zero, Option.map_some, Option.map_none, Nat.add_one_sub_one, Nat.sub_zero, Nat.sub_self, Nat.zero_add, reduceCtorEq, Option.some.injEq, PyData.int.injEq, PyData.str.injEq, PyData.bool.injEq, PyData.list.injEq, PyData.tuple.injEq, Sl.sh.injEq, Sl.ow.injEq, List.cons.injEq, exists_eq_left', exists_eq_left, true_implies, false_implies, and_true, true_and, forall_const, Option.isSome_some, TN.imp_ff, TN.imp_tf, TN.imp_tt, exists_eq_left, exists_eq_left', exists_eq])
  refine ⟨_, _, ⟨rfl, rfl⟩, _, _, rfl, rfl, by omega, by omega, ?_⟩
  refine forD_go Ev.d (fun ls ρ => ∃ (u v s w : List D) (b5 b8 b9 b10 : Sl), ρ = [.sh (.tuple [.tuple t, .tuple h]), .sh (.list (es.map Ev.d)), .fn f_taken, .ow s, .ow w, b5, .sh (.tuple u), .sh (.tuple v), b8, b9, b10] ∧ evsN u.length ls ∧ v.length = u.length ∧ u.length ≤ 16 ∧ s.length + ls.length ≤ 1000 ∧ w.length + 2 * ls.length ≤ 2000 ∧ (ledT t es).1 = (ledT u ls).1 ∧ (ledT t es).2 = s ++ (ledT u ls).2 ∧ (ledH h es).1 = (ledH v ls).1 ∧ (ledH h es).2 = w ++ (ledH v ls).2) ?_ ?_ es _ ⟨t, h, [], [], .no, .no, .no, .no, rfl, ok, hl, tf, by simp; omega, by simp; omega, rfl, rfl, rfl, rfl⟩
  rotate_left
  · rintro ρ ⟨u, v, s, w, b5, b8, b9, b10, rfl, _, _, _, _, _, e1, e2, e3, e4⟩
    rw [e1, e2, e3, e4] at q
    have q : Q (.tp [.sh (.tuple [.tuple u, .tuple v]), .ow (s ++ []), .ow (w ++ [])]) := q
    rw [List.append_nil, List.append_nil] at q
    (simp only [TN.dCallO, TN.dCallOI, TN.dCallNO, TN.oVar, TN.sCut, TN.tgLst, TN.iK, TN.iV, TN.iLT, TN.pNew, TN.dCallN, TN.dCompI2, TN.dLAddE, TN.oD, TN.sDNew, TN.sPutD, TN.fGetO, TN.fGetO2, TN.fInO, TN.fNinO, TN.dVarD, TN.dExtS, TN.mOwn, TN.dCallM, TN.mVar, TN.sRetV, TN.dAug, TN.dCallNT, TN.dCallNL, TN.fIxTs, TN.sForI, TN.dCompI, TN.dCompL, TN.dCompT, TN.dCompR, TN.iL, TN.iT, TN.iR1, TN.iR2, TN.iR3, TN.iS, TN.iE, TN.iRv, TN.iZ, TN.dKeepT, TN.dCallT, TN.pTup, TN.pCons, TN.pOwn, TN.sAsgT, TN.sRetT, TN.tpL, TN.fIxT, TN.fTp, TN.dAppendT, TN.dReverseT, TN.dClearT, TN.dVarT, TN.dReverse, TN.dClear, TN.dPop, Pt.d, Sl.tp.injEq, TN.startF, TN.dCallV, Sl.fn.injEq, TN.dCallF, TN.dLRev, TN.dLAdd, TN.dLSlP, TN.dLSlice, TN.dSliceE, TN.dNo, TN.dEnd, TN.fNo, TN.sSeq, TN.sNext, TN.sDrop, TN.sRet, TN.sRetL, TN.sRetN, TN.sIf, TN.sAsg, TN.sAsgL, TN.sStore, TN.sForL, TN.sForT, TN.sForR, TN.sForR2, TN.tgN, TN.tgTup, TN.tgCons, TN.tgNil, TN.dP, TN.dB, TN.dCall, TN.dCallL, TN.dCallB, TN.dCallBL, TN.dCons, TN.dNil, TN.dTup, TN.dLst, TN.dKeep, TN.dVar, TN.fVar, TN.fPeek, TN.fC, TN.f2, TN.d2, TN.d2V, TN.f1, TN.d1, TN.fCB, TN.dCB, TN.dCBL, TN.fNil, TN.fCons, TN.asBool, TN.dTest, TN.bAnd, TN.bOr, TN.bNot, TN.dAnd, TN.dOr, TN.dNot, TN.fAndV, TN.fOrV, TN.fNotV, TN.dAndV, TN.dOrV, TN.dNotV, TN.dIfE, TN.dIfL, TN.fIfE, TN.fChain, TN.fSlice, TN.dSlice, TN.fNo, TN.fEnd, TN.dAppend, TN.dInsert, TN.dPopAt, TN.ownL, TN.start0, TN.begB, TN.backD, TN.wipeD, TN.dYes, TN.sNever, List.getElem?_cons_zero, List.getElem?_cons_succ, List.set_cons_zero, List.set_cons_succ, List.map_cons, List.map_nil, List.length_cons, List.length_nil, List.cons_append, List.nil_append, List.replicate_succ, List.replicate_zero, Option.map_some, Option.map_none, Nat.add_one_sub_one, Nat.sub_zero, Nat.sub_self, Nat.zero_add, reduceCtorEq, Option.some.injEq, PyData.int.injEq, PyData.str.injEq, PyData.bool.injEq, PyData.list.injEq, PyData.tuple.injEq, Sl.sh.injEq, Sl.ow.injEq, List.cons.injEq, exists_eq_left', exists_eq_left, true_implies, false_implies, and_true, true_and, forall_const, Option.isSome_some, TN.imp_ff, TN.imp_tf, TN.imp_tt, exists_eq_left, exists_eq_left', exists_eq])
    exact ⟨by omega, by omega, q⟩
  rintro e ls ρ E' ⟨u, v, s, w, b5, b8, b9, b10, rfl, okl, vl, uf, sl, wl, e1, e2, e3, e4⟩ nx _ _ _
  have oe := okl e List.mem_cons_self
  have pl := Ev.pl_lt oe
  have tl := Ev.tk_lt oe
  have t2 := Ev.tk_few e
  rw [List.length_cons] at sl wl
  (simp only [TN.dCallO, TN.dCallOI, TN.dCallNO, TN.oVar, TN.sCut, TN.tgLst, TN.iK, TN.iV, TN.iLT, TN.pNew, TN.dCallN, TN.dCompI2, TN.dLAddE, TN.oD, TN.sDNew, TN.sPutD, TN.fGetO, TN.fGetO2, TN.fInO, TN.fNinO, TN.dVarD, TN.dExtS, TN.mOwn, TN.dCallM, TN.mVar, TN.sRetV, TN.dAug, TN.dCallNT, TN.dCallNL, TN.fIxTs, TN.sForI, TN.dCompI, TN.dCompL, TN.dCompT, TN.dCompR, TN.iL, TN.iT, TN.iR1, TN.iR2, TN.iR3, TN.iS, TN.iE, TN.iRv, TN.iZ, TN.dKeepT, TN.dCallT, TN.pTup, TN.pCons, TN.pOwn, TN.sAsgT, TN.sRetT, TN.tpL, TN.fIxT, TN.fTp, TN.dAppendT, TN.dReverseT, TN.dClearT, TN.dVarT, TN.dReverse, TN.dClear, TN.dPop, Pt.d, Sl.tp.injEq, TN.startF, TN.dCallV, Sl.fn.injEq, TN.dCallF, TN.dLRev, TN.dLAdd, TN.dLSlP, TN.dLSlice, TN.dSliceE, TN.dNo, TN.dEnd, TN.fNo, TN.sSeq, TN.sNext, TN.sDrop, TN.sRet, TN.sRetL, TN.sRetN, TN.sIf, TN.sAsg, TN.sAsgL, TN.sStore, TN.sForL, TN.sForT, TN.sForR, TN.sForR2, TN.tgN, TN.tgTup, TN.tgCons, TN.tgNil, TN.dP, TN.dB, TN.dCall, TN.dCallL, TN.dCallB, TN.dCallBL, TN.dCons, TN.dNil, TN.dTup, TN.dLst, TN.dKeep, TN.dVar, TN.fVar, TN.fPeek, TN.fC, TN.f2, TN.d2, TN.d2V, TN.f1, TN.d1, TN.fCB, TN.dCB, TN.dCBL, TN.fNil, TN.fCons, TN.asBool, TN.dTest, TN.bAnd, TN.bOr, TN.bNot, TN.dAnd, TN.dOr, TN.dNot, TN.fAndV, TN.fOrV, TN.fNotV, TN.dAndV, TN.dOrV, TN.dNotV, TN.dIfE, TN.dIfL, TN.fIfE, TN.fChain, TN.fSlice, TN.dSlice, TN.fNo, TN.fEnd, TN.dAppend, TN.dInsert, TN.dPopAt, TN.ownL, TN.start0, TN.begB, TN.backD, TN.wipeD, TN.dYes, TN.sNever, List.getElem?_cons_zero, List.getElem?_cons_succ, List.set_cons_zero, List.set_cons_succ, List.map_cons, List.map_nil, List.length_cons, List.length_nil, List.cons_append, List.nil_append, List.replicate_succ, List.replicate_zero, Option.map_some, Option.map_none, Nat.add_one_sub_one, Nat.sub_zero, Nat.sub_self, Nat.zero_add, reduceCtorEq, Option.some.injEq, PyData.int.injEq, PyData.str.injEq, PyData.bool.injEq, PyData.list.injEq, PyData.tuple.injEq, Sl.sh.injEq, Sl.ow.injEq, List.cons.injEq, exists_eq_left', exists_eq_left, true_implies, false_implies, and_true, true_and, forall_const, Option.isSome_some, TN.imp_ff, TN.imp_tf, TN.imp_tt, exists_eq_left, exists_eq_left', exists_eq])
  refine ⟨u, e, u.length, rfl, oe, _, rfl, _, oIx_tupD' pl, by omega, ?_⟩
  refine ⟨u, e.pl, rfl, pl, by omega, _, rfl, v, e, u.length, rfl, oe, _, rfl, ?_⟩
  have ul := toA_len pl
  have ul1 : u[e.pl]?.toList = [u[e.pl]] := by rw [List.getElem?_eq_getElem pl]; rfl
  obtain ⟨vp, vw⟩ := takeA_perm e.tk v (by rw [vl]; exact tl)
  have okr : evsN (toA u e.pl).length ls := by rw [ul]; exact fun x hx => okl x (List.mem_cons_of_mem _ hx)
  refine ⟨_, rfl, ?_⟩
  refine forD_go (fun (k : Nat) => PyData.int k) (fun ps ρ => ∃ (v' w' : List D) (c10 : Sl), ρ = [.sh (.tuple [.tuple t, .tuple h]), .sh (.list (es.map Ev.d)), .fn f_taken, .ow (s ++ [u[e.pl]]), .ow w', .sh e.d, .sh (.tuple (toA u e.pl)), .sh (.tuple v'), .sh (.int e.pl), .sh (.list (intsD e.tk)), c10] ∧ v'.length = u.length ∧ (∀ p ∈ ps, p < u.length) ∧ w'.length + ps.length ≤ 2000 ∧ (takeA v e.tk).1 = (takeA v' ps).1 ∧ w ++ (takeA v e.tk).2 = w' ++ (takeA v' ps).2) ?_ ?_ e.tk _ ⟨v, w, b10, rfl, vl, tl, by omega, rfl, rfl⟩
  rotate_left
  · rintro ρ ⟨v', w', c10, rfl, vl', _, _, f1, f2⟩
    have f1 : (takeA v e.tk).1 = v' := f1
    have f2 : w ++ (takeA v e.tk).2 = w' := f2.trans (List.append_nil _)
    refine nx _ ⟨toA u e.pl, v', s ++ [u[e.pl]], w', _, _, _, c10, rfl, okr, by rw [ul]; exact vl', by omega, by rw [List.length_append, List.length_singleton]; omega, ?_, e1, ?_, ?_, ?_⟩
    · rw [← f2, List.length_append, vw]; omega
    · rw [e2, List.append_assoc, ← ul1]; rfl
    · rw [e3, ← f1]; rfl
    · rw [e4, ← f2, ← f1, List.append_assoc]; rfl
  rintro p ps ρ E2 ⟨v', w', c10, rfl, vl', ht, wl', f1, f2⟩ nx2 _ _ _
  have hp : p < v'.length := by rw [vl']; exact ht p List.mem_cons_self
  have vl2 := toA_len hp
  rw [List.length_cons] at wl'
  (simp only [TN.dCallO, TN.dCallOI, TN.dCallNO, TN.oVar, TN.sCut, TN.tgLst, TN.iK, TN.iV, TN.iLT, TN.pNew, TN.dCallN, TN.dCompI2, TN.dLAddE, TN.oD, TN.sDNew, TN.sPutD, TN.fGetO, TN.fGetO2, TN.fInO, TN.fNinO, TN.dVarD, TN.dExtS, TN.mOwn, TN.dCallM, TN.mVar, TN.sRetV, TN.dAug, TN.dCallNT, TN.dCallNL, TN.fIxTs, TN.sForI, TN.dCompI, TN.dCompL, TN.dCompT, TN.dCompR, TN.iL, TN.iT, TN.iR1, TN.iR2, TN.iR3, TN.iS, TN.iE, TN.iRv, TN.iZ, TN.dKeepT, TN.dCallT, TN.pTup, TN.pCons, TN.pOwn, TN.sAsgT, TN.sRetT, TN.tpL, TN.fIxT, TN.fTp, TN.dAppendT, TN.dReverseT, TN.dClearT, TN.dVarT, TN.dReverse, TN.dClear, TN.dPop, Pt.d, Sl.tp.injEq, TN.startF, TN.dCallV, Sl.fn.injEq, TN.dCallF, TN.dLRev, TN.dLAdd, TN.dLSlP, TN.dLSlice, TN.dSliceE, TN.dNo, TN.dEnd, TN.fNo, TN.sSeq, TN.sNext, TN.sDrop, TN.sRet, TN.sRetL, TN.sRetN, TN.sIf, TN.sAsg, TN.sAsgL, TN.sStore, TN.sForL, TN.sForT, TN.sForR, TN.sForR2, TN.tgN, TN.tgTup, TN.tgCons, TN.tgNil, TN.dP, TN.dB, TN.dCall, TN.dCallL, TN.dCallB, TN.dCallBL, TN.dCons, TN.dNil, TN.dTup, TN.dLst, TN.dKeep, TN.dVar, TN.fVar, TN.fPeek, TN.fC, TN.f2, TN.d2, TN.d2V, TN.f1, TN.d1, TN.fCB, TN.dCB, TN.dCBL, TN.fNil, TN.fCons, TN.asBool, TN.dTest, TN.bAnd, TN.bOr, TN.bNot, TN.dAnd, TN.dOr, TN.dNot, TN.fAndV, TN.fOrV, TN.fNotV, TN.dAndV, TN.dOrV, TN.dNotV, TN.dIfE, TN.dIfL, TN.fIfE, TN.fChain, TN.fSlice, TN.dSlice, TN.fNo, TN.fEnd, TN.dAppend, TN.dInsert, TN.dPopAt, TN.ownL, TN.start0, TN.begB, TN.backD, TN.wipeD, TN.dYes, TN.sNever, List.getElem?_cons_zero, List.getElem?_cons_succ, List.set_cons_zero, List.set_cons_succ, List.map_cons, List.map_nil, List.length_cons, List.length_nil, List.cons_append, List.nil_append, List.replicate_succ, List.replicate_zero, Option.map_some, Option.map_none, Nat.add_one_sub_one, Nat.sub_zero, Nat.sub_self, Nat.zero_add, reduceCtorEq, Option.some.injEq, PyData.int.injEq, PyData.str.injEq, PyData.bool.injEq, PyData.list.injEq, PyData.tuple.injEq, Sl.sh.injEq, Sl.ow.injEq, List.cons.injEq, exists_eq_left', exists_eq_left, true_implies, false_implies, and_true, true_and, forall_const, Option.isSome_some, TN.imp_ff, TN.imp_tf, TN.imp_tt, exists_eq_left, exists_eq_left', exists_eq])
  refine ⟨_, oIx_tupD' hp, by omega, v', p, rfl, hp, by omega, _, rfl, ?_⟩
  refine nx2 _ ⟨toA v' p, w' ++ [v'[p]], _, rfl, by rw [vl2]; exact vl', fun x hx => ht x (List.mem_cons_of_mem _ hx), by rw [List.length_append, List.length_singleton]; omega, f1, ?_⟩
  rw [f2]
  show w' ++ (v'[p]?.toList ++ (takeA (toA v' p) ps).2) = w' ++ [v'[p]] ++ (takeA (toA v' p) ps).2
  rw [List.getElem?_eq_getElem hp, List.append_assoc]; rfl

abbrev s_has_name : Stmt := topS 26
theorem sc_has_name : FnScope ["events", "event"] ["events"] (defScope s_has_name) := ⟨rfl, rfl, rfl, by decide +kernel, rfl, by decide +kernel, by decide +kernel⟩
theorem ok_has_name (b : Blt mg) {f : Addr} {fd : FuncData} (F : Fun K "has_name" "has_name" s_has_name f fd) : FnG P w K mg base CX0 1 f fd ["events"] (sp0 K semHasName) := by
  refine fn0 (k := 0) F sc_has_name (fun ds Q h => by obtain ⟨es, rfl, _⟩ := h; rfl) (fun cdv A outer s H E hg hr =>
    have nd := sc_has_name.nd
    have hu := hr.units
    have hu1 := hu_of hr
    (pss_one (ps_ret (pe_callB (cr_any rfl) (by rfl) b.any (by decide +kernel) (pa_cons (pe_lc (own := [("event", 1)]) (g := gName 1) (tt := tYes) rfl nd (pi_list (pv 0)) (blkOk_by (own := [("event", 1)]) (N := ["events", "event"]) (sc := defScope s_has_name) (by decide +kernel)) (fun _ _ _ _ _ => pg_name (i := 1) nd rfl (by first | exact Or.inl rfl | exact Or.inr rfl)) (fun _ _ _ _ _ => by exact pts_nil) (fun _ _ _ _ _ => by exact (pe_cmpR (op_eqD hu) (pe_ix ix_seq (pv 1) pe_int (fun _ _ => rfl)) pe_str (nomark _)))) pa_nil)))))
    (ls_ret (le_cb (les_cons (LL.e (ll_compL (j := 1) (vs := [1]) (by decide) (by decide) (LP.e (lp_var (i := 0))) lt_yes (LP.e (lp_op (LP.m (lp_op (LP.m (lp_var (i := 1))) (LP.m lp_int) rb_ix)) (LP.m lp_str) rb_eq)))) les_nil) rc_any)) ?_
  rintro ds Q ⟨es, rfl, few, q⟩
  (simp only [TN.startF, TN.dCallV, Sl.fn.injEq, TN.dCallF, TN.dLRev, TN.dLAdd, TN.dLSlP, TN.dLSlice, TN.dSliceE, TN.dNo, TN.dEnd, TN.fNo, TN.sSeq, TN.sNext, TN.sDrop, TN.sRet, TN.sRetL, TN.sRetN, TN.sIf, TN.sAsg, TN.sAsgL, TN.sStore, TN.sForL, TN.sForT, TN.sForR, TN.sForR2, TN.tgN, TN.tgTup, TN.tgCons, TN.tgNil, TN.dP, TN.dB, TN.dCall, TN.dCallL, TN.dCallB, TN.dCallBL, TN.dCons, TN.dNil, TN.dTup, TN.dLst, TN.dKeep, TN.dVar, TN.fVar, TN.fPeek, TN.fC, TN.f2, TN.d2, TN.d2V, TN.f1, TN.d1, TN.fCB, TN.dCB, TN.dCBL, TN.fNil, TN.fCons, TN.asBool, TN.dTest, TN.bAnd, TN.bOr, TN.bNot, TN.dAnd, TN.dOr, TN.dNot, TN.fAndV, TN.fOrV, TN.fNotV, TN.dAndV, TN.dOrV, TN.dNotV, TN.dIfE, TN.dIfL, TN.fIfE, TN.fChain, TN.fSlice, TN.dSlice, TN.fNo, TN.fEnd, TN.dAppend, TN.dInsert, TN.dPopAt, TN.ownL, TN.start0, TN.begB, TN.backD, TN.wipeD, TN.dYes, TN.sNever, List.getElem?_cons_zero, List.getElem?_cons_succ, List.set_cons_zero, List.set_cons_succ, List.map_cons, List.map_nil, List.length_cons, List.length_nil, List.cons_append, List.nil_append, List.replicate_succ, List.replicate_zero, Option.map_some, Option.map_none, Nat.add_one_sub_one, Nat.sub_zero, Nat.sub_self, Nat.zero_add, reduceCtorEq, Option.some.injEq, PyData.int.injEq, PyData.str.injEq, PyData.bool.injEq, PyData.list.injEq, PyData.tuple.injEq, Sl.sh.injEq, Sl.ow.injEq, List.cons.injEq, exists_eq_left', exists_eq_left, true_implies, false_implies, and_true, true_and, forall_const, Option.isSome_some, TN.imp_ff, TN.imp_tf, TN.imp_tt, exists_eq_left, exists_eq_left', exists_eq])
  unfold dCompL
  (simp only [TN.startF, TN.dCallV, Sl.fn.injEq, TN.dCallF, TN.dLRev, TN.dLAdd, TN.dLSlP, TN.dLSlice, TN.dSliceE, TN.dNo, TN.dEnd, TN.fNo, TN.sSeq, TN.sNext, TN.sDrop, TN.sRet, TN.sRetL, TN.sRetN, TN.sIf, TN.sAsg, TN.sAsgL, TN.sStore, TN.sForL, TN.sForT, TN.sForR, TN.sForR2, TN.tgN, TN.tgTup, TN.tgCons, TN.tgNil, TN.dP, TN.dB, TN.dCall, TN.dCallL, TN.dCallB, TN.dCallBL, TN.dCons, TN.dNil, TN.dTup, TN.dLst, TN.dKeep, TN.dVar, TN.fVar, TN.fPeek, TN.fC, TN.f2, TN.d2, TN.d2V, TN.f1, TN.d1, TN.fCB, TN.dCB, TN.dCBL, TN.fNil, TN.fCons, TN.asBool, TN.dTest, TN.bAnd, TN.bOr, TN.bNot, TN.dAnd, TN.dOr, TN.dNot, TN.fAndV, TN.fOrV, TN.fNotV, TN.dAndV, TN.dOrV, TN.dNotV, TN.dIfE, TN.dIfL, TN.fIfE, TN.fChain, TN.fSlice, TN.dSlice, TN.fNo, TN.fEnd, TN.dAppend, TN.dInsert, TN.dPopAt, TN.ownL, TN.start0, TN.begB, TN.backD, TN.wipeD, TN.dYes, TN.sNever, List.getElem?_cons_zero, List.getElem?_cons_succ, List.set_cons_zero, List.set_cons_succ, List.map_cons, List.map_nil, List.length_cons, List.length_nil, List.cons_append, List.nil_append, List.replicate_succ, List.replicate_zero, Option.map_some, Option.map_none, Nat.add_one_sub_one, Nat.sub_zero, Nat.sub_self, Nat.zero_add, reduceCtorEq, Option.some.injEq, PyData.int.injEq, PyData.str.injEq, PyData.bool.injEq, PyData.list.injEq, PyData.tuple.injEq, Sl.sh.injEq, Sl.ow.injEq, List.cons.injEq, exists_eq_left', exists_eq_left, true_implies, false_implies, and_true, true_and, forall_const, Option.isSome_some, TN.imp_ff, TN.imp_tf, TN.imp_tt, exists_eq_left, exists_eq_left', exists_eq])
  have ee : es.map Ev.d = es.map fun e => Ev.d e := rfl
  rw [ee]
  refine comp_map Ev.d (fun e => .bool e.isN) (fun _ => True) rfl (fun _ => rfl) ?_ es [] (fun _ _ => trivial) (by simp; omega) ?_
  · intro e R _ kk
    (simp only [TN.startF, TN.dCallV, Sl.fn.injEq, TN.dCallF, TN.dLRev, TN.dLAdd, TN.dLSlP, TN.dLSlice, TN.dSliceE, TN.dNo, TN.dEnd, TN.fNo, TN.sSeq, TN.sNext, TN.sDrop, TN.sRet, TN.sRetL, TN.sRetN, TN.sIf, TN.sAsg, TN.sAsgL, TN.sStore, TN.sForL, TN.sForT, TN.sForR, TN.sForR2, TN.tgN, TN.tgTup, TN.tgCons, TN.tgNil, TN.dP, TN.dB, TN.dCall, TN.dCallL, TN.dCallB, TN.dCallBL, TN.dCons, TN.dNil, TN.dTup, TN.dLst, TN.dKeep, TN.dVar, TN.fVar, TN.fPeek, TN.fC, TN.f2, TN.d2, TN.d2V, TN.f1, TN.d1, TN.fCB, TN.dCB, TN.dCBL, TN.fNil, TN.fCons, TN.asBool, TN.dTest, TN.bAnd, TN.bOr, TN.bNot, TN.dAnd, TN.dOr, TN.dNot, TN.fAndV, TN.fOrV, TN.fNotV, TN.dAndV, TN.dOrV, TN.dNotV, TN.dIfE, TN.dIfL, TN.fIfE, TN.fChain, TN.fSlice, TN.dSlice, TN.fNo, TN.fEnd, TN.dAppend, TN.dInsert, TN.dPopAt, TN.ownL, TN.start0, TN.begB, TN.backD, TN.wipeD, TN.dYes, TN.sNever, List.getElem?_cons_zero, List.getElem?_cons_succ, List.set_cons_zero, List.set_cons_succ, List.map_cons, List.map_nil, List.length_cons, List.length_nil, List.cons_append, List.nil_append, List.replicate_succ, List.replicate_zero, Option.map_some, Option.map_none, Nat.add_one_sub_one, Nat.sub_zero, Nat.sub_self, Nat.zero_add, reduceCtorEq, Option.some.injEq, PyData.int.injEq, PyData.str.injEq, PyData.bool.injEq, PyData.list.injEq, PyData.tuple.injEq, Sl.sh.injEq, Sl.ow.injEq, List.cons.injEq, exists_eq_left', exists_eq_left, true_implies, false_implies, and_true, true_and, forall_const, Option.isSome_some, TN.imp_ff, TN.imp_tf, TN.imp_tt, exists_eq_left, exists_eq_left', exists_eq])
    obtain ⟨w, e1, e2⟩ := isN_eq e
    simp only [e1, e2]
    exact ⟨_, rfl, kk⟩
  · rw [List.nil_append]
    exact ⟨_, oAny_map Ev.isN es, q⟩

abbrev s_ring_from : Stmt := topS 28
theorem sc_ring_from : FnScope ["behind", "first", "ring"] ["behind", "first"] (defScope s_ring_from) := ⟨rfl, rfl, rfl, by decide +kernel, rfl, by decide +kernel, by decide +kernel⟩
theorem ok_ring_from (b : Blt mg) {f : Addr} {fd : FuncData} (F : Fun K "ring_from" "ring_from" s_ring_from f fd) : FnG P w K mg base CX0 1 f fd ["behind", "first"] (sp0 K semRingI) := by
  refine fn0 (k := 0) F sc_ring_from (fun ds Q h => by obtain ⟨a, x, n, L, rfl, _⟩ := h; rfl) (fun cdv A outer s H E hg hr =>
    have nd := sc_ring_from.nd
    have hu := hr.units
    have hu1 := hu_of hr
    (pss_cons (ps_set (i := 2) nd rfl (by first | exact Or.inl rfl | exact Or.inr rfl) (pe_lst (pa_cons (pv 1) pa_nil)))
 (pss_cons (ps_while PassesOwn.never (pt_cmpR (op_neD hu) (pe_ix ix_seq (pv 0) (pe_ix ix_seq (pv 2) (pe_un un_neg pe_int) (fun _ _ => rfl)) (fun _ _ => rfl)) (pv 1) (nomark _)) (pss_one (ps_expr (by exact (pe_bm PySem.F.plainAttrs_list PySem.F.slot_list_append PySem.F.type_list_append mt_append (pv 2) (pa_cons (pe_ix ix_seq (pv 0) (pe_ix ix_seq (pv 2) (pe_un un_neg pe_int) (fun _ _ => rfl)) (fun _ _ => rfl)) pa_nil))))))
 (pss_one (ps_ret (pe_callTy call_tupleX (by rfl) b.tuple (by decide +kernel) (pa_cons (pv 2) pa_nil)))))))
    (ls_seq (ls_asgL (i := 2) (by decide) (ll_lst (les_cons (LP.e (lp_var (i := 1))) les_nil)))
 (ls_seq (ls_while (LB.g (lb_test (LP.m (lp_op (LP.m (lp_op (LP.m (lp_var (i := 0))) (LP.m (lp_op (lm_peek (i := 2)) (LP.m (lp_un (LP.m lp_int) ru_neg)) rb_ix)) rb_ix)) (LP.m (lp_var (i := 1))) rb_ne)))) (ls_drop (le_append (j := 2) (LP.e (lp_op (LP.m (lp_var (i := 0))) (LP.m (lp_op (lm_peek (i := 2)) (LP.m (lp_un (LP.m lp_int) ru_neg)) rb_ix)) rb_ix)))))
 (ls_ret (LP.e (lp_cb (lms_cons (lm_peek (i := 2)) lms_nil) rc_tuple))))) ?_
  rintro ds Q ⟨a, x, n, L, rfl, T, nf, xn, Ln, P, q⟩
  have Lp := P.pos
  (simp only [TN.dCallO, TN.dCallOI, TN.dCallNO, TN.oVar, TN.sCut, TN.tgLst, TN.iK, TN.iV, TN.iLT, TN.pNew, TN.dCallN, TN.dCompI2, TN.dLAddE, TN.oD, TN.sDNew, TN.sPutD, TN.fGetO, TN.fGetO2, TN.fInO, TN.fNinO, TN.dVarD, TN.dExtS, TN.mOwn, TN.dCallM, TN.mVar, TN.sRetV, TN.dAug, TN.dCallNT, TN.dCallNL, TN.fIxTs, TN.sForI, TN.dCompI, TN.dCompL, TN.dCompT, TN.dCompR, TN.iL, TN.iT, TN.iR1, TN.iR2, TN.iR3, TN.iS, TN.iE, TN.iRv, TN.iZ, TN.dKeepT, TN.dCallT, TN.pTup, TN.pCons, TN.pOwn, TN.sAsgT, TN.sRetT, TN.tpL, TN.fIxT, TN.fTp, TN.dAppendT, TN.dReverseT, TN.dClearT, TN.dVarT, TN.dReverse, TN.dClear, TN.dPop, Pt.d, Sl.tp.injEq, TN.startF, TN.dCallV, Sl.fn.injEq, TN.dCallF, TN.dLRev, TN.dLAdd, TN.dLSlP, TN.dLSlice, TN.dSliceE, TN.dNo, TN.dEnd, TN.fNo, TN.sSeq, TN.sNext, TN.sDrop, TN.sRet, TN.sRetL, TN.sRetN, TN.sIf, TN.sAsg, TN.sAsgL, TN.sStore, TN.sForL, TN.sForT, TN.sForR, TN.sForR2, TN.tgN, TN.tgTup, TN.tgCons, TN.tgNil, TN.dP, TN.dB, TN.dCall, TN.dCallL, TN.dCallB, TN.dCallBL, TN.dCons, TN.dNil, TN.dTup, TN.dLst, TN.dKeep, TN.dVar, TN.fVar, TN.fPeek, TN.fC, TN.f2, TN.d2, TN.d2V, TN.f1, TN.d1, TN.fCB, TN.dCB, TN.dCBL, TN.fNil, TN.fCons, TN.asBool, TN.dTest, TN.bAnd, TN.bOr, TN.bNot, TN.dAnd, TN.dOr, TN.dNot, TN.fAndV, TN.fOrV, TN.fNotV, TN.dAndV, TN.dOrV, TN.dNotV, TN.dIfE, TN.dIfL, TN.fIfE, TN.fChain, TN.fSlice, TN.dSlice, TN.fNo, TN.fEnd, TN.dAppend, TN.dInsert, TN.dPopAt, TN.ownL, TN.start0, TN.begB, TN.backD, TN.wipeD, TN.dYes, TN.sNever, List.getElem?_cons_zero, List.getElem?_cons_succ, List.set_cons_zero, List.set_cons_succ, List.map_cons, List.map_nil, List.length_cons, List.length_nil, List.cons_append, List.nil_append, List.replicate_succ, List.replicate_zero, Option.map_some, Option.map_none, Nat.add_one_sub_one, Nat.sub_zero, Nat.sub_self, Nat.zero_add, reduceCtorEq, Option.some.injEq, PyData.int.injEq, PyData.str.injEq, PyData.bool.injEq, PyData.list.injEq, PyData.tuple.injEq, Sl.sh.injEq, Sl.ow.injEq, List.cons.injEq, exists_eq_left', exists_eq_left, true_implies, false_implies, and_true, true_and, forall_const, Option.isSome_some, TN.imp_ff, TN.imp_tf, TN.imp_tt, exists_eq_left, exists_eq_left', exists_eq])
  refine ⟨by omega, L - 1 + 1, ?_⟩
  refine ring_turnsI T xn P (by omega) (L - 1) 0 (by omega) ?_
  show (fun ρ => _) _
  (simp only [TN.dCallO, TN.dCallOI, TN.dCallNO, TN.oVar, TN.sCut, TN.tgLst, TN.iK, TN.iV, TN.iLT, TN.pNew, TN.dCallN, TN.dCompI2, TN.dLAddE, TN.oD, TN.sDNew, TN.sPutD, TN.fGetO, TN.fGetO2, TN.fInO, TN.fNinO, TN.dVarD, TN.dExtS, TN.mOwn, TN.dCallM, TN.mVar, TN.sRetV, TN.dAug, TN.dCallNT, TN.dCallNL, TN.fIxTs, TN.sForI, TN.dCompI, TN.dCompL, TN.dCompT, TN.dCompR, TN.iL, TN.iT, TN.iR1, TN.iR2, TN.iR3, TN.iS, TN.iE, TN.iRv, TN.iZ, TN.dKeepT, TN.dCallT, TN.pTup, TN.pCons, TN.pOwn, TN.sAsgT, TN.sRetT, TN.tpL, TN.fIxT, TN.fTp, TN.dAppendT, TN.dReverseT, TN.dClearT, TN.dVarT, TN.dReverse, TN.dClear, TN.dPop, Pt.d, Sl.tp.injEq, TN.startF, TN.dCallV, Sl.fn.injEq, TN.dCallF, TN.dLRev, TN.dLAdd, TN.dLSlP, TN.dLSlice, TN.dSliceE, TN.dNo, TN.dEnd, TN.fNo, TN.sSeq, TN.sNext, TN.sDrop, TN.sRet, TN.sRetL, TN.sRetN, TN.sIf, TN.sAsg, TN.sAsgL, TN.sStore, TN.sForL, TN.sForT, TN.sForR, TN.sForR2, TN.tgN, TN.tgTup, TN.tgCons, TN.tgNil, TN.dP, TN.dB, TN.dCall, TN.dCallL, TN.dCallB, TN.dCallBL, TN.dCons, TN.dNil, TN.dTup, TN.dLst, TN.dKeep, TN.dVar, TN.fVar, TN.fPeek, TN.fC, TN.f2, TN.d2, TN.d2V, TN.f1, TN.d1, TN.fCB, TN.dCB, TN.dCBL, TN.fNil, TN.fCons, TN.asBool, TN.dTest, TN.bAnd, TN.bOr, TN.bNot, TN.dAnd, TN.dOr, TN.dNot, TN.fAndV, TN.fOrV, TN.fNotV, TN.dAndV, TN.dOrV, TN.dNotV, TN.dIfE, TN.dIfL, TN.fIfE, TN.fChain, TN.fSlice, TN.dSlice, TN.fNo, TN.fEnd, TN.dAppend, TN.dInsert, TN.dPopAt, TN.ownL, TN.start0, TN.begB, TN.backD, TN.wipeD, TN.dYes, TN.sNever, List.getElem?_cons_zero, List.getElem?_cons_succ, List.set_cons_zero, List.set_cons_succ, List.map_cons, List.map_nil, List.length_cons, List.length_nil, List.cons_append, List.nil_append, List.replicate_succ, List.replicate_zero, Option.map_some, Option.map_none, Nat.add_one_sub_one, Nat.sub_zero, Nat.sub_self, Nat.zero_add, reduceCtorEq, Option.some.injEq, PyData.int.injEq, PyData.str.injEq, PyData.bool.injEq, PyData.list.injEq, PyData.tuple.injEq, Sl.sh.injEq, Sl.ow.injEq, List.cons.injEq, exists_eq_left', exists_eq_left, true_implies, false_implies, and_true, true_and, forall_const, Option.isSome_some, TN.imp_ff, TN.imp_tf, TN.imp_tt, exists_eq_left, exists_eq_left', exists_eq])
  exact ⟨_, rfl, q⟩

abbrev s_rounds : Stmt := topS 31
theorem sc_rounds : FnScope ["pair", "events", "many", "_", "told_turn", "heard_turn", "first", "length"] ["pair", "events", "many"] (defScope s_rounds) := ⟨rfl, rfl, rfl, by decide +kernel, rfl, by decide +kernel, by decide +kernel⟩
theorem ok_rounds (b : Blt mg) (h_need_pair : Has P w K mg base "need_pair" 5 ["pair"] (sp0 K semNeedPair)) (h_need_events : Has P w K mg base "need_events" 4 ["pair", "events"] (sp0 K semNeedEvents)) (h_has_name : Has P w K mg base "has_name" 1 ["events"] (sp0 K semHasName)) (h_turns_of : Has P w K mg base "turns_of" 4 ["pair", "events"] (sp0 K semTurnsOf)) (h_turned : Has P w K mg base "turned" 3 ["row", "turn", "many"] (sp0 K semTurnedN)) {f : Addr} {fd : FuncData} (F : Fun K "rounds" "rounds" s_rounds f fd) : FnG P w K mg base CX0 6 f fd ["pair", "events", "many"] (sp0 K semRoundsN) := by
  refine fn0 (k := 5) F sc_rounds (fun ds Q h => by obtain ⟨t, x, es, m, rfl, _⟩ := h; rfl) (fun cdv A outer s H E hg hr =>
    have nd := sc_rounds.nd
    have hu := hr.units
    have hu1 := hu_of hr
    (pss_cons (ps_expr (by exact (pe_has (h_need_pair.up (by decide)) hg hr (by rfl) (pa_cons (pv 0) pa_nil))))
 (pss_cons (ps_expr (by exact (pe_has (h_need_events.up (by decide)) hg hr (by rfl) (pa_cons (pv 0) (pa_cons (pv 1) pa_nil)))))
 (pss_cons (ps_if (PW.pt (pw_or (pt_cmpR op_notTyB (pe_callTy call_typeF (by rfl) b.type (by decide +kernel) (pa_cons (pv 2) pa_nil)) (pe_bltn (v := .ty "int") (by rfl) b.int (by decide +kernel) rfl) (nomark _)) (pw_or1 (pt_cmpR op_ltU (pv 2) pe_int (nomark _))))) (pss_one ps_never) pss_nil)
 (pss_cons (ps_if (pt_not (pt_val (pe_has (h_has_name.up (by decide)) hg hr (by rfl) (pa_cons (pv 1) pa_nil)))) (pss_cons (ps_asg (pe_has (h_turns_of.up (by decide)) hg hr (by rfl) (pa_cons (pv 0) (pa_cons (pv 1) pa_nil))) (pg_tup (n := 2) rfl (pgs_cons (pg_name (i := 4) nd rfl (by first | exact Or.inl rfl | exact Or.inr rfl)) (pgs_cons (pg_name (i := 5) nd rfl (by first | exact Or.inl rfl | exact Or.inr rfl)) pgs_nil))))
 (pss_one (ps_ret (pe_tupX (pa_cons (pe_has (h_turned.up (by decide)) hg hr (by rfl) (pa_cons (pe_ix ix_seq (pv 0) pe_int (fun _ _ => rfl)) (pa_cons (pv 4) (pa_cons (pv 2) pa_nil)))) (pa_cons (pe_has (h_turned.up (by decide)) hg hr (by rfl) (pa_cons (pe_ix ix_seq (pv 0) pe_int (fun _ _ => rfl)) (pa_cons (pv 5) (pa_cons (pv 2) pa_nil)))) pa_nil)))))) pss_nil)
 (pss_cons ps_never
 (pss_cons ps_never
 (pss_one ps_never))))))))
    (ls_seq (ls_drop (le_call (les_cons (LP.e (lp_var (i := 0))) les_nil)))
 (ls_seq (ls_drop (le_call (les_cons (LP.e (lp_var (i := 0))) (les_cons (LP.e (lp_var (i := 1))) les_nil))))
 (ls_seq (ls_if (LB.g (lb_or (lb_test (LP.m (lp_typeNot (LP.m (lp_var (i := 2)))))) (lb_test (LP.m (lp_op (LP.m (lp_var (i := 2))) (LP.m lp_int) rb_U))))) ls_never ls_next)
 (ls_seq (ls_if (lt_not (lt_B (le_call (les_cons (LP.e (lp_var (i := 1))) les_nil)))) (ls_seq (ls_asg (le_call (les_cons (LP.e (lp_var (i := 0))) (les_cons (LP.e (lp_var (i := 1))) les_nil))) (lg_tup (lgs_cons (lg_name (i := 4) (by decide)) (lgs_cons (lg_name (i := 5) (by decide)) lgs_nil))))
 (ls_ret (le_tup (les_cons (le_call (les_cons (LP.e (lp_op (LP.m (lp_var (i := 0))) (LP.m lp_int) rb_ix)) (les_cons (LP.e (lp_var (i := 4))) (les_cons (LP.e (lp_var (i := 2))) les_nil)))) (les_cons (le_call (les_cons (LP.e (lp_op (LP.m (lp_var (i := 0))) (LP.m lp_int) rb_ix)) (les_cons (LP.e (lp_var (i := 5))) (les_cons (LP.e (lp_var (i := 2))) les_nil)))) les_nil))))) ls_next)
 (ls_seq ls_never
 (ls_seq ls_never
 ls_never)))))) ?_
  rintro ds Q ⟨t, h, es, m, rfl, gp, ok, few, q⟩
  have tf' := gp.gt.few
  have hl := gp.pm.length_eq
  (simp only [TN.dCallO, TN.dCallOI, TN.dCallNO, TN.oVar, TN.sCut, TN.tgLst, TN.iK, TN.iV, TN.iLT, TN.pNew, TN.dCallN, TN.dCompI2, TN.dLAddE, TN.oD, TN.sDNew, TN.sPutD, TN.fGetO, TN.fGetO2, TN.fInO, TN.fNinO, TN.dVarD, TN.dExtS, TN.mOwn, TN.dCallM, TN.mVar, TN.sRetV, TN.dAug, TN.dCallNT, TN.dCallNL, TN.fIxTs, TN.sForI, TN.dCompI, TN.dCompL, TN.dCompT, TN.dCompR, TN.iL, TN.iT, TN.iR1, TN.iR2, TN.iR3, TN.iS, TN.iE, TN.iRv, TN.iZ, TN.dKeepT, TN.dCallT, TN.pTup, TN.pCons, TN.pOwn, TN.sAsgT, TN.sRetT, TN.tpL, TN.fIxT, TN.fTp, TN.dAppendT, TN.dReverseT, TN.dClearT, TN.dVarT, TN.dReverse, TN.dClear, TN.dPop, Pt.d, Sl.tp.injEq, TN.startF, TN.dCallV, Sl.fn.injEq, TN.dCallF, TN.dLRev, TN.dLAdd, TN.dLSlP, TN.dLSlice, TN.dSliceE, TN.dNo, TN.dEnd, TN.fNo, TN.sSeq, TN.sNext, TN.sDrop, TN.sRet, TN.sRetL, TN.sRetN, TN.sIf, TN.sAsg, TN.sAsgL, TN.sStore, TN.sForL, TN.sForT, TN.sForR, TN.sForR2, TN.tgN, TN.tgTup, TN.tgCons, TN.tgNil, TN.dP, TN.dB, TN.dCall, TN.dCallL, TN.dCallB, TN.dCallBL, TN.dCons, TN.dNil, TN.dTup, TN.dLst, TN.dKeep, TN.dVar, TN.fVar, TN.fPeek, TN.fC, TN.f2, TN.d2, TN.d2V, TN.f1, TN.d1, TN.fCB, TN.dCB, TN.dCBL, TN.fNil, TN.fCons, TN.asBool, TN.dTest, TN.bAnd, TN.bOr, TN.bNot, TN.dAnd, TN.dOr, TN.dNot, TN.fAndV, TN.fOrV, TN.fNotV, TN.dAndV, TN.dOrV, TN.dNotV, TN.dIfE, TN.dIfL, TN.fIfE, TN.fChain, TN.fSlice, TN.dSlice, TN.fNo, TN.fEnd, TN.dAppend, TN.dInsert, TN.dPopAt, TN.ownL, TN.start0, TN.begB, TN.backD, TN.wipeD, TN.dYes, TN.sNever, List.getElem?_cons_zero, List.getElem?_cons_succ, List.set_cons_zero, List.set_cons_succ, List.map_cons, List.map_nil, List.length_cons, List.length_nil, List.cons_append, List.nil_append, List.replicate_succ, List.replicate_zero, Option.map_some, Option.map_none, Nat.add_one_sub_one, Nat.sub_zero, Nat.sub_self, Nat.zero_add, reduceCtorEq, Option.some.injEq, PyData.int.injEq, PyData.str.injEq, PyData.bool.injEq, PyData.list.injEq, PyData.tuple.injEq, Sl.sh.injEq, Sl.ow.injEq, List.cons.injEq, exists_eq_left', exists_eq_left, true_implies, false_implies, and_true, true_and, forall_const, Option.isSome_some, TN.imp_ff, TN.imp_tf, TN.imp_tt, exists_eq_left, exists_eq_left', exists_eq])
  refine ⟨t, h, rfl, gp, _, rfl, t, h, es, rfl, gp, by omega, evs_ok ok, _, rfl, false, ?_, (fun z => by cases z), fun _ => ⟨es, rfl, few, _, rfl, _, rfl, fun _ => ?_, fun z => ?_⟩⟩
  · have tys : tyD (.int (m : Int)) = "int" := rfl
    simp only [tys, oU_int, decide_true, Bool.not_true]
    rw [decide_eq_false (show ¬ (m : Int) < 0 by omega)]
  · exact ⟨t, h, es, rfl, gp, ok, few, _, rfl, _, rfl, rfl, _, _, rfl, _, _, rfl, rfl, _, ix0, t, tnT t.length es, m, rfl, tnT_tn ok, tf', _, rfl, _, ix1, h, tnH t.length es, m, rfl, hl ▸ tnH_tn ok, by omega, _, rfl, by omega, q⟩
  · rw [noN ok] at z
    cases z

abbrev s_behind_round : Stmt := topS 33
theorem sc_behind_round : FnScope ["pair", "events"] ["pair", "events"] (defScope s_behind_round) := ⟨rfl, rfl, rfl, by decide +kernel, rfl, by decide +kernel, by decide +kernel⟩
theorem ok_behind_round (b : Blt mg) {f_to_front : Addr} (m_to_front : mg "to_front" = some (.ref f_to_front)) (h_gone__to_front : Has P w K mg base "gone" 2 ["pair", "events", "taken"] (spF K f_to_front semGoneD)) {f : Addr} {fd : FuncData} (F : Fun K "behind_round" "behind_round" s_behind_round f fd) : FnG P w K mg base CX0 3 f fd ["pair", "events"] (sp0 K semBehindD) := by
  refine fn0 (k := 2) F sc_behind_round (fun ds Q h => by obtain ⟨t, x, es, rfl, _⟩ := h; rfl) (fun cdv A outer s H E hg hr =>
    have nd := sc_behind_round.nd
    have hu := hr.units
    have hu1 := hu_of hr
    (pss_one (ps_ret (pe_ix ix_seq (pe_has (h_gone__to_front.up (by decide)) hg hr (by rfl) (pa_cons (pv 0) (pa_cons (pv 1) (pa_cons (pe_fn (by rfl) m_to_front) pa_nil)))) pe_int (fun _ _ => rfl)))))
    (ls_ret (le_op (LTp.e (ltp_callFv (lesF_cons (LP.e (lp_var (i := 0))) (lesF_cons (LP.e (lp_var (i := 1))) lesF_fn)))) (LP.e lp_int) rb_ix)) ?_
  rintro ds Q ⟨t, h, es, rfl, tf, hl, ok, few, q⟩
  (simp only [TN.dCallO, TN.dCallOI, TN.dCallNO, TN.oVar, TN.sCut, TN.tgLst, TN.iK, TN.iV, TN.iLT, TN.pNew, TN.dCallN, TN.dCompI2, TN.dLAddE, TN.oD, TN.sDNew, TN.sPutD, TN.fGetO, TN.fGetO2, TN.fInO, TN.fNinO, TN.dVarD, TN.dExtS, TN.mOwn, TN.dCallM, TN.mVar, TN.sRetV, TN.dAug, TN.dCallNT, TN.dCallNL, TN.fIxTs, TN.sForI, TN.dCompI, TN.dCompL, TN.dCompT, TN.dCompR, TN.iL, TN.iT, TN.iR1, TN.iR2, TN.iR3, TN.iS, TN.iE, TN.iRv, TN.iZ, TN.dKeepT, TN.dCallT, TN.pTup, TN.pCons, TN.pOwn, TN.sAsgT, TN.sRetT, TN.tpL, TN.fIxT, TN.fTp, TN.dAppendT, TN.dReverseT, TN.dClearT, TN.dVarT, TN.dReverse, TN.dClear, TN.dPop, Pt.d, Sl.tp.injEq, TN.startF, TN.dCallV, Sl.fn.injEq, TN.dCallF, TN.dLRev, TN.dLAdd, TN.dLSlP, TN.dLSlice, TN.dSliceE, TN.dNo, TN.dEnd, TN.fNo, TN.sSeq, TN.sNext, TN.sDrop, TN.sRet, TN.sRetL, TN.sRetN, TN.sIf, TN.sAsg, TN.sAsgL, TN.sStore, TN.sForL, TN.sForT, TN.sForR, TN.sForR2, TN.tgN, TN.tgTup, TN.tgCons, TN.tgNil, TN.dP, TN.dB, TN.dCall, TN.dCallL, TN.dCallB, TN.dCallBL, TN.dCons, TN.dNil, TN.dTup, TN.dLst, TN.dKeep, TN.dVar, TN.fVar, TN.fPeek, TN.fC, TN.f2, TN.d2, TN.d2V, TN.f1, TN.d1, TN.fCB, TN.dCB, TN.dCBL, TN.fNil, TN.fCons, TN.asBool, TN.dTest, TN.bAnd, TN.bOr, TN.bNot, TN.dAnd, TN.dOr, TN.dNot, TN.fAndV, TN.fOrV, TN.fNotV, TN.dAndV, TN.dOrV, TN.dNotV, TN.dIfE, TN.dIfL, TN.fIfE, TN.fChain, TN.fSlice, TN.dSlice, TN.fNo, TN.fEnd, TN.dAppend, TN.dInsert, TN.dPopAt, TN.ownL, TN.start0, TN.begB, TN.backD, TN.wipeD, TN.dYes, TN.sNever, List.getElem?_cons_zero, List.getElem?_cons_succ, List.set_cons_zero, List.set_cons_succ, List.map_cons, List.map_nil, List.length_cons, List.length_nil, List.cons_append, List.nil_append, List.replicate_succ, List.replicate_zero, Option.map_some, Option.map_none, Nat.add_one_sub_one, Nat.sub_zero, Nat.sub_self, Nat.zero_add, reduceCtorEq, Option.some.injEq, PyData.int.injEq, PyData.str.injEq, PyData.bool.injEq, PyData.list.injEq, PyData.tuple.injEq, Sl.sh.injEq, Sl.ow.injEq, List.cons.injEq, exists_eq_left', exists_eq_left, true_implies, false_implies, and_true, true_and, forall_const, Option.isSome_some, TN.imp_ff, TN.imp_tf, TN.imp_tt, exists_eq_left, exists_eq_left', exists_eq])
  exact ⟨t, h, es, rfl, tf, hl, ok, few, _, rfl, _, ix0, q⟩

abbrev s_turns_of : Stmt := topS 34
theorem sc_turns_of : FnScope ["pair", "events", "places"] ["pair", "events"] (defScope s_turns_of) := ⟨rfl, rfl, rfl, by decide +kernel, rfl, by decide +kernel, by decide +kernel⟩
theorem ok_turns_of (b : Blt mg) (h_behind_round : Has P w K mg base "behind_round" 3 ["pair", "events"] (sp0 K semBehindD)) {f : Addr} {fd : FuncData} (F : Fun K "turns_of" "turns_of" s_turns_of f fd) : FnG P w K mg base CX0 4 f fd ["pair", "events"] (sp0 K semTurnsOf) := by
  refine fn0 (k := 3) F sc_turns_of (fun ds Q h => by obtain ⟨t, x, es, rfl, _⟩ := h; rfl) (fun cdv A outer s H E hg hr =>
    have nd := sc_turns_of.nd
    have hu := hr.units
    have hu1 := hu_of hr
    (pss_cons (ps_set (i := 2) nd rfl (by first | exact Or.inl rfl | exact Or.inr rfl) (pe_rgTup rfl (by rfl) b.tuple (prg_1 (by rfl) b.range (pe_callB call_len (by rfl) b.len (by decide +kernel) (pa_cons (pe_ix ix_seq (pv 0) pe_int (fun _ _ => rfl)) pa_nil)))))
 (pss_one (ps_ret (pe_has (h_behind_round.up (by decide)) hg hr (by rfl) (pa_cons (pe_tupX (pa_cons (pv 2) (pa_cons (pv 2) pa_nil))) (pa_cons (pv 1) pa_nil)))))))
    (ls_seq (ls_asg (le_rgTup (LP.e (lp_cb (lms_cons (LP.m (lp_op (LP.m (lp_var (i := 0))) (LP.m lp_int) rb_ix)) lms_nil) rc_len))) (lg_name (i := 2) (by decide)))
 (ls_ret (le_call (les_cons (le_tup (les_cons (LP.e (lp_var (i := 2))) (les_cons (LP.e (lp_var (i := 2))) les_nil))) (les_cons (LP.e (lp_var (i := 1))) les_nil))))) ?_
  rintro ds Q ⟨t, h, es, rfl, gp, ok, few, q⟩
  have tf := gp.gt.few
  have hl := gp.pm.length_eq
  unfold dRgTup
  (simp only [TN.dCallO, TN.dCallOI, TN.dCallNO, TN.oVar, TN.sCut, TN.tgLst, TN.iK, TN.iV, TN.iLT, TN.pNew, TN.dCallN, TN.dCompI2, TN.dLAddE, TN.oD, TN.sDNew, TN.sPutD, TN.fGetO, TN.fGetO2, TN.fInO, TN.fNinO, TN.dVarD, TN.dExtS, TN.mOwn, TN.dCallM, TN.mVar, TN.sRetV, TN.dAug, TN.dCallNT, TN.dCallNL, TN.fIxTs, TN.sForI, TN.dCompI, TN.dCompL, TN.dCompT, TN.dCompR, TN.iL, TN.iT, TN.iR1, TN.iR2, TN.iR3, TN.iS, TN.iE, TN.iRv, TN.iZ, TN.dKeepT, TN.dCallT, TN.pTup, TN.pCons, TN.pOwn, TN.sAsgT, TN.sRetT, TN.tpL, TN.fIxT, TN.fTp, TN.dAppendT, TN.dReverseT, TN.dClearT, TN.dVarT, TN.dReverse, TN.dClear, TN.dPop, Pt.d, Sl.tp.injEq, TN.startF, TN.dCallV, Sl.fn.injEq, TN.dCallF, TN.dLRev, TN.dLAdd, TN.dLSlP, TN.dLSlice, TN.dSliceE, TN.dNo, TN.dEnd, TN.fNo, TN.sSeq, TN.sNext, TN.sDrop, TN.sRet, TN.sRetL, TN.sRetN, TN.sIf, TN.sAsg, TN.sAsgL, TN.sStore, TN.sForL, TN.sForT, TN.sForR, TN.sForR2, TN.tgN, TN.tgTup, TN.tgCons, TN.tgNil, TN.dP, TN.dB, TN.dCall, TN.dCallL, TN.dCallB, TN.dCallBL, TN.dCons, TN.dNil, TN.dTup, TN.dLst, TN.dKeep, TN.dVar, TN.fVar, TN.fPeek, TN.fC, TN.f2, TN.d2, TN.d2V, TN.f1, TN.d1, TN.fCB, TN.dCB, TN.dCBL, TN.fNil, TN.fCons, TN.asBool, TN.dTest, TN.bAnd, TN.bOr, TN.bNot, TN.dAnd, TN.dOr, TN.dNot, TN.fAndV, TN.fOrV, TN.fNotV, TN.dAndV, TN.dOrV, TN.dNotV, TN.dIfE, TN.dIfL, TN.fIfE, TN.fChain, TN.fSlice, TN.dSlice, TN.fNo, TN.fEnd, TN.dAppend, TN.dInsert, TN.dPopAt, TN.ownL, TN.start0, TN.begB, TN.backD, TN.wipeD, TN.dYes, TN.sNever, List.getElem?_cons_zero, List.getElem?_cons_succ, List.set_cons_zero, List.set_cons_succ, List.map_cons, List.map_nil, List.length_cons, List.length_nil, List.cons_append, List.nil_append, List.replicate_succ, List.replicate_zero, Option.map_some, Option.map_none, Nat.add_one_sub_one, Nat.sub_zero, Nat.sub_self, Nat.zero_add, reduceCtorEq, Option.some.injEq, PyData.int.injEq, PyData.str.injEq, PyData.bool.injEq, PyData.list.injEq, PyData.tuple.injEq, Sl.sh.injEq, Sl.ow.injEq, List.cons.injEq, exists_eq_left', exists_eq_left, true_implies, false_implies, and_true, true_and, forall_const, Option.isSome_some, TN.imp_ff, TN.imp_tf, TN.imp_tt, exists_eq_left, exists_eq_left', exists_eq])
  have i0 : oIx (pairS t h) (.int 0) = some (tupL t) := ix0
  simp only [i0, oLen_tupL]
  refine ⟨_, rfl, t.length, rfl, by omega, ?_⟩
  have ll : (intsD (List.range t.length)).length = t.length := by rw [List.length_map, List.length_range]
  refine ⟨by omega, intsD (List.range t.length), intsD (List.range t.length), es, rfl, by omega, rfl, by rw [ll]; exact ok, few, _, rfl, ?_⟩
  unfold intsD
  rw [ledT_map, ledH_map]
  exact q

abbrev s_turned : Stmt := topS 35
theorem sc_turned : FnScope ["row", "turn", "many", "place"] ["row", "turn", "many"] (defScope s_turned) := ⟨rfl, rfl, rfl, by decide +kernel, rfl, by decide +kernel, by decide +kernel⟩
theorem ok_turned (b : Blt mg) (h_standing_after : Has P w K mg base "standing_after" 1 ["letters", "many"] (sp0 K semStanding)) (h_letters_at : Has P w K mg base "letters_at" 2 ["row", "turn", "place"] (sp0 K semLettersAt)) {f : Addr} {fd : FuncData} (F : Fun K "turned" "turned" s_turned f fd) : FnG P w K mg base CX0 3 f fd ["row", "turn", "many"] (sp0 K semTurnedN) := by
  refine fn0 (k := 2) F sc_turned (fun ds Q h => by obtain ⟨r, a, m, rfl, _⟩ := h; rfl) (fun cdv A outer s H E hg hr =>
    have nd := sc_turned.nd
    have hu := hr.units
    have hu1 := hu_of hr
    (pss_one (ps_ret (pe_callTy call_tupleX (by rfl) b.tuple (by decide +kernel) (pa_cons (pe_lc (own := [("place", 3)]) (g := gName 3) (tt := tYes) rfl nd (pi_range1 (by rfl) b.range (pa_cons (pe_callB call_len (by rfl) b.len (by decide +kernel) (pa_cons (pv 0) pa_nil)) pa_nil)) (blkOk_by (own := [("place", 3)]) (N := ["row", "turn", "many", "place"]) (sc := defScope s_turned) (by decide +kernel)) (fun _ _ _ _ _ => pg_name (i := 3) nd rfl (by first | exact Or.inl rfl | exact Or.inr rfl)) (fun _ _ _ _ _ => by exact pts_nil) (fun _ _ _ _ _ => by exact (pe_has (h_standing_after.up (by decide)) hg hr (by rfl) (pa_cons (pe_has (h_letters_at.up (by decide)) hg hr (by rfl) (pa_cons (pv 0) (pa_cons (pv 1) (pa_cons (pv 3) pa_nil)))) (pa_cons (pv 2) pa_nil))))) pa_nil)))))
    (ls_ret (le_cb (les_cons (LL.e (ll_compR (j := 3) (vs := [3]) (by decide) (by decide) (les_cons (LP.e (lp_cb (lms_cons (LP.m (lp_var (i := 0))) lms_nil) rc_len)) les_nil) lt_yes (le_call (les_cons (le_call (les_cons (LP.e (lp_var (i := 0))) (les_cons (LP.e (lp_var (i := 1))) (les_cons (LP.e (lp_var (i := 3))) les_nil)))) (les_cons (LP.e (lp_var (i := 2))) les_nil))))) les_nil) rc_tuple)) ?_
  rintro ds Q ⟨r, a, m, rfl, T, rf, q⟩
  (simp only [TN.dCallO, TN.dCallOI, TN.dCallNO, TN.oVar, TN.sCut, TN.tgLst, TN.iK, TN.iV, TN.iLT, TN.pNew, TN.dCallN, TN.dCompI2, TN.dLAddE, TN.oD, TN.sDNew, TN.sPutD, TN.fGetO, TN.fGetO2, TN.fInO, TN.fNinO, TN.dVarD, TN.dExtS, TN.mOwn, TN.dCallM, TN.mVar, TN.sRetV, TN.dAug, TN.dCallNT, TN.dCallNL, TN.fIxTs, TN.sForI, TN.dCompI, TN.dCompL, TN.dCompT, TN.dCompR, TN.iL, TN.iT, TN.iR1, TN.iR2, TN.iR3, TN.iS, TN.iE, TN.iRv, TN.iZ, TN.dKeepT, TN.dCallT, TN.pTup, TN.pCons, TN.pOwn, TN.sAsgT, TN.sRetT, TN.tpL, TN.fIxT, TN.fTp, TN.dAppendT, TN.dReverseT, TN.dClearT, TN.dVarT, TN.dReverse, TN.dClear, TN.dPop, Pt.d, Sl.tp.injEq, TN.startF, TN.dCallV, Sl.fn.injEq, TN.dCallF, TN.dLRev, TN.dLAdd, TN.dLSlP, TN.dLSlice, TN.dSliceE, TN.dNo, TN.dEnd, TN.fNo, TN.sSeq, TN.sNext, TN.sDrop, TN.sRet, TN.sRetL, TN.sRetN, TN.sIf, TN.sAsg, TN.sAsgL, TN.sStore, TN.sForL, TN.sForT, TN.sForR, TN.sForR2, TN.tgN, TN.tgTup, TN.tgCons, TN.tgNil, TN.dP, TN.dB, TN.dCall, TN.dCallL, TN.dCallB, TN.dCallBL, TN.dCons, TN.dNil, TN.dTup, TN.dLst, TN.dKeep, TN.dVar, TN.fVar, TN.fPeek, TN.fC, TN.f2, TN.d2, TN.d2V, TN.f1, TN.d1, TN.fCB, TN.dCB, TN.dCBL, TN.fNil, TN.fCons, TN.asBool, TN.dTest, TN.bAnd, TN.bOr, TN.bNot, TN.dAnd, TN.dOr, TN.dNot, TN.fAndV, TN.fOrV, TN.fNotV, TN.dAndV, TN.dOrV, TN.dNotV, TN.dIfE, TN.dIfL, TN.fIfE, TN.fChain, TN.fSlice, TN.dSlice, TN.fNo, TN.fEnd, TN.dAppend, TN.dInsert, TN.dPopAt, TN.ownL, TN.start0, TN.begB, TN.backD, TN.wipeD, TN.dYes, TN.sNever, List.getElem?_cons_zero, List.getElem?_cons_succ, List.set_cons_zero, List.set_cons_succ, List.map_cons, List.map_nil, List.length_cons, List.length_nil, List.cons_append, List.nil_append, List.replicate_succ, List.replicate_zero, Option.map_some, Option.map_none, Nat.add_one_sub_one, Nat.sub_zero, Nat.sub_self, Nat.zero_add, reduceCtorEq, Option.some.injEq, PyData.int.injEq, PyData.str.injEq, PyData.bool.injEq, PyData.list.injEq, PyData.tuple.injEq, Sl.sh.injEq, Sl.ow.injEq, List.cons.injEq, exists_eq_left', exists_eq_left, true_implies, false_implies, and_true, true_and, forall_const, Option.isSome_some, TN.imp_ff, TN.imp_tf, TN.imp_tt, exists_eq_left, exists_eq_left', exists_eq])
  refine ⟨_, oLen_tupL, _, rfl, by omega, by omega, ?_⟩
  rw [rangeD_nat]
  refine comp_map (fun (k : Nat) => PyData.int k) (fun x => .str (r.getD (itF (tf a) m x) "")) (fun k => k < r.length) rfl (fun _ => rfl) ?_ _ [] (fun k hk => List.mem_range.mp hk) (by rw [List.length_range]; simp; omega) ?_
  · intro x R hx kk
    obtain ⟨L, Ln, P⟩ := T.per hx
    have Lp := P.pos
    (simp only [TN.dCallO, TN.dCallOI, TN.dCallNO, TN.oVar, TN.sCut, TN.tgLst, TN.iK, TN.iV, TN.iLT, TN.pNew, TN.dCallN, TN.dCompI2, TN.dLAddE, TN.oD, TN.sDNew, TN.sPutD, TN.fGetO, TN.fGetO2, TN.fInO, TN.fNinO, TN.dVarD, TN.dExtS, TN.mOwn, TN.dCallM, TN.mVar, TN.sRetV, TN.dAug, TN.dCallNT, TN.dCallNL, TN.fIxTs, TN.sForI, TN.dCompI, TN.dCompL, TN.dCompT, TN.dCompR, TN.iL, TN.iT, TN.iR1, TN.iR2, TN.iR3, TN.iS, TN.iE, TN.iRv, TN.iZ, TN.dKeepT, TN.dCallT, TN.pTup, TN.pCons, TN.pOwn, TN.sAsgT, TN.sRetT, TN.tpL, TN.fIxT, TN.fTp, TN.dAppendT, TN.dReverseT, TN.dClearT, TN.dVarT, TN.dReverse, TN.dClear, TN.dPop, Pt.d, Sl.tp.injEq, TN.startF, TN.dCallV, Sl.fn.injEq, TN.dCallF, TN.dLRev, TN.dLAdd, TN.dLSlP, TN.dLSlice, TN.dSliceE, TN.dNo, TN.dEnd, TN.fNo, TN.sSeq, TN.sNext, TN.sDrop, TN.sRet, TN.sRetL, TN.sRetN, TN.sIf, TN.sAsg, TN.sAsgL, TN.sStore, TN.sForL, TN.sForT, TN.sForR, TN.sForR2, TN.tgN, TN.tgTup, TN.tgCons, TN.tgNil, TN.dP, TN.dB, TN.dCall, TN.dCallL, TN.dCallB, TN.dCallBL, TN.dCons, TN.dNil, TN.dTup, TN.dLst, TN.dKeep, TN.dVar, TN.fVar, TN.fPeek, TN.fC, TN.f2, TN.d2, TN.d2V, TN.f1, TN.d1, TN.fCB, TN.dCB, TN.dCBL, TN.fNil, TN.fCons, TN.asBool, TN.dTest, TN.bAnd, TN.bOr, TN.bNot, TN.dAnd, TN.dOr, TN.dNot, TN.fAndV, TN.fOrV, TN.fNotV, TN.dAndV, TN.dOrV, TN.dNotV, TN.dIfE, TN.dIfL, TN.fIfE, TN.fChain, TN.fSlice, TN.dSlice, TN.fNo, TN.fEnd, TN.dAppend, TN.dInsert, TN.dPopAt, TN.ownL, TN.start0, TN.begB, TN.backD, TN.wipeD, TN.dYes, TN.sNever, List.getElem?_cons_zero, List.getElem?_cons_succ, List.set_cons_zero, List.set_cons_succ, List.map_cons, List.map_nil, List.length_cons, List.length_nil, List.cons_append, List.nil_append, List.replicate_succ, List.replicate_zero, Option.map_some, Option.map_none, Nat.add_one_sub_one, Nat.sub_zero, Nat.sub_self, Nat.zero_add, reduceCtorEq, Option.some.injEq, PyData.int.injEq, PyData.str.injEq, PyData.bool.injEq, PyData.list.injEq, PyData.tuple.injEq, Sl.sh.injEq, Sl.ow.injEq, List.cons.injEq, exists_eq_left', exists_eq_left, true_implies, false_implies, and_true, true_and, forall_const, Option.isSome_some, TN.imp_ff, TN.imp_tf, TN.imp_tt, exists_eq_left, exists_eq_left', exists_eq])
    refine ⟨r, a, x, L, rfl, T, rf, hx, Ln, P, _, rfl, _, m, rfl, by rw [List.length_map, orb_len]; exact Lp, by rw [List.length_map, orb_len]; omega, _, rfl, ?_⟩
    rw [List.length_map, orb_len]
    have lt := Nat.mod_lt m Lp
    have e : ((orb (tf a) L x).map fun k => r.getD k "").getD (m % L) "" = r.getD (itF (tf a) m x) "" := by
      rw [getD_of (by rw [List.length_map, orb_len]; exact lt), List.getElem_map]
      unfold orb
      rw [List.getElem_map, List.getElem_range, itF_mod P.back]
    rw [e]
    exact kk
  rw [List.nil_append]
  have e : (List.range r.length).map (fun x => PyData.str (r.getD (itF (tf a) m x) "")) = (farS r a m).map PyData.str := by unfold farS; rw [List.map_map]; rfl
  rw [e]
  exact ⟨_, rfl, q⟩

abbrev s_letters_at : Stmt := topS 36
theorem sc_letters_at : FnScope ["row", "turn", "place", "source"] ["row", "turn", "place"] (defScope s_letters_at) := ⟨rfl, rfl, rfl, by decide +kernel, rfl, by decide +kernel, by decide +kernel⟩
theorem ok_letters_at (b : Blt mg) (h_ring_from : Has P w K mg base "ring_from" 1 ["behind", "first"] (sp0 K semRingI)) {f : Addr} {fd : FuncData} (F : Fun K "letters_at" "letters_at" s_letters_at f fd) : FnG P w K mg base CX0 2 f fd ["row", "turn", "place"] (sp0 K semLettersAt) := by
  refine fn0 (k := 1) F sc_letters_at (fun ds Q h => by obtain ⟨r, a, x, L, rfl, _⟩ := h; rfl) (fun cdv A outer s H E hg hr =>
    have nd := sc_letters_at.nd
    have hu := hr.units
    have hu1 := hu_of hr
    (pss_one (ps_ret (pe_lc (own := [("source", 3)]) (g := gName 3) (tt := tYes) rfl nd (pi_tup (pe_has (h_ring_from.up (by decide)) hg hr (by rfl) (pa_cons (pv 1) (pa_cons (pv 2) pa_nil)))) (blkOk_by (own := [("source", 3)]) (N := ["row", "turn", "place", "source"]) (sc := defScope s_letters_at) (by decide +kernel)) (fun _ _ _ _ _ => pg_name (i := 3) nd rfl (by first | exact Or.inl rfl | exact Or.inr rfl)) (fun _ _ _ _ _ => by exact pts_nil) (fun _ _ _ _ _ => by exact (pe_ix ix_seq (pv 0) (pv 3) (fun _ _ => rfl)))))))
    (ls_ret (LL.e (ll_compT (j := 3) (vs := [3]) (by decide) (by decide) (le_call (les_cons (LP.e (lp_var (i := 1))) (les_cons (LP.e (lp_var (i := 2))) les_nil))) lt_yes (LP.e (lp_op (LP.m (lp_var (i := 0))) (LP.m (lp_var (i := 3))) rb_ix))))) ?_
  rintro ds Q ⟨r, a, x, L, rfl, T, rf, xn, Ln, P, q⟩
  (simp only [TN.dCallO, TN.dCallOI, TN.dCallNO, TN.oVar, TN.sCut, TN.tgLst, TN.iK, TN.iV, TN.iLT, TN.pNew, TN.dCallN, TN.dCompI2, TN.dLAddE, TN.oD, TN.sDNew, TN.sPutD, TN.fGetO, TN.fGetO2, TN.fInO, TN.fNinO, TN.dVarD, TN.dExtS, TN.mOwn, TN.dCallM, TN.mVar, TN.sRetV, TN.dAug, TN.dCallNT, TN.dCallNL, TN.fIxTs, TN.sForI, TN.dCompI, TN.dCompL, TN.dCompT, TN.dCompR, TN.iL, TN.iT, TN.iR1, TN.iR2, TN.iR3, TN.iS, TN.iE, TN.iRv, TN.iZ, TN.dKeepT, TN.dCallT, TN.pTup, TN.pCons, TN.pOwn, TN.sAsgT, TN.sRetT, TN.tpL, TN.fIxT, TN.fTp, TN.dAppendT, TN.dReverseT, TN.dClearT, TN.dVarT, TN.dReverse, TN.dClear, TN.dPop, Pt.d, Sl.tp.injEq, TN.startF, TN.dCallV, Sl.fn.injEq, TN.dCallF, TN.dLRev, TN.dLAdd, TN.dLSlP, TN.dLSlice, TN.dSliceE, TN.dNo, TN.dEnd, TN.fNo, TN.sSeq, TN.sNext, TN.sDrop, TN.sRet, TN.sRetL, TN.sRetN, TN.sIf, TN.sAsg, TN.sAsgL, TN.sStore, TN.sForL, TN.sForT, TN.sForR, TN.sForR2, TN.tgN, TN.tgTup, TN.tgCons, TN.tgNil, TN.dP, TN.dB, TN.dCall, TN.dCallL, TN.dCallB, TN.dCallBL, TN.dCons, TN.dNil, TN.dTup, TN.dLst, TN.dKeep, TN.dVar, TN.fVar, TN.fPeek, TN.fC, TN.f2, TN.d2, TN.d2V, TN.f1, TN.d1, TN.fCB, TN.dCB, TN.dCBL, TN.fNil, TN.fCons, TN.asBool, TN.dTest, TN.bAnd, TN.bOr, TN.bNot, TN.dAnd, TN.dOr, TN.dNot, TN.fAndV, TN.fOrV, TN.fNotV, TN.dAndV, TN.dOrV, TN.dNotV, TN.dIfE, TN.dIfL, TN.fIfE, TN.fChain, TN.fSlice, TN.dSlice, TN.fNo, TN.fEnd, TN.dAppend, TN.dInsert, TN.dPopAt, TN.ownL, TN.start0, TN.begB, TN.backD, TN.wipeD, TN.dYes, TN.sNever, List.getElem?_cons_zero, List.getElem?_cons_succ, List.set_cons_zero, List.set_cons_succ, List.map_cons, List.map_nil, List.length_cons, List.length_nil, List.cons_append, List.nil_append, List.replicate_succ, List.replicate_zero, Option.map_some, Option.map_none, Nat.add_one_sub_one, Nat.sub_zero, Nat.sub_self, Nat.zero_add, reduceCtorEq, Option.some.injEq, PyData.int.injEq, PyData.str.injEq, PyData.bool.injEq, PyData.list.injEq, PyData.tuple.injEq, Sl.sh.injEq, Sl.ow.injEq, List.cons.injEq, exists_eq_left', exists_eq_left, true_implies, false_implies, and_true, true_and, forall_const, Option.isSome_some, TN.imp_ff, TN.imp_tf, TN.imp_tt, exists_eq_left, exists_eq_left', exists_eq])
  refine ⟨a, x, r.length, L, rfl, T, rf, xn, Ln, P, _, rfl, _, rfl, ?_⟩
  refine comp_map (fun (k : Nat) => PyData.int k) (fun k => .str (r.getD k "")) (fun k => k < r.length) rfl (fun _ => rfl) ?_ _ [] ?_ (by rw [orb_len]; simp; omega) ?_
  · intro k R hk kk
    (simp only [TN.dCallO, TN.dCallOI, TN.dCallNO, TN.oVar, TN.sCut, TN.tgLst, TN.iK, TN.iV, TN.iLT, TN.pNew, TN.dCallN, TN.dCompI2, TN.dLAddE, TN.oD, TN.sDNew, TN.sPutD, TN.fGetO, TN.fGetO2, TN.fInO, TN.fNinO, TN.dVarD, TN.dExtS, TN.mOwn, TN.dCallM, TN.mVar, TN.sRetV, TN.dAug, TN.dCallNT, TN.dCallNL, TN.fIxTs, TN.sForI, TN.dCompI, TN.dCompL, TN.dCompT, TN.dCompR, TN.iL, TN.iT, TN.iR1, TN.iR2, TN.iR3, TN.iS, TN.iE, TN.iRv, TN.iZ, TN.dKeepT, TN.dCallT, TN.pTup, TN.pCons, TN.pOwn, TN.sAsgT, TN.sRetT, TN.tpL, TN.fIxT, TN.fTp, TN.dAppendT, TN.dReverseT, TN.dClearT, TN.dVarT, TN.dReverse, TN.dClear, TN.dPop, Pt.d, Sl.tp.injEq, TN.startF, TN.dCallV, Sl.fn.injEq, TN.dCallF, TN.dLRev, TN.dLAdd, TN.dLSlP, TN.dLSlice, TN.dSliceE, TN.dNo, TN.dEnd, TN.fNo, TN.sSeq, TN.sNext, TN.sDrop, TN.sRet, TN.sRetL, TN.sRetN, TN.sIf, TN.sAsg, TN.sAsgL, TN.sStore, TN.sForL, TN.sForT, TN.sForR, TN.sForR2, TN.tgN, TN.tgTup, TN.tgCons, TN.tgNil, TN.dP, TN.dB, TN.dCall, TN.dCallL, TN.dCallB, TN.dCallBL, TN.dCons, TN.dNil, TN.dTup, TN.dLst, TN.dKeep, TN.dVar, TN.fVar, TN.fPeek, TN.fC, TN.f2, TN.d2, TN.d2V, TN.f1, TN.d1, TN.fCB, TN.dCB, TN.dCBL, TN.fNil, TN.fCons, TN.asBool, TN.dTest, TN.bAnd, TN.bOr, TN.bNot, TN.dAnd, TN.dOr, TN.dNot, TN.fAndV, TN.fOrV, TN.fNotV, TN.dAndV, TN.dOrV, TN.dNotV, TN.dIfE, TN.dIfL, TN.fIfE, TN.fChain, TN.fSlice, TN.dSlice, TN.fNo, TN.fEnd, TN.dAppend, TN.dInsert, TN.dPopAt, TN.ownL, TN.start0, TN.begB, TN.backD, TN.wipeD, TN.dYes, TN.sNever, List.getElem?_cons_zero, List.getElem?_cons_succ, List.set_cons_zero, List.set_cons_succ, List.map_cons, List.map_nil, List.length_cons, List.length_nil, List.cons_append, List.nil_append, List.replicate_succ, List.replicate_zero, Option.map_some, Option.map_none, Nat.add_one_sub_one, Nat.sub_zero, Nat.sub_self, Nat.zero_add, reduceCtorEq, Option.some.injEq, PyData.int.injEq, PyData.str.injEq, PyData.bool.injEq, PyData.list.injEq, PyData.tuple.injEq, Sl.sh.injEq, Sl.ow.injEq, List.cons.injEq, exists_eq_left', exists_eq_left, true_implies, false_implies, and_true, true_and, forall_const, Option.isSome_some, TN.imp_ff, TN.imp_tf, TN.imp_tt, exists_eq_left, exists_eq_left', exists_eq])
    exact ⟨_, oIx_tupL hk, kk⟩
  · intro k hk
    obtain ⟨j, _, rfl⟩ := List.mem_map.mp hk
    exact T.it xn j
  rw [List.nil_append]
  have e : (orb (tf a) L x).map (fun k => PyData.str (r.getD k "")) = ((orb (tf a) L x).map fun k => r.getD k "").map PyData.str := by rw [List.map_map]; rfl
  rw [e]
  exact q

abbrev s_standing_after : Stmt := topS 37
theorem sc_standing_after : FnScope ["letters", "many"] ["letters", "many"] (defScope s_standing_after) := ⟨rfl, rfl, rfl, by decide +kernel, rfl, by decide +kernel, by decide +kernel⟩
theorem ok_standing_after (b : Blt mg) {f : Addr} {fd : FuncData} (F : Fun K "standing_after" "standing_after" s_standing_after f fd) : FnG P w K mg base CX0 1 f fd ["letters", "many"] (sp0 K semStanding) := by
  refine fn0 (k := 0) F sc_standing_after (fun ds Q h => by obtain ⟨l, m, rfl, _⟩ := h; rfl) (fun cdv A outer s H E hg hr =>
    have nd := sc_standing_after.nd
    have hu := hr.units
    have hu1 := hu_of hr
    (pss_one (ps_ret (pe_ix ix_seq (pv 0) (pe_op op_mod (pv 1) (pe_callB call_len (by rfl) b.len (by decide +kernel) (pa_cons (pv 0) pa_nil))) (fun _ _ => rfl)))))
    (ls_ret (LP.e (lp_op (LP.m (lp_var (i := 0))) (LP.m (lp_op (LP.m (lp_var (i := 1))) (LP.m (lp_cb (lms_cons (LP.m (lp_var (i := 0))) lms_nil) rc_len)) rb_mod)) rb_ix))) ?_
  rintro ds Q ⟨l, m, rfl, l0, lf, q⟩
  have om : oMod (.int (m : Int)) (.int (l.length : Int)) = some (.int ((m % l.length : Nat) : Int)) := by
    rw [oMod_p (by omega), Int.natCast_emod]
  (simp only [TN.dCallO, TN.dCallOI, TN.dCallNO, TN.oVar, TN.sCut, TN.tgLst, TN.iK, TN.iV, TN.iLT, TN.pNew, TN.dCallN, TN.dCompI2, TN.dLAddE, TN.oD, TN.sDNew, TN.sPutD, TN.fGetO, TN.fGetO2, TN.fInO, TN.fNinO, TN.dVarD, TN.dExtS, TN.mOwn, TN.dCallM, TN.mVar, TN.sRetV, TN.dAug, TN.dCallNT, TN.dCallNL, TN.fIxTs, TN.sForI, TN.dCompI, TN.dCompL, TN.dCompT, TN.dCompR, TN.iL, TN.iT, TN.iR1, TN.iR2, TN.iR3, TN.iS, TN.iE, TN.iRv, TN.iZ, TN.dKeepT, TN.dCallT, TN.pTup, TN.pCons, TN.pOwn, TN.sAsgT, TN.sRetT, TN.tpL, TN.fIxT, TN.fTp, TN.dAppendT, TN.dReverseT, TN.dClearT, TN.dVarT, TN.dReverse, TN.dClear, TN.dPop, Pt.d, Sl.tp.injEq, TN.startF, TN.dCallV, Sl.fn.injEq, TN.dCallF, TN.dLRev, TN.dLAdd, TN.dLSlP, TN.dLSlice, TN.dSliceE, TN.dNo, TN.dEnd, TN.fNo, TN.sSeq, TN.sNext, TN.sDrop, TN.sRet, TN.sRetL, TN.sRetN, TN.sIf, TN.sAsg, TN.sAsgL, TN.sStore, TN.sForL, TN.sForT, TN.sForR, TN.sForR2, TN.tgN, TN.tgTup, TN.tgCons, TN.tgNil, TN.dP, TN.dB, TN.dCall, TN.dCallL, TN.dCallB, TN.dCallBL, TN.dCons, TN.dNil, TN.dTup, TN.dLst, TN.dKeep, TN.dVar, TN.fVar, TN.fPeek, TN.fC, TN.f2, TN.d2, TN.d2V, TN.f1, TN.d1, TN.fCB, TN.dCB, TN.dCBL, TN.fNil, TN.fCons, TN.asBool, TN.dTest, TN.bAnd, TN.bOr, TN.bNot, TN.dAnd, TN.dOr, TN.dNot, TN.fAndV, TN.fOrV, TN.fNotV, TN.dAndV, TN.dOrV, TN.dNotV, TN.dIfE, TN.dIfL, TN.fIfE, TN.fChain, TN.fSlice, TN.dSlice, TN.fNo, TN.fEnd, TN.dAppend, TN.dInsert, TN.dPopAt, TN.ownL, TN.start0, TN.begB, TN.backD, TN.wipeD, TN.dYes, TN.sNever, List.getElem?_cons_zero, List.getElem?_cons_succ, List.set_cons_zero, List.set_cons_succ, List.map_cons, List.map_nil, List.length_cons, List.length_nil, List.cons_append, List.nil_append, List.replicate_succ, List.replicate_zero, Option.map_some, Option.map_none, Nat.add_one_sub_one, Nat.sub_zero, Nat.sub_self, Nat.zero_add, reduceCtorEq, Option.some.injEq, PyData.int.injEq, PyData.str.injEq, PyData.bool.injEq, PyData.list.injEq, PyData.tuple.injEq, Sl.sh.injEq, Sl.ow.injEq, List.cons.injEq, exists_eq_left', exists_eq_left, true_implies, false_implies, and_true, true_and, forall_const, Option.isSome_some, TN.imp_ff, TN.imp_tf, TN.imp_tt, exists_eq_left, exists_eq_left', exists_eq])
  simp only [oLen_lstL, om]
  exact ⟨_, oIx_lstL (Nat.mod_lt _ l0), q⟩

abbrev s__law_spool : Stmt := topS 40
theorem sc__law_spool : FnScope ["script", "k", "cell"] ["script", "k"] (defScope s__law_spool) := ⟨rfl, rfl, rfl, by decide +kernel, rfl, by decide +kernel, by decide +kernel⟩
theorem ok__law_spool (b : Blt mg) {f : Addr} {fd : FuncData} (F : Fun K "_law_spool" "_law_spool" s__law_spool f fd) : FnG P w K mg base CX0 1 f fd ["script", "k"] (sp0 K semSpool) := by
  refine fn0 (k := 0) F sc__law_spool (fun ds Q h => by obtain ⟨ns, k, rfl, _⟩ := h; rfl) (fun cdv A outer s H E hg hr =>
    have nd := sc__law_spool.nd
    have hu := hr.units
    have hu1 := hu_of hr
    (pss_cons (ps_set (i := 2) nd rfl (by first | exact Or.inl rfl | exact Or.inr rfl) pe_int)
 (pss_cons (ps_if (pt_cmpR op_ltU (pv 1) (pe_callB call_len (by rfl) b.len (by decide +kernel) (pa_cons (pv 0) pa_nil)) (nomark _)) (pss_one (ps_set (i := 2) nd rfl (by first | exact Or.inl rfl | exact Or.inr rfl) (pe_ix ix_seq (pv 0) (pv 1) (fun _ _ => rfl)))) pss_nil)
 (pss_one (ps_ret (pe_lst (pa_cons (pe_callB (call_max2 rfl) (by rfl) b.max (by decide +kernel) (pa_cons pe_int (pa_cons (pe_op op_sub (pe_callB call_abs (by rfl) b.abs (by decide +kernel) (pa_cons (pv 2) pa_nil)) (pe_op op_powB pe_int pe_int)) pa_nil))) (pa_cons (pe_op op_addU (pe_op op_mod (pv 2) (pe_op op_addU (pe_op op_powB pe_int pe_int) pe_int)) (pe_op op_mul pe_int (pv 1))) (pa_cons pe_int pa_nil)))))))))
    (ls_seq (ls_asg (LP.e lp_int) (lg_name (i := 2) (by decide)))
 (ls_seq (ls_if (LB.g (lb_test (LP.m (lp_op (LP.m (lp_var (i := 1))) (LP.m (lp_cb (lms_cons (LP.m (lp_var (i := 0))) lms_nil) rc_len)) rb_U)))) (ls_asg (LP.e (lp_op (LP.m (lp_var (i := 0))) (LP.m (lp_var (i := 1))) rb_ix)) (lg_name (i := 2) (by decide))) ls_next)
 (ls_retL (ll_lst (les_cons (LP.e (lp_cb (lms_cons (LP.m lp_int) (lms_cons (LP.m (lp_op (LP.m (lp_cb (lms_cons (LP.m (lp_var (i := 2))) lms_nil) rc_abs)) (LP.m (lp_op (LP.m lp_int) (LP.m lp_int) rb_pow)) rb_sub)) lms_nil)) rc_max)) (les_cons (LP.e (lp_op (LP.m (lp_op (LP.m (lp_var (i := 2))) (LP.m (lp_op (LP.m (lp_op (LP.m lp_int) (LP.m lp_int) rb_pow)) (LP.m lp_int) rb_add)) rb_mod)) (LP.m (lp_op (LP.m lp_int) (LP.m (lp_var (i := 1))) rb_mul)) rb_add)) (les_cons (LP.e lp_int) les_nil))))))) ?_
  rintro ds Q ⟨ns, k, rfl, hk, few, q⟩
  have mx : ∀ i : Int, ∃ a : Int, oMax [.int 0, .int i] = some (.int a) ∧ 0 ≤ a := fun i => ⟨if i > 0 then i else 0, rfl, by split <;> omega⟩
  have fin : ∀ d : Int, 0 ≤ d % 10000000000000000000000000000000000043 + 15401 * (k : Int) ∧ d % 10000000000000000000000000000000000043 + 15401 * (k : Int) < 100000000000000000000000000000000000000000 := fun d => by
    have m0 := Int.emod_nonneg d (b := 10000000000000000000000000000000000043) (by decide)
    have m1 := Int.emod_lt_of_pos d (b := 10000000000000000000000000000000000043) (by decide)
    omega
  have md : ∀ d : Int, oMod (.int d) (.int (10000000000000000000000000000000000000 + 43)) = some (.int (d % 10000000000000000000000000000000000043)) := fun d => oMod_p (by decide)
  have ab : ∀ d : Int, oAbs [.int d] = some (.int (if d < 0 then -d else d)) := fun _ => rfl
  have ml : oMul (.int 15401) (.int k) = some (.int (15401 * k)) := oMul_l (by decide)
  have l1 : oLen [.list (ns.map PyData.int)] = some (.int ns.length) := by show some (PyData.int (ns.map PyData.int).length) = _; rw [List.length_map]
  (simp only [TN.sSeq, TN.sNext, TN.sDrop, TN.sRet, TN.sRetL, TN.sRetN, TN.sIf, TN.sAsg, TN.sAsgL, TN.sStore, TN.sForL, TN.sForT, TN.sForR, TN.sForR2, TN.tgN, TN.tgTup, TN.tgCons, TN.tgNil, TN.dP, TN.dB, TN.dCall, TN.dCallL, TN.dCallB, TN.dCallBL, TN.dCons, TN.dNil, TN.dTup, TN.dLst, TN.dKeep, TN.dVar, TN.fVar, TN.fPeek, TN.fC, TN.f2, TN.d2, TN.d2V, TN.f1, TN.d1, TN.fCB, TN.dCB, TN.dCBL, TN.fNil, TN.fCons, TN.asBool, TN.dTest, TN.bAnd, TN.bOr, TN.bNot, TN.dAnd, TN.dOr, TN.dNot, TN.fAndV, TN.fOrV, TN.fNotV, TN.dAndV, TN.dOrV, TN.dNotV, TN.dIfE, TN.dIfL, TN.fIfE, TN.fChain, TN.fSlice, TN.dSlice, TN.fNo, TN.fEnd, TN.dAppend, TN.dInsert, TN.dPopAt, TN.ownL, TN.start0, TN.begB, TN.backD, TN.wipeD, TN.dYes, TN.sNever, List.getElem?_cons_zero, List.getElem?_cons_succ, List.set_cons_zero, List.set_cons_succ, List.map_cons, List.map_nil, List.length_cons, List.length_nil, List.cons_append, List.nil_append, List.replicate_succ, List.replicate_zero, Option.map_some, Option.map_none, Nat.add_one_sub_one, Nat.sub_zero, Nat.sub_self, Nat.zero_add, reduceCtorEq, Option.some.injEq, PyData.int.injEq, PyData.str.injEq, PyData.bool.injEq, PyData.list.injEq, PyData.tuple.injEq, Sl.sh.injEq, Sl.ow.injEq, List.cons.injEq, exists_eq_left', exists_eq_left, true_implies, false_implies, and_true, true_and, forall_const, Option.isSome_some, TN.imp_ff, TN.imp_tf, TN.imp_tt, exists_eq_left, exists_eq_left', exists_eq])
  rw [l1]
  refine ⟨_, rfl, fun h => ?_, fun _ => ?_⟩
  · have hk2 : k < ns.length := by have := of_decide_eq_true h; omega
    refine ⟨.int ns[k], by show atI _ _ = _; rw [atI_nat (by rw [List.length_map]; exact hk2), List.getElem_map], ?_⟩
    obtain ⟨a, e1, e2⟩ := mx ((if ns[k] < 0 then -ns[k] else ns[k]) - 1000000000000000000)
    refine ⟨.int a, ?_, .int (ns[k] % 10000000000000000000000000000000000043 + 15401 * k), ?_, by omega, q _ ⟨a, _, 0, rfl, e2, (fin _).1, (fin _).2, by omega, by omega⟩⟩
    · rw [ab, pw18]; exact e1
    · rw [pw37]; simp only [oAdd_int]; rw [md, ml]; rfl
  · obtain ⟨a, e1, e2⟩ := mx ((if (0 : Int) < 0 then -0 else 0) - 1000000000000000000)
    refine ⟨.int a, ?_, .int (0 % 10000000000000000000000000000000000043 + 15401 * k), ?_, by omega, q _ ⟨a, _, 0, rfl, e2, (fin _).1, (fin _).2, by omega, by omega⟩⟩
    · rw [ab, pw18]; exact e1
    · rw [pw37]; simp only [oAdd_int]; rw [md, ml]; rfl

abbrev s__law_wind : Stmt := topS 41
theorem sc__law_wind : FnScope ["spool", "wide", "mixed", "found"] ["spool", "wide"] (defScope s__law_wind) := ⟨rfl, rfl, rfl, by decide +kernel, rfl, by decide +kernel, by decide +kernel⟩
theorem ok__law_wind (b : Blt mg) {f : Addr} {fd : FuncData} (F : Fun K "_law_wind" "_law_wind" s__law_wind f fd) : FnG P w K mg base CX0 1 f fd ["spool", "wide"] (spB K semWindW) := by
  refine fnB (k := 0) F sc__law_wind (fun xs ds Q h => by obtain ⟨n, w, _, _, rfl, _⟩ := h; rfl) (fun cdv A outer s H E hg hr =>
    have nd := sc__law_wind.nd
    have hu := hr.units
    have hu1 := hu_of hr
    (pss_cons (ps_if (pt_cmpR op_gtU (pe_ix ix_seq (pv 0) pe_int (fun _ _ => rfl)) pe_int (nomark _)) (pss_cons (ps_set (i := 3) nd rfl (by first | exact Or.inl rfl | exact Or.inr rfl) (pe_op op_mod (pe_ix ix_seq (pv 0) pe_int (fun _ _ => rfl)) (pv 1)))
 (pss_cons (ps_asg (pe_op op_fdivW (pe_ix ix_seq (pv 0) pe_int (fun _ _ => rfl)) (pv 1)) (pg_sub (pv 0) pe_int set_list))
 (pss_one (ps_ret (pv 3))))) pss_nil)
 (pss_cons (ps_asg (pe_op op_addU (pe_ix ix_seq (pv 0) pe_int (fun _ _ => rfl)) pe_int) (pg_sub (pv 0) pe_int set_list))
 (pss_cons (ps_set (i := 2) nd rfl (by first | exact Or.inl rfl | exact Or.inr rfl) (pe_op op_mod (pe_op op_powB (pe_op op_addU (pe_ix ix_seq (pv 0) pe_int (fun _ _ => rfl)) (pe_op op_mul pe_int (pe_ix ix_seq (pv 0) pe_int (fun _ _ => rfl)))) pe_int) (pe_op op_addU (pe_op op_powB pe_int pe_int) pe_int)))
 (pss_cons (ps_set (i := 2) nd rfl (by first | exact Or.inl rfl | exact Or.inr rfl) (pe_op op_mod (pe_op op_powB (pe_op op_addU (pv 2) (pe_op op_mul pe_int (pe_ix ix_seq (pv 0) pe_int (fun _ _ => rfl)))) pe_int) (pe_op op_addU (pe_op op_powB pe_int pe_int) pe_int)))
 (pss_one (ps_ret (pe_op op_mod (pe_op op_fdivW (pv 2) pe_int) (pv 1)))))))))
    (ls_seq (ls_if (LB.g (lb_test (LP.m (lp_op (LP.m (lp_op (lm_peek (i := 0)) (LP.m lp_int) rb_ix)) (LP.m lp_int) rb_U)))) (ls_seq (ls_asg (LP.e (lp_op (LP.m (lp_op (lm_peek (i := 0)) (LP.m lp_int) rb_ix)) (LP.m (lp_var (i := 1))) rb_mod)) (lg_name (i := 3) (by decide)))
 (ls_seq (ls_store (j := 0) (LP.e (lp_op (LP.m (lp_op (lm_peek (i := 0)) (LP.m lp_int) rb_ix)) (LP.m (lp_var (i := 1))) rb_divW)) (LP.e lp_int))
 (ls_ret (LP.e (lp_var (i := 3)))))) ls_next)
 (ls_seq (ls_store (j := 0) (LP.e (lp_op (LP.m (lp_op (lm_peek (i := 0)) (LP.m lp_int) rb_ix)) (LP.m lp_int) rb_add)) (LP.e lp_int))
 (ls_seq (ls_asg (LP.e (lp_op (LP.m (lp_op (LP.m (lp_op (LP.m (lp_op (lm_peek (i := 0)) (LP.m lp_int) rb_ix)) (LP.m (lp_op (LP.m lp_int) (LP.m (lp_op (lm_peek (i := 0)) (LP.m lp_int) rb_ix)) rb_mul)) rb_add)) (LP.m lp_int) rb_pow)) (LP.m (lp_op (LP.m (lp_op (LP.m lp_int) (LP.m lp_int) rb_pow)) (LP.m lp_int) rb_add)) rb_mod)) (lg_name (i := 2) (by decide)))
 (ls_seq (ls_asg (LP.e (lp_op (LP.m (lp_op (LP.m (lp_op (LP.m (lp_var (i := 2))) (LP.m (lp_op (LP.m lp_int) (LP.m (lp_op (lm_peek (i := 0)) (LP.m lp_int) rb_ix)) rb_mul)) rb_add)) (LP.m lp_int) rb_pow)) (LP.m (lp_op (LP.m (lp_op (LP.m lp_int) (LP.m lp_int) rb_pow)) (LP.m lp_int) rb_add)) rb_mod)) (lg_name (i := 2) (by decide)))
 (ls_ret (LP.e (lp_op (LP.m (lp_op (LP.m (lp_var (i := 2))) (LP.m lp_int) rb_divW)) (LP.m (lp_var (i := 1))) rb_mod))))))) ?_
  rintro xs ds Q ⟨n, w, sp, hn, rfl, w0, w1, q⟩
  obtain ⟨a, b, c, rfl, a0, b0, b1, c0, c1⟩ := sp
  (simp only [TN.dCallO, TN.dCallOI, TN.dCallNO, TN.oVar, TN.sCut, TN.tgLst, TN.iK, TN.iV, TN.iLT, TN.pNew, TN.dCallN, TN.dCompI2, TN.dLAddE, TN.oD, TN.sDNew, TN.sPutD, TN.fGetO, TN.fGetO2, TN.fInO, TN.fNinO, TN.dVarD, TN.dExtS, TN.mOwn, TN.dCallM, TN.mVar, TN.sRetV, TN.dAug, TN.dCallNT, TN.dCallNL, TN.fIxTs, TN.sForI, TN.dCompI, TN.dCompL, TN.dCompT, TN.dCompR, TN.iL, TN.iT, TN.iR1, TN.iR2, TN.iR3, TN.iS, TN.iE, TN.iRv, TN.iZ, TN.dKeepT, TN.dCallT, TN.pTup, TN.pCons, TN.pOwn, TN.sAsgT, TN.sRetT, TN.tpL, TN.fIxT, TN.fTp, TN.dAppendT, TN.dReverseT, TN.dClearT, TN.dVarT, TN.dReverse, TN.dClear, TN.dPop, Pt.d, Sl.tp.injEq, TN.startF, TN.dCallV, Sl.fn.injEq, TN.dCallF, TN.dLRev, TN.dLAdd, TN.dLSlP, TN.dLSlice, TN.dSliceE, TN.dNo, TN.dEnd, TN.fNo, TN.sSeq, TN.sNext, TN.sDrop, TN.sRet, TN.sRetL, TN.sRetN, TN.sIf, TN.sAsg, TN.sAsgL, TN.sStore, TN.sForL, TN.sForT, TN.sForR, TN.sForR2, TN.tgN, TN.tgTup, TN.tgCons, TN.tgNil, TN.dP, TN.dB, TN.dCall, TN.dCallL, TN.dCallB, TN.dCallBL, TN.dCons, TN.dNil, TN.dTup, TN.dLst, TN.dKeep, TN.dVar, TN.fVar, TN.fPeek, TN.fC, TN.f2, TN.d2, TN.d2V, TN.f1, TN.d1, TN.fCB, TN.dCB, TN.dCBL, TN.fNil, TN.fCons, TN.asBool, TN.dTest, TN.bAnd, TN.bOr, TN.bNot, TN.dAnd, TN.dOr, TN.dNot, TN.fAndV, TN.fOrV, TN.fNotV, TN.dAndV, TN.dOrV, TN.dNotV, TN.dIfE, TN.dIfL, TN.fIfE, TN.fChain, TN.fSlice, TN.dSlice, TN.fNo, TN.fEnd, TN.dAppend, TN.dInsert, TN.dPopAt, TN.ownL, TN.start0, TN.begB, TN.backD, TN.wipeD, TN.dYes, TN.sNever, List.getElem?_cons_zero, List.getElem?_cons_succ, List.set_cons_zero, List.set_cons_succ, List.map_cons, List.map_nil, List.length_cons, List.length_nil, List.cons_append, List.nil_append, List.replicate_succ, List.replicate_zero, Option.map_some, Option.map_none, Nat.add_one_sub_one, Nat.sub_zero, Nat.sub_self, Nat.zero_add, reduceCtorEq, Option.some.injEq, PyData.int.injEq, PyData.str.injEq, PyData.bool.injEq, PyData.list.injEq, PyData.tuple.injEq, Sl.sh.injEq, Sl.ow.injEq, List.cons.injEq, exists_eq_left', exists_eq_left, true_implies, false_implies, and_true, true_and, forall_const, Option.isSome_some, TN.imp_ff, TN.imp_tf, TN.imp_tt, exists_eq_left, exists_eq_left', exists_eq]); (simp only [Ev.d, TN.ix0, TN.ix1, TN.ix2, TN.ixl0, TN.ixl1, TN.ixl2, TN.ixm2, TN.ixm3, TN.len2, TN.len3, TN.neg1, TN.ty_tup, TN.ty_lst, TN.ty_str, TN.ty_int, TN.oLen_tupL, TN.oLen_lstL, TN.oU_int, TN.oEq_int, TN.oNe_int, decide_true, Bool.not_true, Bool.not_false, reduceCtorEq, Option.some.injEq, PyData.int.injEq, PyData.str.injEq, PyData.bool.injEq, PyData.list.injEq, PyData.tuple.injEq, exists_eq_left', TN.imp_ff, TN.imp_tf, TN.imp_tt, true_and, and_true, forall_const, true_implies, false_implies, TN.w_place_place, TN.n_place_place, TN.w_place_name, TN.n_place_name, TN.w_place_lost, TN.n_place_lost, TN.w_place_twice, TN.n_place_twice, TN.w_place_as, TN.n_place_as, TN.w_name_place, TN.n_name_place, TN.w_name_name, TN.n_name_name, TN.w_name_lost, TN.n_name_lost, TN.w_name_twice, TN.n_name_twice, TN.w_name_as, TN.n_name_as, TN.w_lost_place, TN.n_lost_place, TN.w_lost_name, TN.n_lost_name, TN.w_lost_lost, TN.n_lost_lost, TN.w_lost_twice, TN.n_lost_twice, TN.w_lost_as, TN.n_lost_as, TN.w_twice_place, TN.n_twice_place, TN.w_twice_name, TN.n_twice_name, TN.w_twice_lost, TN.n_twice_lost, TN.w_twice_twice, TN.n_twice_twice, TN.w_twice_as, TN.n_twice_as, TN.w_as_place, TN.n_as_place, TN.w_as_name, TN.n_as_name, TN.w_as_lost, TN.n_as_lost, TN.w_as_twice, TN.n_as_twice, TN.w_as_as, TN.n_as_as])
  refine ⟨fun h => ?_, fun h => ?_⟩
  · have h : 0 < a := of_decide_eq_true h
    exact ⟨.int (a % w), if_pos w0, .int (a / w), oDivW_p w0 w1, _, _, 0, rfl, rfl, rfl, q _ _ (Int.emod_nonneg _ (by omega)) (Int.emod_lt_of_pos _ w0) ⟨a / w, b, c, rfl, Int.ediv_nonneg a0 (by omega), b0, b1, c0, by omega⟩⟩
  · have hb : n ≤ 1000000000000 := hn
    have p1 := oPow3 (x := b + 67867967 * (c + 1)) (by omega) (by omega)
    have m0 := Int.emod_nonneg ((b + 67867967 * (c + 1)) ^ 3) (b := 100000000000000000000000000000000000133) (by decide)
    have m1 := Int.emod_lt_of_pos ((b + 67867967 * (c + 1)) ^ 3) (b := 100000000000000000000000000000000000133) (by decide)
    have p2 := oPow3 (x := (b + 67867967 * (c + 1)) ^ 3 % 100000000000000000000000000000000000133 + 179424673 * (c + 1)) (by omega) (by omega)
    have hx : oMul (.int 67867967) (.int (c + 1)) = some (.int (67867967 * (c + 1))) := oMul_l (by decide)
    have hy : oMul (.int 179424673) (.int (c + 1)) = some (.int (179424673 * (c + 1))) := oMul_l (by decide)
    have q1 := oMod_p (i := (b + 67867967 * (c + 1)) ^ 3) (j := 100000000000000000000000000000000000000 + 133) (by decide)
    obtain ⟨m, em⟩ : ∃ m, (b + 67867967 * (c + 1)) ^ 3 % 100000000000000000000000000000000000133 = m := ⟨_, rfl⟩
    rw [em] at m0 m1 p2
    refine ⟨.int (c + 1), rfl, _, _, 2, rfl, rfl, rfl, .int ((b + 67867967 * (c + 1)) ^ 3 % (100000000000000000000000000000000000000 + 133)), ?_, ?_⟩
    · simp only [List.set_cons_succ, List.set_cons_zero, ixl1, ixl2, hx, pw38, oAdd_int, p1, q1]
    have em2 : (b + 67867967 * (c + 1)) ^ 3 % (100000000000000000000000000000000000000 + 133) = m := em
    rw [em2]
    refine ⟨.int ((m + 179424673 * (c + 1)) ^ 3 % (100000000000000000000000000000000000 + 69)), ?_, .int ((m + 179424673 * (c + 1)) ^ 3 % (100000000000000000000000000000000000 + 69) / 131071 % w), ?_, q _ _ (Int.emod_nonneg _ (by omega)) (Int.emod_lt_of_pos _ w0) ⟨a, b, c + 1, rfl, a0, b0, b1, by omega, by omega⟩⟩
    · simp only [List.set_cons_succ, List.set_cons_zero, ixl1, ixl2, hy, pw35, oAdd_int, p2]
      exact oMod_p (by decide)
    · rw [oDivW_p (by decide) (by decide)]
      exact oMod_p w0

abbrev s__law_mixed : Stmt := topS 42
theorem sc__law_mixed : FnScope ["spool", "things", "spare", "k"] ["spool", "things"] (defScope s__law_mixed) := ⟨rfl, rfl, rfl, by decide +kernel, rfl, by decide +kernel, by decide +kernel⟩
theorem ok__law_mixed (b : Blt mg) (h__law_wind : Has P w K mg base "_law_wind" 1 ["spool", "wide"] (spB K semWind)) {f : Addr} {fd : FuncData} (F : Fun K "_law_mixed" "_law_mixed" s__law_mixed f fd) : FnG P w K mg base CX0 2 f fd ["spool", "things"] (spB K semMixed) := by
  refine fnB (k := 1) F sc__law_mixed (fun xs ds Q h => by obtain ⟨n, d, L, _, _, rfl, _⟩ := h; rfl) (fun cdv A outer s H E hg hr =>
    have nd := sc__law_mixed.nd
    have hu := hr.units
    have hu1 := hu_of hr
    (pss_cons (ps_set (i := 2) nd rfl (by first | exact Or.inl rfl | exact Or.inr rfl) (pe_callTy (call_listU rfl) (by rfl) b.list (by decide +kernel) (pa_cons (pv 1) pa_nil)))
 (pss_one (ps_ret (pe_callTy call_tupleX (by rfl) b.tuple (by decide +kernel) (pa_cons (pe_lc (own := [("k", 3)]) (g := gName 3) (tt := tYes) rfl nd (pi_range1 (by rfl) b.range (pa_cons (pe_callB call_len (by rfl) b.len (by decide +kernel) (pa_cons (pv 1) pa_nil)) pa_nil)) (blkOk_by (own := [("k", 3)]) (N := ["spool", "things", "spare", "k"]) (sc := defScope s__law_mixed) (by decide +kernel)) (fun _ _ _ _ _ => pg_name (i := 3) nd rfl (by first | exact Or.inl rfl | exact Or.inr rfl)) (fun _ _ _ _ _ => by exact pts_nil) (fun _ _ _ _ _ => by exact (pe_bm PySem.F.plainAttrs_list PySem.F.slot_list_pop PySem.F.type_list_pop mt_popAt (pv 2) (pa_cons (pe_has (h__law_wind.up (by decide)) hg hr (by rfl) (pa_cons (pv 0) (pa_cons (pe_callB call_len (by rfl) b.len (by decide +kernel) (pa_cons (pv 2) pa_nil)) pa_nil))) pa_nil)))) pa_nil))))))
    (ls_seq (ls_asgL (i := 2) (by decide) (ll_cb (les_cons (LP.e (lp_var (i := 1))) les_nil) rc_list))
 (ls_ret (le_cb (les_cons (LL.e (ll_compR (j := 3) (vs := [3]) (by decide) (by decide) (les_cons (LP.e (lp_cb (lms_cons (LP.m (lp_var (i := 1))) lms_nil) rc_len)) les_nil) lt_yes (le_popAt (j := 2) (le_callB (j := 0) (les_cons (LP.e (lp_cb (lms_cons (lm_peek (i := 2)) lms_nil) rc_len)) les_nil))))) les_nil) rc_tuple))) ?_
  rintro xs ds Q ⟨n, d, L, sp, hn, rfl, l1, l2, few, q⟩
  (simp only [TN.sSeq, TN.sNext, TN.sDrop, TN.sRet, TN.sRetL, TN.sRetN, TN.sIf, TN.sAsg, TN.sAsgL, TN.sStore, TN.sForL, TN.sForT, TN.sForR, TN.sForR2, TN.tgN, TN.tgTup, TN.tgCons, TN.tgNil, TN.dP, TN.dB, TN.dCall, TN.dCallL, TN.dCallB, TN.dCallBL, TN.dCons, TN.dNil, TN.dTup, TN.dLst, TN.dKeep, TN.dVar, TN.fVar, TN.fPeek, TN.fC, TN.f2, TN.d2, TN.d2V, TN.f1, TN.d1, TN.fCB, TN.dCB, TN.dCBL, TN.fNil, TN.fCons, TN.asBool, TN.dTest, TN.bAnd, TN.bOr, TN.bNot, TN.dAnd, TN.dOr, TN.dNot, TN.fAndV, TN.fOrV, TN.fNotV, TN.dAndV, TN.dOrV, TN.dNotV, TN.dIfE, TN.dIfL, TN.fIfE, TN.fChain, TN.fSlice, TN.dSlice, TN.fNo, TN.fEnd, TN.dAppend, TN.dInsert, TN.dPopAt, TN.ownL, TN.start0, TN.begB, TN.backD, TN.wipeD, TN.dYes, TN.sNever, List.getElem?_cons_zero, List.getElem?_cons_succ, List.set_cons_zero, List.set_cons_succ, List.map_cons, List.map_nil, List.length_cons, List.length_nil, List.cons_append, List.nil_append, List.replicate_succ, List.replicate_zero, Option.map_some, Option.map_none, Nat.add_one_sub_one, Nat.sub_zero, Nat.sub_self, Nat.zero_add, reduceCtorEq, Option.some.injEq, PyData.int.injEq, PyData.str.injEq, PyData.bool.injEq, PyData.list.injEq, PyData.tuple.injEq, Sl.sh.injEq, Sl.ow.injEq, List.cons.injEq, exists_eq_left', exists_eq_left, true_implies, false_implies, and_true, true_and, forall_const, Option.isSome_some, TN.imp_ff, TN.imp_tf, TN.imp_tt, exists_eq_left, exists_eq_left', exists_eq])
  rw [l1]
  have hb : n + 100 ≤ 1000000000000 := hn
  refine ⟨_, rfl, ?_⟩
  unfold dCompR
  (simp only [TN.sSeq, TN.sNext, TN.sDrop, TN.sRet, TN.sRetL, TN.sRetN, TN.sIf, TN.sAsg, TN.sAsgL, TN.sStore, TN.sForL, TN.sForT, TN.sForR, TN.sForR2, TN.tgN, TN.tgTup, TN.tgCons, TN.tgNil, TN.dP, TN.dB, TN.dCall, TN.dCallL, TN.dCallB, TN.dCallBL, TN.dCons, TN.dNil, TN.dTup, TN.dLst, TN.dKeep, TN.dVar, TN.fVar, TN.fPeek, TN.fC, TN.f2, TN.d2, TN.d2V, TN.f1, TN.d1, TN.fCB, TN.dCB, TN.dCBL, TN.fNil, TN.fCons, TN.asBool, TN.dTest, TN.bAnd, TN.bOr, TN.bNot, TN.dAnd, TN.dOr, TN.dNot, TN.fAndV, TN.fOrV, TN.fNotV, TN.dAndV, TN.dOrV, TN.dNotV, TN.dIfE, TN.dIfL, TN.fIfE, TN.fChain, TN.fSlice, TN.dSlice, TN.fNo, TN.fEnd, TN.dAppend, TN.dInsert, TN.dPopAt, TN.ownL, TN.start0, TN.begB, TN.backD, TN.wipeD, TN.dYes, TN.sNever, List.getElem?_cons_zero, List.getElem?_cons_succ, List.set_cons_zero, List.set_cons_succ, List.map_cons, List.map_nil, List.length_cons, List.length_nil, List.cons_append, List.nil_append, List.replicate_succ, List.replicate_zero, Option.map_some, Option.map_none, Nat.add_one_sub_one, Nat.sub_zero, Nat.sub_self, Nat.zero_add, reduceCtorEq, Option.some.injEq, PyData.int.injEq, PyData.str.injEq, PyData.bool.injEq, PyData.list.injEq, PyData.tuple.injEq, Sl.sh.injEq, Sl.ow.injEq, List.cons.injEq, exists_eq_left', exists_eq_left, true_implies, false_implies, and_true, true_and, forall_const, Option.isSome_some, TN.imp_ff, TN.imp_tf, TN.imp_tt, exists_eq_left, exists_eq_left', exists_eq])
  rw [l2]
  refine ⟨_, rfl, _, rfl, by omega, by omega, ?_⟩
  have el : (rangeD 0 (L.length : Int).toNat).length = L.length := by unfold rangeD; rw [List.length_map, List.length_range]; omega
  refine mix_turns _ [] L xs n sp (by rw [el]; show _ ≤ (1000000000000 : Int); omega) el (by simp; omega) fun L' ys pm sp' => ?_
  exact ⟨_, rfl, _, rfl, q L' ys pm (sp'.up (by omega))⟩

abbrev s__law_letters : Stmt := topS 43
theorem sc__law_letters : FnScope ["spool", "most", "signs", "often"] ["spool", "most"] (defScope s__law_letters) := ⟨rfl, rfl, rfl, by decide +kernel, rfl, by decide +kernel, by decide +kernel⟩
theorem ok__law_letters (b : Blt mg) (h__law_wind : Has P w K mg base "_law_wind" 1 ["spool", "wide"] (spB K semWind)) (h__law_mixed : Has P w K mg base "_law_mixed" 2 ["spool", "things"] (spB K semMixed)) {f : Addr} {fd : FuncData} (F : Fun K "_law_letters" "_law_letters" s__law_letters f fd) : FnG P w K mg base CX0 3 f fd ["spool", "most"] (spB K semLetters) := by
  refine fnB (k := 2) F sc__law_letters (fun xs ds Q h => by obtain ⟨n, m, _, _, rfl, _⟩ := h; rfl) (fun cdv A outer s H E hg hr =>
    have nd := sc__law_letters.nd
    have hu := hr.units
    have hu1 := hu_of hr
    (pss_cons (ps_set (i := 2) nd rfl (by first | exact Or.inl rfl | exact Or.inr rfl) pe_str)
 (pss_cons (ps_set (i := 3) nd rfl (by first | exact Or.inl rfl | exact Or.inr rfl) (pe_op op_addU pe_int (pe_has (h__law_wind.up (by decide)) hg hr (by rfl) (pa_cons (pv 0) (pa_cons (pv 1) pa_nil)))))
 (pss_one (ps_ret (pe_ifExp (pt_cmpR (op_eqD hu) (pe_has (h__law_wind.up (by decide)) hg hr (by rfl) (pa_cons (pv 0) (pa_cons pe_int pa_nil))) pe_int (nomark _)) (pe_callTy (call_listU rfl) (by rfl) b.list (by decide +kernel) (pa_cons (pe_slice sl_U (pv 2) po_none (po_some (pv 3))) pa_nil)) (pe_callTy (call_listU rfl) (by rfl) b.list (by decide +kernel) (pa_cons (pe_slice sl_U (pe_has (h__law_mixed.up (by decide)) hg hr (by rfl) (pa_cons (pv 0) (pa_cons (pv 2) pa_nil))) po_none (po_some (pv 3))) pa_nil))))))))
    (ls_seq (ls_asg (LP.e lp_str) (lg_name (i := 2) (by decide)))
 (ls_seq (ls_asg (le_op (LP.e lp_int) (le_callB (j := 0) (les_cons (LP.e (lp_var (i := 1))) les_nil)) rb_add) (lg_name (i := 3) (by decide)))
 (ls_ret (LL.e (ll_ifE (lt_test (le_op (le_callB (j := 0) (les_cons (LP.e lp_int) les_nil)) (LP.e lp_int) rb_eq)) (ll_cb (les_cons (LP.e (lp_slice (LP.m (lp_var (i := 2))) lo_none (lo_some (LP.m (lp_var (i := 3)))))) les_nil) rc_list) (ll_cb (les_cons (le_slice (le_callB (j := 0) (les_cons (LP.e (lp_var (i := 2))) les_nil)) lo_none (lo_some (LP.m (lp_var (i := 3))))) les_nil) rc_list)))))) ?_
  rintro xs ds Q ⟨n, m, sp, hn, rfl, m1, m2, q⟩
  (simp only [TN.sSeq, TN.sNext, TN.sDrop, TN.sRet, TN.sRetL, TN.sRetN, TN.sIf, TN.sAsg, TN.sAsgL, TN.sStore, TN.sForL, TN.sForT, TN.sForR, TN.sForR2, TN.tgN, TN.tgTup, TN.tgCons, TN.tgNil, TN.dP, TN.dB, TN.dCall, TN.dCallL, TN.dCallB, TN.dCallBL, TN.dCons, TN.dNil, TN.dTup, TN.dLst, TN.dKeep, TN.dVar, TN.fVar, TN.fPeek, TN.fC, TN.f2, TN.d2, TN.d2V, TN.f1, TN.d1, TN.fCB, TN.dCB, TN.dCBL, TN.fNil, TN.fCons, TN.asBool, TN.dTest, TN.bAnd, TN.bOr, TN.bNot, TN.dAnd, TN.dOr, TN.dNot, TN.fAndV, TN.fOrV, TN.fNotV, TN.dAndV, TN.dOrV, TN.dNotV, TN.dIfE, TN.dIfL, TN.fIfE, TN.fChain, TN.fSlice, TN.dSlice, TN.fNo, TN.fEnd, TN.dAppend, TN.dInsert, TN.dPopAt, TN.ownL, TN.start0, TN.begB, TN.backD, TN.wipeD, TN.dYes, TN.sNever, List.getElem?_cons_zero, List.getElem?_cons_succ, List.set_cons_zero, List.set_cons_succ, List.map_cons, List.map_nil, List.length_cons, List.length_nil, List.cons_append, List.nil_append, List.replicate_succ, List.replicate_zero, Option.map_some, Option.map_none, Nat.add_one_sub_one, Nat.sub_zero, Nat.sub_self, Nat.zero_add, reduceCtorEq, Option.some.injEq, PyData.int.injEq, PyData.str.injEq, PyData.bool.injEq, PyData.list.injEq, PyData.tuple.injEq, Sl.sh.injEq, Sl.ow.injEq, List.cons.injEq, exists_eq_left', exists_eq_left, true_implies, false_implies, and_true, true_and, forall_const, Option.isSome_some, TN.imp_ff, TN.imp_tf, TN.imp_tt, exists_eq_left, exists_eq_left', exists_eq])
  have hb : n + 200 ≤ 1000000000000 := hn
  refine windN sp (by show n ≤ 1000000000000; omega) (by omega) (by omega) fun k ys hk sp1 => ⟨_, rfl, _, rfl, ?_⟩
  refine windN sp1 (by show n + 1 ≤ 1000000000000; omega) (by omega) (by omega) fun c zs hc sp2 => ⟨_, rfl, _, oEq_int, _, rfl, fun _ => ?_, fun _ => ?_⟩
  · obtain ⟨z, e1, e2⟩ := alpha_cut (n := k + 1) (by omega)
    have e3 : (1 + (k : Int)) = ((k + 1 : Nat) : Int) := by omega
    rw [e3]
    refine ⟨_, e1, _, e2, q _ _ (row_alpha (by omega) (by omega)) ?_ (sp2.up (by omega))⟩
    rw [alpha_len]; omega
  · obtain ⟨z, e1, e2⟩ := alpha_cut (n := 26) (by omega)
    have e3 : (1 + (k : Int)) = ((k + 1 : Nat) : Int) := by omega
    rw [e3]
    have o1 : oList [.str SIGNS] = some ((alpha 26).map PyData.str) := by
      have : oSlice none (some (26 : Nat)) (.str SIGNS) = some (.str SIGNS) := by
        show (if SIGNS.length ≤ 100000 then some (PyData.str (cutS SIGNS none (some ((26 : Nat) : Int)))) else none) = _
        rw [if_pos (by decide +kernel), show cutS SIGNS none (some ((26 : Nat) : Int)) = SIGNS from by decide +kernel]
      rw [this] at e1
      injection e1 with e1
      injection e1 with e1
      rw [e1]; exact e2
    have o2 : oLen [.str SIGNS] = some (.int ((alpha 26).length : Nat)) := by
      show (if SIGNS.length ≤ 100000 then some (PyData.int (SIGNS.length : Nat)) else none) = _
      rw [if_pos (by decide +kernel), alpha_len, show SIGNS.length = 26 from by decide +kernel]
    refine mixS sp2 (by show n + 1 + 1 + 100 ≤ (1000000000000 : Int); omega) o1 o2 (by rw [alpha_len]; omega) fun l' ys' pm sp3 => ⟨_, rfl, none, _, _, rfl, rfl, oSl_to, _, rfl, ?_⟩
    refine q _ _ (row_take pm (by omega) (by omega)) ?_ (sp3.up (by omega))
    rw [List.length_take]; omega

abbrev s__law_two : Stmt := topS 44
theorem sc__law_two : FnScope ["spool", "most", "one", "way", "other", "turn"] ["spool", "most"] (defScope s__law_two) := ⟨rfl, rfl, rfl, by decide +kernel, rfl, by decide +kernel, by decide +kernel⟩
theorem ok__law_two (b : Blt mg) (h__law_mixed : Has P w K mg base "_law_mixed" 2 ["spool", "things"] (spB K semMixed)) (h__law_letters : Has P w K mg base "_law_letters" 3 ["spool", "most"] (spB K semLetters)) (h__law_wind : Has P w K mg base "_law_wind" 1 ["spool", "wide"] (spB K semWind)) {f : Addr} {fd : FuncData} (F : Fun K "_law_two" "_law_two" s__law_two f fd) : FnG P w K mg base CX0 4 f fd ["spool", "most"] (spB K semTwo) := by
  refine fnB (k := 3) F sc__law_two (fun xs ds Q h => by obtain ⟨n, m, _, _, rfl, _⟩ := h; rfl) (fun cdv A outer s H E hg hr =>
    have nd := sc__law_two.nd
    have hu := hr.units
    have hu1 := hu_of hr
    (pss_cons (ps_set (i := 2) nd rfl (by first | exact Or.inl rfl | exact Or.inr rfl) (pe_has (h__law_mixed.up (by decide)) hg hr (by rfl) (pa_cons (pv 0) (pa_cons (pe_has (h__law_letters.up (by decide)) hg hr (by rfl) (pa_cons (pv 0) (pa_cons (pv 1) pa_nil))) pa_nil))))
 (pss_cons (ps_set (i := 3) nd rfl (by first | exact Or.inl rfl | exact Or.inr rfl) (pe_has (h__law_wind.up (by decide)) hg hr (by rfl) (pa_cons (pv 0) (pa_cons pe_int pa_nil))))
 (pss_cons (ps_if (pt_cmpR (op_eqD hu) (pv 3) pe_int (nomark _)) (pss_one (ps_ret (pe_tupX (pa_cons (pv 2) (pa_cons (pe_has (h__law_mixed.up (by decide)) hg hr (by rfl) (pa_cons (pv 0) (pa_cons (pv 2) pa_nil))) pa_nil))))) pss_nil)
 (pss_cons (ps_set (i := 4) nd rfl (by first | exact Or.inl rfl | exact Or.inr rfl) (pe_callTy (call_listU rfl) (by rfl) b.list (by decide +kernel) (pa_cons (pv 2) pa_nil)))
 (pss_cons (ps_for PassesOwn.never rfl (pi_range1 (by rfl) b.range (pa_cons (pe_op op_mul (pv 3) (pe_has (h__law_wind.up (by decide)) hg hr (by rfl) (pa_cons (pv 0) (pa_cons pe_int pa_nil)))) pa_nil)) (pg_name (i := 5) nd rfl (by first | exact Or.inl rfl | exact Or.inr rfl)) (pss_one (ps_expr (by exact (pe_bm PySem.F.plainAttrs_list PySem.F.slot_list_insert PySem.F.type_list_insert mt_insert (pv 4) (pa_cons pe_int (pa_cons (pe_bm PySem.F.plainAttrs_list PySem.F.slot_list_pop PySem.F.type_list_pop mt_popAt (pv 4) (pa_cons (pe_has (h__law_wind.up (by decide)) hg hr (by rfl) (pa_cons (pv 0) (pa_cons (pe_callB call_len (by rfl) b.len (by decide +kernel) (pa_cons (pv 4) pa_nil)) pa_nil))) pa_nil)) pa_nil)))))))
 (pss_one (ps_ret (pe_tupX (pa_cons (pv 2) (pa_cons (pe_callTy call_tupleX (by rfl) b.tuple (by decide +kernel) (pa_cons (pv 4) pa_nil)) pa_nil)))))))))))
    (ls_seq (ls_asg (le_callB (j := 0) (les_cons (le_callB (j := 0) (les_cons (LP.e (lp_var (i := 1))) les_nil)) les_nil)) (lg_name (i := 2) (by decide)))
 (ls_seq (ls_asg (le_callB (j := 0) (les_cons (LP.e lp_int) les_nil)) (lg_name (i := 3) (by decide)))
 (ls_seq (ls_if (LB.g (lb_test (LP.m (lp_op (LP.m (lp_var (i := 3))) (LP.m lp_int) rb_eq)))) (ls_ret (le_tup (les_cons (LP.e (lp_var (i := 2))) (les_cons (le_callB (j := 0) (les_cons (LP.e (lp_var (i := 2))) les_nil)) les_nil)))) ls_next)
 (ls_seq (ls_asgL (i := 4) (by decide) (ll_cb (les_cons (LP.e (lp_var (i := 2))) les_nil) rc_list))
 (ls_seq (ls_forR (les_cons (le_op (LP.e (lp_var (i := 3))) (le_callB (j := 0) (les_cons (LP.e lp_int) les_nil)) rb_mul) les_nil) (lg_name (i := 5) (by decide)) (ls_drop (le_insert (j := 4) (LP.e lp_int) (le_popAt (j := 4) (le_callB (j := 0) (les_cons (LP.e (lp_cb (lms_cons (lm_peek (i := 4)) lms_nil) rc_len)) les_nil))))))
 (ls_ret (le_tup (les_cons (LP.e (lp_var (i := 2))) (les_cons (LP.e (lp_cb (lms_cons (lm_peek (i := 4)) lms_nil) rc_tuple)) les_nil))))))))) ?_
  rintro xs ds Q ⟨n, m, sp, hn, rfl, m1, m2, q⟩
  (simp only [TN.sSeq, TN.sNext, TN.sDrop, TN.sRet, TN.sRetL, TN.sRetN, TN.sIf, TN.sAsg, TN.sAsgL, TN.sStore, TN.sForL, TN.sForT, TN.sForR, TN.sForR2, TN.tgN, TN.tgTup, TN.tgCons, TN.tgNil, TN.dP, TN.dB, TN.dCall, TN.dCallL, TN.dCallB, TN.dCallBL, TN.dCons, TN.dNil, TN.dTup, TN.dLst, TN.dKeep, TN.dVar, TN.fVar, TN.fPeek, TN.fC, TN.f2, TN.d2, TN.d2V, TN.f1, TN.d1, TN.fCB, TN.dCB, TN.dCBL, TN.fNil, TN.fCons, TN.asBool, TN.dTest, TN.bAnd, TN.bOr, TN.bNot, TN.dAnd, TN.dOr, TN.dNot, TN.fAndV, TN.fOrV, TN.fNotV, TN.dAndV, TN.dOrV, TN.dNotV, TN.dIfE, TN.dIfL, TN.fIfE, TN.fChain, TN.fSlice, TN.dSlice, TN.fNo, TN.fEnd, TN.dAppend, TN.dInsert, TN.dPopAt, TN.ownL, TN.start0, TN.begB, TN.backD, TN.wipeD, TN.dYes, TN.sNever, List.getElem?_cons_zero, List.getElem?_cons_succ, List.set_cons_zero, List.set_cons_succ, List.map_cons, List.map_nil, List.length_cons, List.length_nil, List.cons_append, List.nil_append, List.replicate_succ, List.replicate_zero, Option.map_some, Option.map_none, Nat.add_one_sub_one, Nat.sub_zero, Nat.sub_self, Nat.zero_add, reduceCtorEq, Option.some.injEq, PyData.int.injEq, PyData.str.injEq, PyData.bool.injEq, PyData.list.injEq, PyData.tuple.injEq, Sl.sh.injEq, Sl.ow.injEq, List.cons.injEq, exists_eq_left', exists_eq_left, true_implies, false_implies, and_true, true_and, forall_const, Option.isSome_some, TN.imp_ff, TN.imp_tf, TN.imp_tt, exists_eq_left, exists_eq_left', exists_eq])
  have hb : n + 1000 ≤ 1000000000000 := hn
  refine ⟨n, m, sp, by show n + 200 ≤ 1000000000000; omega, rfl, m1, m2, fun r ys gr rm sp1 => ⟨_, rfl, ?_⟩⟩
  have few := gr.few
  refine mixS sp1 (by show n + 200 + 100 ≤ 1000000000000; omega) rfl oLen_lstL (by omega) fun t ys1 pt sp2 => ⟨_, rfl, ?_⟩
  have gt := gr.perm pt
  have lt := pt.length_eq
  refine windN sp2 (by show _ ≤ (1000000000000 : Int); omega) (by omega) (by omega) fun k ys2 hk sp3 => ⟨_, rfl, ?_⟩
  rw [oEq_int]
  refine ⟨_, rfl, fun _ => ?_, fun _ => ⟨_, rfl, ?_⟩⟩
  · refine mixS sp3 (by show _ ≤ (1000000000000 : Int); omega) rfl oLen_tupL (by omega) fun h ys3 ph sp4 => ⟨_, rfl, by omega, ?_⟩
    exact q t h ys3 ⟨gt, gt.perm ph, ph.symm⟩ (by omega) (sp4.up (by omega))
  · refine windN sp3 (by show _ ≤ (1000000000000 : Int); omega) (by omega) (by omega) fun c ys3 hc sp4 => ⟨_, rfl, _, oMul_l (by omega), _, rfl, ?_⟩
    have hc' : c ≤ 2 := by omega
    have hk' : k ≤ 2 := by omega
    have hkc : k * c ≤ 4 := Nat.mul_le_mul hk' hc'
    have e : (k : Int) * c = ((k * c : Nat) : Int) := by rw [Int.natCast_mul]
    rw [e]
    refine ⟨by omega, by omega, ?_⟩
    refine two_turns _ t ys3 _ .no sp4 (by rw [rangeD_len]; show _ ≤ (1000000000000 : Int); omega) gt.ne (by omega) fun h ys4 z ph sp5 => ?_
    rw [rangeD_len] at sp5
    (simp only [TN.sSeq, TN.sNext, TN.sDrop, TN.sRet, TN.sRetL, TN.sRetN, TN.sIf, TN.sAsg, TN.sAsgL, TN.sStore, TN.sForL, TN.sForT, TN.sForR, TN.sForR2, TN.tgN, TN.tgTup, TN.tgCons, TN.tgNil, TN.dP, TN.dB, TN.dCall, TN.dCallL, TN.dCallB, TN.dCallBL, TN.dCons, TN.dNil, TN.dTup, TN.dLst, TN.dKeep, TN.dVar, TN.fVar, TN.fPeek, TN.fC, TN.f2, TN.d2, TN.d2V, TN.f1, TN.d1, TN.fCB, TN.dCB, TN.dCBL, TN.fNil, TN.fCons, TN.asBool, TN.dTest, TN.bAnd, TN.bOr, TN.bNot, TN.dAnd, TN.dOr, TN.dNot, TN.fAndV, TN.fOrV, TN.fNotV, TN.dAndV, TN.dOrV, TN.dNotV, TN.dIfE, TN.dIfL, TN.fIfE, TN.fChain, TN.fSlice, TN.dSlice, TN.fNo, TN.fEnd, TN.dAppend, TN.dInsert, TN.dPopAt, TN.ownL, TN.start0, TN.begB, TN.backD, TN.wipeD, TN.dYes, TN.sNever, List.getElem?_cons_zero, List.getElem?_cons_succ, List.set_cons_zero, List.set_cons_succ, List.map_cons, List.map_nil, List.length_cons, List.length_nil, List.cons_append, List.nil_append, List.replicate_succ, List.replicate_zero, Option.map_some, Option.map_none, Nat.add_one_sub_one, Nat.sub_zero, Nat.sub_self, Nat.zero_add, reduceCtorEq, Option.some.injEq, PyData.int.injEq, PyData.str.injEq, PyData.bool.injEq, PyData.list.injEq, PyData.tuple.injEq, Sl.sh.injEq, Sl.ow.injEq, List.cons.injEq, exists_eq_left', exists_eq_left, true_implies, false_implies, and_true, true_and, forall_const, Option.isSome_some, TN.imp_ff, TN.imp_tf, TN.imp_tt, exists_eq_left, exists_eq_left', exists_eq])
    refine ⟨_, rfl, by omega, ?_⟩
    exact q t h ys4 ⟨gt, gt.perm ph, ph.symm⟩ (by omega) (sp5.up (by omega))

abbrev s__law_event : Stmt := topS 45
theorem sc__law_event : FnScope ["spool", "row", "kinds", "often", "kind", "place"] ["spool", "row", "kinds"] (defScope s__law_event) := ⟨rfl, rfl, rfl, by decide +kernel, rfl, by decide +kernel, by decide +kernel⟩
theorem ok__law_event (b : Blt mg) (h__law_wind : Has P w K mg base "_law_wind" 1 ["spool", "wide"] (spB K semWind)) {f : Addr} {fd : FuncData} (F : Fun K "_law_event" "_law_event" s__law_event f fd) : FnG P w K mg base CX0 2 f fd ["spool", "row", "kinds"] (spB K semEvent) := by
  refine fnB (k := 1) F sc__law_event (fun xs ds Q h => by obtain ⟨n, r, ks, _, _, rfl, _⟩ := h; rfl) (fun cdv A outer s H E hg hr =>
    have nd := sc__law_event.nd
    have hu := hr.units
    have hu1 := hu_of hr
    (pss_cons (ps_set (i := 3) nd rfl (by first | exact Or.inl rfl | exact Or.inr rfl) (pe_callB call_len (by rfl) b.len (by decide +kernel) (pa_cons (pv 1) pa_nil)))
 (pss_cons (ps_set (i := 4) nd rfl (by first | exact Or.inl rfl | exact Or.inr rfl) (pe_ix ix_seq (pv 2) (pe_has (h__law_wind.up (by decide)) hg hr (by rfl) (pa_cons (pv 0) (pa_cons (pe_callB call_len (by rfl) b.len (by decide +kernel) (pa_cons (pv 2) pa_nil)) pa_nil))) (fun _ _ => rfl)))
 (pss_cons (ps_set (i := 5) nd rfl (by first | exact Or.inl rfl | exact Or.inr rfl) (pe_ix ix_seq (pe_lst (pa_cons (pe_has (h__law_wind.up (by decide)) hg hr (by rfl) (pa_cons (pv 0) (pa_cons (pv 3) pa_nil))) (pa_cons (pe_callB (call_min2 rfl) (by rfl) b.min (by decide +kernel) (pa_cons (pe_op op_sub (pv 3) pe_int) (pa_cons (pe_has (h__law_wind.up (by decide)) hg hr (by rfl) (pa_cons (pv 0) (pa_cons pe_int pa_nil))) pa_nil))) (pa_cons (pe_op op_sub (pv 3) pe_int) pa_nil)))) (pe_has (h__law_wind.up (by decide)) hg hr (by rfl) (pa_cons (pv 0) (pa_cons pe_int pa_nil))) (fun _ _ => rfl)))
 (pss_cons (ps_if (pt_cmpR (op_eqD hu) (pv 4) pe_str (nomark _)) (pss_one (ps_ret (pe_tupX (pa_cons (pv 4) (pa_cons (pe_ix ix_seq (pv 1) (pv 5) (fun _ _ => rfl)) pa_nil))))) pss_nil)
 (pss_cons (ps_if (pt_cmpR (op_neD hu) (pv 4) pe_str (nomark _)) (pss_one (ps_ret (pe_tupX (pa_cons (pv 4) (pa_cons (pv 5) pa_nil))))) pss_nil)
 (pss_cons (ps_if (pt_cmpR (op_eqD hu) (pv 3) pe_int (nomark _)) (pss_one (ps_ret (pe_tupX (pa_cons pe_str (pa_cons pe_int pa_nil))))) pss_nil)
 (pss_one (ps_ret (pe_tupX (pa_cons (pv 4) (pa_cons (pv 5) (pa_cons (pe_op op_mod (pe_op op_addU (pe_op op_addU (pv 5) pe_int) (pe_has (h__law_wind.up (by decide)) hg hr (by rfl) (pa_cons (pv 0) (pa_cons (pe_op op_sub (pv 3) pe_int) pa_nil)))) (pv 3)) pa_nil)))))))))))))
    (ls_seq (ls_asg (LP.e (lp_cb (lms_cons (LP.m (lp_var (i := 1))) lms_nil) rc_len)) (lg_name (i := 3) (by decide)))
 (ls_seq (ls_asg (le_op (LP.e (lp_var (i := 2))) (le_callB (j := 0) (les_cons (LP.e (lp_cb (lms_cons (LP.m (lp_var (i := 2))) lms_nil) rc_len)) les_nil)) rb_ix) (lg_name (i := 4) (by decide)))
 (ls_seq (ls_asg (le_op (LL.e (ll_lst (les_cons (le_callB (j := 0) (les_cons (LP.e (lp_var (i := 3))) les_nil)) (les_cons (le_cb (les_cons (LP.e (lp_op (LP.m (lp_var (i := 3))) (LP.m lp_int) rb_sub)) (les_cons (le_callB (j := 0) (les_cons (LP.e lp_int) les_nil)) les_nil)) rc_min) (les_cons (LP.e (lp_op (LP.m (lp_var (i := 3))) (LP.m lp_int) rb_sub)) les_nil))))) (le_callB (j := 0) (les_cons (LP.e lp_int) les_nil)) rb_ix) (lg_name (i := 5) (by decide)))
 (ls_seq (ls_if (LB.g (lb_test (LP.m (lp_op (LP.m (lp_var (i := 4))) (LP.m lp_str) rb_eq)))) (ls_ret (le_tup (les_cons (LP.e (lp_var (i := 4))) (les_cons (LP.e (lp_op (LP.m (lp_var (i := 1))) (LP.m (lp_var (i := 5))) rb_ix)) les_nil)))) ls_next)
 (ls_seq (ls_if (LB.g (lb_test (LP.m (lp_op (LP.m (lp_var (i := 4))) (LP.m lp_str) rb_ne)))) (ls_ret (le_tup (les_cons (LP.e (lp_var (i := 4))) (les_cons (LP.e (lp_var (i := 5))) les_nil)))) ls_next)
 (ls_seq (ls_if (LB.g (lb_test (LP.m (lp_op (LP.m (lp_var (i := 3))) (LP.m lp_int) rb_eq)))) (ls_ret (le_tup (les_cons (LP.e lp_str) (les_cons (LP.e lp_int) les_nil)))) ls_next)
 (ls_ret (le_tup (les_cons (LP.e (lp_var (i := 4))) (les_cons (LP.e (lp_var (i := 5))) (les_cons (le_op (le_op (LP.e (lp_op (LP.m (lp_var (i := 5))) (LP.m lp_int) rb_add)) (le_callB (j := 0) (les_cons (LP.e (lp_op (LP.m (lp_var (i := 3))) (LP.m lp_int) rb_sub)) les_nil)) rb_add) (LP.e (lp_var (i := 3))) rb_mod) les_nil))))))))))) ?_
  rintro xs ds Q ⟨n, r, ks, sp, hn, rfl, hr, hk, q⟩
  (simp only [TN.sSeq, TN.sNext, TN.sDrop, TN.sRet, TN.sRetL, TN.sRetN, TN.sIf, TN.sAsg, TN.sAsgL, TN.sStore, TN.sForL, TN.sForT, TN.sForR, TN.sForR2, TN.tgN, TN.tgTup, TN.tgCons, TN.tgNil, TN.dP, TN.dB, TN.dCall, TN.dCallL, TN.dCallB, TN.dCallBL, TN.dCons, TN.dNil, TN.dTup, TN.dLst, TN.dKeep, TN.dVar, TN.fVar, TN.fPeek, TN.fC, TN.f2, TN.d2, TN.d2V, TN.f1, TN.d1, TN.fCB, TN.dCB, TN.dCBL, TN.fNil, TN.fCons, TN.asBool, TN.dTest, TN.bAnd, TN.bOr, TN.bNot, TN.dAnd, TN.dOr, TN.dNot, TN.fAndV, TN.fOrV, TN.fNotV, TN.dAndV, TN.dOrV, TN.dNotV, TN.dIfE, TN.dIfL, TN.fIfE, TN.fChain, TN.fSlice, TN.dSlice, TN.fNo, TN.fEnd, TN.dAppend, TN.dInsert, TN.dPopAt, TN.ownL, TN.start0, TN.begB, TN.backD, TN.wipeD, TN.dYes, TN.sNever, List.getElem?_cons_zero, List.getElem?_cons_succ, List.set_cons_zero, List.set_cons_succ, List.map_cons, List.map_nil, List.length_cons, List.length_nil, List.cons_append, List.nil_append, List.replicate_succ, List.replicate_zero, Option.map_some, Option.map_none, Nat.add_one_sub_one, Nat.sub_zero, Nat.sub_self, Nat.zero_add, reduceCtorEq, Option.some.injEq, PyData.int.injEq, PyData.str.injEq, PyData.bool.injEq, PyData.list.injEq, PyData.tuple.injEq, Sl.sh.injEq, Sl.ow.injEq, List.cons.injEq, exists_eq_left', exists_eq_left, true_implies, false_implies, and_true, true_and, forall_const, Option.isSome_some, TN.imp_ff, TN.imp_tf, TN.imp_tt, exists_eq_left, exists_eq_left', exists_eq])
  have hb : n + 10 ≤ 1000000000000 := hn
  have r0 : 0 < r.length := List.length_pos_iff.mpr hr.ne
  have few := hr.few
  have k0 : 0 < ks.length := List.length_pos_iff.mpr hk.1
  have k1 := hk.2.1
  refine ⟨_, oLen_tupL, _, oLen_lstL, windN sp (by show _ ≤ (1000000000000 : Int); omega) (by omega) (by omega) fun i1 ys1 h1 sp1 => ⟨_, rfl, _, oIx_lstL (by omega), ?_⟩⟩
  refine windN sp1 (by show _ ≤ (1000000000000 : Int); omega) (by omega) (by omega) fun i2 ys2 h2 sp2 => ⟨_, rfl, _, rfl, ?_⟩
  refine windN sp2 (by show _ ≤ (1000000000000 : Int); omega) (by omega) (by omega) fun i3 ys3 h3 sp3 => ⟨_, rfl, _, rfl, _, rfl, by omega, ?_⟩
  refine windN sp3 (by show _ ≤ (1000000000000 : Int); omega) (by omega) (by omega) fun i4 ys4 h4 sp4 => ⟨_, rfl, ?_⟩
  obtain ⟨x, ex, x0, x1⟩ := pick3 (P := fun x => 0 ≤ x ∧ x < (r.length : Int)) (a := (i2 : Int)) (b := if (i3 : Int) < (r.length : Int) - 1 then (i3 : Int) else (r.length : Int) - 1) (c := (r.length : Int) - 1) h4 ⟨by omega, h2⟩ (by split <;> constructor <;> omega) (by constructor <;> omega)
  obtain ⟨p, rfl⟩ : ∃ p : Nat, x = p := ⟨x.toNat, by omega⟩
  refine ⟨_, ex, ?_⟩
  have hin : ks.getD i1 "" ∈ ks := by rw [getD_of (by omega)]; exact List.getElem_mem _
  generalize ks.getD i1 "" = kd at hin ⊢
  have hw := hk.2.2 kd hin
  simp only [words, List.mem_cons, List.not_mem_nil, or_false] at hw
  have hp : p < r.length := by omega
  rcases hw with rfl | rfl | rfl | rfl | rfl
  · (simp only [Ev.d, TN.ix0, TN.ix1, TN.ix2, TN.ixl0, TN.ixl1, TN.ixl2, TN.ixm2, TN.ixm3, TN.len2, TN.len3, TN.neg1, TN.ty_tup, TN.ty_lst, TN.ty_str, TN.ty_int, TN.oLen_tupL, TN.oLen_lstL, TN.oU_int, TN.oEq_int, TN.oNe_int, decide_true, Bool.not_true, Bool.not_false, reduceCtorEq, Option.some.injEq, PyData.int.injEq, PyData.str.injEq, PyData.bool.injEq, PyData.list.injEq, PyData.tuple.injEq, exists_eq_left', TN.imp_ff, TN.imp_tf, TN.imp_tt, true_and, and_true, forall_const, true_implies, false_implies, TN.w_place_place, TN.n_place_place, TN.w_place_name, TN.n_place_name, TN.w_place_lost, TN.n_place_lost, TN.w_place_twice, TN.n_place_twice, TN.w_place_as, TN.n_place_as, TN.w_name_place, TN.n_name_place, TN.w_name_name, TN.n_name_name, TN.w_name_lost, TN.n_name_lost, TN.w_name_twice, TN.n_name_twice, TN.w_name_as, TN.n_name_as, TN.w_lost_place, TN.n_lost_place, TN.w_lost_name, TN.n_lost_name, TN.w_lost_lost, TN.n_lost_lost, TN.w_lost_twice, TN.n_lost_twice, TN.w_lost_as, TN.n_lost_as, TN.w_twice_place, TN.n_twice_place, TN.w_twice_name, TN.n_twice_name, TN.w_twice_lost, TN.n_twice_lost, TN.w_twice_twice, TN.n_twice_twice, TN.w_twice_as, TN.n_twice_as, TN.w_as_place, TN.n_as_place, TN.w_as_name, TN.n_as_name, TN.w_as_lost, TN.n_as_lost, TN.w_as_twice, TN.n_as_twice, TN.w_as_as, TN.n_as_as])
    exact ⟨by omega, q (.place p) _ hp (.inl hin) (sp4.up (by omega))⟩
  · (simp only [Ev.d, TN.ix0, TN.ix1, TN.ix2, TN.ixl0, TN.ixl1, TN.ixl2, TN.ixm2, TN.ixm3, TN.len2, TN.len3, TN.neg1, TN.ty_tup, TN.ty_lst, TN.ty_str, TN.ty_int, TN.oLen_tupL, TN.oLen_lstL, TN.oU_int, TN.oEq_int, TN.oNe_int, decide_true, Bool.not_true, Bool.not_false, reduceCtorEq, Option.some.injEq, PyData.int.injEq, PyData.str.injEq, PyData.bool.injEq, PyData.list.injEq, PyData.tuple.injEq, exists_eq_left', TN.imp_ff, TN.imp_tf, TN.imp_tt, true_and, and_true, forall_const, true_implies, false_implies, TN.w_place_place, TN.n_place_place, TN.w_place_name, TN.n_place_name, TN.w_place_lost, TN.n_place_lost, TN.w_place_twice, TN.n_place_twice, TN.w_place_as, TN.n_place_as, TN.w_name_place, TN.n_name_place, TN.w_name_name, TN.n_name_name, TN.w_name_lost, TN.n_name_lost, TN.w_name_twice, TN.n_name_twice, TN.w_name_as, TN.n_name_as, TN.w_lost_place, TN.n_lost_place, TN.w_lost_name, TN.n_lost_name, TN.w_lost_lost, TN.n_lost_lost, TN.w_lost_twice, TN.n_lost_twice, TN.w_lost_as, TN.n_lost_as, TN.w_twice_place, TN.n_twice_place, TN.w_twice_name, TN.n_twice_name, TN.w_twice_lost, TN.n_twice_lost, TN.w_twice_twice, TN.n_twice_twice, TN.w_twice_as, TN.n_twice_as, TN.w_as_place, TN.n_as_place, TN.w_as_name, TN.n_as_name, TN.w_as_lost, TN.n_as_lost, TN.w_as_twice, TN.n_as_twice, TN.w_as_as, TN.n_as_as])
    refine ⟨_, oIx_tupL hp, by omega, q (.name (r.getD p "")) _ ?_ (.inl hin) (sp4.up (by omega))⟩
    rw [getD_of hp]; exact List.getElem_mem _
  · (simp only [Ev.d, TN.ix0, TN.ix1, TN.ix2, TN.ixl0, TN.ixl1, TN.ixl2, TN.ixm2, TN.ixm3, TN.len2, TN.len3, TN.neg1, TN.ty_tup, TN.ty_lst, TN.ty_str, TN.ty_int, TN.oLen_tupL, TN.oLen_lstL, TN.oU_int, TN.oEq_int, TN.oNe_int, decide_true, Bool.not_true, Bool.not_false, reduceCtorEq, Option.some.injEq, PyData.int.injEq, PyData.str.injEq, PyData.bool.injEq, PyData.list.injEq, PyData.tuple.injEq, exists_eq_left', TN.imp_ff, TN.imp_tf, TN.imp_tt, true_and, and_true, forall_const, true_implies, false_implies, TN.w_place_place, TN.n_place_place, TN.w_place_name, TN.n_place_name, TN.w_place_lost, TN.n_place_lost, TN.w_place_twice, TN.n_place_twice, TN.w_place_as, TN.n_place_as, TN.w_name_place, TN.n_name_place, TN.w_name_name, TN.n_name_name, TN.w_name_lost, TN.n_name_lost, TN.w_name_twice, TN.n_name_twice, TN.w_name_as, TN.n_name_as, TN.w_lost_place, TN.n_lost_place, TN.w_lost_name, TN.n_lost_name, TN.w_lost_lost, TN.n_lost_lost, TN.w_lost_twice, TN.n_lost_twice, TN.w_lost_as, TN.n_lost_as, TN.w_twice_place, TN.n_twice_place, TN.w_twice_name, TN.n_twice_name, TN.w_twice_lost, TN.n_twice_lost, TN.w_twice_twice, TN.n_twice_twice, TN.w_twice_as, TN.n_twice_as, TN.w_as_place, TN.n_as_place, TN.w_as_name, TN.n_as_name, TN.w_as_lost, TN.n_as_lost, TN.w_as_twice, TN.n_as_twice, TN.w_as_as, TN.n_as_as])
    exact ⟨by omega, q (.lost p) _ hp (.inl hin) (sp4.up (by omega))⟩
  · (simp only [Ev.d, TN.ix0, TN.ix1, TN.ix2, TN.ixl0, TN.ixl1, TN.ixl2, TN.ixm2, TN.ixm3, TN.len2, TN.len3, TN.neg1, TN.ty_tup, TN.ty_lst, TN.ty_str, TN.ty_int, TN.oLen_tupL, TN.oLen_lstL, TN.oU_int, TN.oEq_int, TN.oNe_int, decide_true, Bool.not_true, Bool.not_false, reduceCtorEq, Option.some.injEq, PyData.int.injEq, PyData.str.injEq, PyData.bool.injEq, PyData.list.injEq, PyData.tuple.injEq, exists_eq_left', TN.imp_ff, TN.imp_tf, TN.imp_tt, true_and, and_true, forall_const, true_implies, false_implies, TN.w_place_place, TN.n_place_place, TN.w_place_name, TN.n_place_name, TN.w_place_lost, TN.n_place_lost, TN.w_place_twice, TN.n_place_twice, TN.w_place_as, TN.n_place_as, TN.w_name_place, TN.n_name_place, TN.w_name_name, TN.n_name_name, TN.w_name_lost, TN.n_name_lost, TN.w_name_twice, TN.n_name_twice, TN.w_name_as, TN.n_name_as, TN.w_lost_place, TN.n_lost_place, TN.w_lost_name, TN.n_lost_name, TN.w_lost_lost, TN.n_lost_lost, TN.w_lost_twice, TN.n_lost_twice, TN.w_lost_as, TN.n_lost_as, TN.w_twice_place, TN.n_twice_place, TN.w_twice_name, TN.n_twice_name, TN.w_twice_lost, TN.n_twice_lost, TN.w_twice_twice, TN.n_twice_twice, TN.w_twice_as, TN.n_twice_as, TN.w_as_place, TN.n_as_place, TN.w_as_name, TN.n_as_name, TN.w_as_lost, TN.n_as_lost, TN.w_as_twice, TN.n_as_twice, TN.w_as_as, TN.n_as_as])
    exact ⟨by omega, q (.twice p) _ hp (.inl hin) (sp4.up (by omega))⟩
  · (simp only [Ev.d, TN.ix0, TN.ix1, TN.ix2, TN.ixl0, TN.ixl1, TN.ixl2, TN.ixm2, TN.ixm3, TN.len2, TN.len3, TN.neg1, TN.ty_tup, TN.ty_lst, TN.ty_str, TN.ty_int, TN.oLen_tupL, TN.oLen_lstL, TN.oU_int, TN.oEq_int, TN.oNe_int, decide_true, Bool.not_true, Bool.not_false, reduceCtorEq, Option.some.injEq, PyData.int.injEq, PyData.str.injEq, PyData.bool.injEq, PyData.list.injEq, PyData.tuple.injEq, exists_eq_left', TN.imp_ff, TN.imp_tf, TN.imp_tt, true_and, and_true, forall_const, true_implies, false_implies, TN.w_place_place, TN.n_place_place, TN.w_place_name, TN.n_place_name, TN.w_place_lost, TN.n_place_lost, TN.w_place_twice, TN.n_place_twice, TN.w_place_as, TN.n_place_as, TN.w_name_place, TN.n_name_place, TN.w_name_name, TN.n_name_name, TN.w_name_lost, TN.n_name_lost, TN.w_name_twice, TN.n_name_twice, TN.w_name_as, TN.n_name_as, TN.w_lost_place, TN.n_lost_place, TN.w_lost_name, TN.n_lost_name, TN.w_lost_lost, TN.n_lost_lost, TN.w_lost_twice, TN.n_lost_twice, TN.w_lost_as, TN.n_lost_as, TN.w_twice_place, TN.n_twice_place, TN.w_twice_name, TN.n_twice_name, TN.w_twice_lost, TN.n_twice_lost, TN.w_twice_twice, TN.n_twice_twice, TN.w_twice_as, TN.n_twice_as, TN.w_as_place, TN.n_as_place, TN.w_as_name, TN.n_as_name, TN.w_as_lost, TN.n_as_lost, TN.w_as_twice, TN.n_as_twice, TN.w_as_as, TN.n_as_as])
    refine ⟨fun h => ?_, fun h => ?_⟩
    · exact ⟨by omega, q (.place 0) _ r0 (.inr rfl) (sp4.up (by omega))⟩
    · have h : ¬ ((r.length : Int) = 1) := of_decide_eq_false h
      refine ⟨_, rfl, _, rfl, windN sp4 (by show _ ≤ (1000000000000 : Int); omega) (by omega) (by omega) fun j ys5 hj sp5 => ⟨_, rfl, _, rfl, _, oMod_p (by omega), by omega, ?_⟩⟩
      have e : ((p : Int) + 1 + j) % (r.length : Int) = (((p + 1 + j) % r.length : Nat) : Int) := by rw [Int.natCast_emod]; rfl
      rw [e]
      have ne : p ≠ (p + 1 + j) % r.length := by
        by_cases hl : p + 1 + j < r.length
        · rw [Nat.mod_eq_of_lt hl]; omega
        · rw [Nat.mod_eq_sub_mod (by omega), Nat.mod_eq_of_lt (by omega)]; omega
      exact q (.as' p ((p + 1 + j) % r.length)) _ ⟨hp, Nat.mod_lt _ r0, ne⟩ (.inl hin) (sp5.up (by omega))

abbrev s__law_events : Stmt := topS 46
theorem sc__law_events : FnScope ["spool", "row", "most", "kinds", "k"] ["spool", "row", "most", "kinds"] (defScope s__law_events) := ⟨rfl, rfl, rfl, by decide +kernel, rfl, by decide +kernel, by decide +kernel⟩
theorem ok__law_events (b : Blt mg) (h__law_wind : Has P w K mg base "_law_wind" 1 ["spool", "wide"] (spB K semWind)) (h__law_event : Has P w K mg base "_law_event" 2 ["spool", "row", "kinds"] (spB K semEvent)) {f : Addr} {fd : FuncData} (F : Fun K "_law_events" "_law_events" s__law_events f fd) : FnG P w K mg base CX0 3 f fd ["spool", "row", "most", "kinds"] (spB K semEventsO) := by
  refine fnB (k := 2) F sc__law_events (fun xs ds Q h => by obtain ⟨n, m, r, ks, _, _, rfl, _⟩ := h; rfl) (fun cdv A outer s H E hg hr =>
    have nd := sc__law_events.nd
    have hu := hr.units
    have hu1 := hu_of hr
    (pss_one (ps_ret (pe_lc (own := [("k", 4)]) (g := gName 4) (tt := tYes) rfl nd (pi_range1 (by rfl) b.range (pa_cons (pe_has (h__law_wind.up (by decide)) hg hr (by rfl) (pa_cons (pv 0) (pa_cons (pe_op op_addU (pv 2) pe_int) pa_nil))) pa_nil)) (blkOk_by (own := [("k", 4)]) (N := ["spool", "row", "most", "kinds", "k"]) (sc := defScope s__law_events) (by decide +kernel)) (fun _ _ _ _ _ => pg_name (i := 4) nd rfl (by first | exact Or.inl rfl | exact Or.inr rfl)) (fun _ _ _ _ _ => by exact pts_nil) (fun _ _ _ _ _ => by exact (pe_has (h__law_event.up (by decide)) hg hr (by rfl) (pa_cons (pv 0) (pa_cons (pv 1) (pa_cons (pv 3) pa_nil)))))))))
    (ls_retL (ll_compR (j := 4) (vs := [4]) (by decide) (by decide) (les_cons (le_callB (j := 0) (les_cons (LP.e (lp_op (LP.m (lp_var (i := 2))) (LP.m lp_int) rb_add)) les_nil)) les_nil) lt_yes (le_callB (j := 0) (les_cons (LP.e (lp_var (i := 1))) (les_cons (LP.e (lp_var (i := 3))) les_nil))))) ?_
  rintro xs ds Q ⟨n, m, r, ks, sp, hn, rfl, m0, m1, hr, hk, q⟩
  unfold dCompR
  (simp only [TN.sSeq, TN.sNext, TN.sDrop, TN.sRet, TN.sRetL, TN.sRetN, TN.sIf, TN.sAsg, TN.sAsgL, TN.sStore, TN.sForL, TN.sForT, TN.sForR, TN.sForR2, TN.tgN, TN.tgTup, TN.tgCons, TN.tgNil, TN.dP, TN.dB, TN.dCall, TN.dCallL, TN.dCallB, TN.dCallBL, TN.dCons, TN.dNil, TN.dTup, TN.dLst, TN.dKeep, TN.dVar, TN.fVar, TN.fPeek, TN.fC, TN.f2, TN.d2, TN.d2V, TN.f1, TN.d1, TN.fCB, TN.dCB, TN.dCBL, TN.fNil, TN.fCons, TN.asBool, TN.dTest, TN.bAnd, TN.bOr, TN.bNot, TN.dAnd, TN.dOr, TN.dNot, TN.fAndV, TN.fOrV, TN.fNotV, TN.dAndV, TN.dOrV, TN.dNotV, TN.dIfE, TN.dIfL, TN.fIfE, TN.fChain, TN.fSlice, TN.dSlice, TN.fNo, TN.fEnd, TN.dAppend, TN.dInsert, TN.dPopAt, TN.ownL, TN.start0, TN.begB, TN.backD, TN.wipeD, TN.dYes, TN.sNever, List.getElem?_cons_zero, List.getElem?_cons_succ, List.set_cons_zero, List.set_cons_succ, List.map_cons, List.map_nil, List.length_cons, List.length_nil, List.cons_append, List.nil_append, List.replicate_succ, List.replicate_zero, Option.map_some, Option.map_none, Nat.add_one_sub_one, Nat.sub_zero, Nat.sub_self, Nat.zero_add, reduceCtorEq, Option.some.injEq, PyData.int.injEq, PyData.str.injEq, PyData.bool.injEq, PyData.list.injEq, PyData.tuple.injEq, Sl.sh.injEq, Sl.ow.injEq, List.cons.injEq, exists_eq_left', exists_eq_left, true_implies, false_implies, and_true, true_and, forall_const, Option.isSome_some, TN.imp_ff, TN.imp_tf, TN.imp_tt, exists_eq_left, exists_eq_left', exists_eq])
  have hb : n + 3000 ≤ 1000000000000 := hn
  refine ⟨_, oAdd_int, windN sp (by show n ≤ 1000000000000; omega) (by omega) (by omega) fun k ys hk2 sp1 => ⟨_, rfl, _, rfl, by omega, by omega, ?_⟩⟩
  refine ev_turns hr hk _ [] ys _ sp1 (by rw [rangeD_len]; show _ ≤ (1000000000000 : Int); omega) (by rw [rangeD_len]; simp; omega) (by simp) fun es ys' h1 h2 sp2 => ?_
  rw [rangeD_len] at h2 sp2
  simp at h2
  exact ⟨_, rfl, q es ys' h1 (by omega) (sp2.up (by omega))⟩

abbrev s__law_front : Stmt := topS 47
theorem sc__law_front : FnScope ["line", "at"] ["line", "at"] (defScope s__law_front) := ⟨rfl, rfl, rfl, by decide +kernel, rfl, by decide +kernel, by decide +kernel⟩
theorem ok__law_front (b : Blt mg) {f : Addr} {fd : FuncData} (F : Fun K "_law_front" "_law_front" s__law_front f fd) : FnG P w K mg base CX0 1 f fd ["line", "at"] (spB K semFrontBD) := by
  refine fnB (k := 0) F sc__law_front (fun xs ds Q h => by obtain ⟨p, rfl, _⟩ := h; rfl) (fun cdv A outer s H E hg hr =>
    have nd := sc__law_front.nd
    have hu := hr.units
    have hu1 := hu_of hr
    (pss_cons (ps_expr (by exact (pe_bm PySem.F.plainAttrs_list PySem.F.slot_list_insert PySem.F.type_list_insert mt_insert (pv 0) (pa_cons pe_int (pa_cons (pe_bm PySem.F.plainAttrs_list PySem.F.slot_list_pop PySem.F.type_list_pop mt_popAt (pv 0) (pa_cons (pv 1) pa_nil)) pa_nil)))))
 (pss_one (ps_ret (pe_ix ix_seq (pv 0) pe_int (fun _ _ => rfl))))))
    (ls_seq (ls_drop (le_insert (j := 0) (LP.e lp_int) (le_popAt (j := 0) (LP.e (lp_var (i := 1))))))
 (ls_ret (LP.e (lp_op (lm_peek (i := 0)) (LP.m lp_int) rb_ix)))) ?_
  rintro xs ds Q ⟨p, rfl, hp, few, q⟩
  (simp only [TN.dCallO, TN.dCallOI, TN.dCallNO, TN.oVar, TN.sCut, TN.tgLst, TN.iK, TN.iV, TN.iLT, TN.pNew, TN.dCallN, TN.dCompI2, TN.dLAddE, TN.oD, TN.sDNew, TN.sPutD, TN.fGetO, TN.fGetO2, TN.fInO, TN.fNinO, TN.dVarD, TN.dExtS, TN.mOwn, TN.dCallM, TN.mVar, TN.sRetV, TN.dAug, TN.dCallNT, TN.dCallNL, TN.fIxTs, TN.sForI, TN.dCompI, TN.dCompL, TN.dCompT, TN.dCompR, TN.iL, TN.iT, TN.iR1, TN.iR2, TN.iR3, TN.iS, TN.iE, TN.iRv, TN.iZ, TN.dKeepT, TN.dCallT, TN.pTup, TN.pCons, TN.pOwn, TN.sAsgT, TN.sRetT, TN.tpL, TN.fIxT, TN.fTp, TN.dAppendT, TN.dReverseT, TN.dClearT, TN.dVarT, TN.dReverse, TN.dClear, TN.dPop, Pt.d, Sl.tp.injEq, TN.startF, TN.dCallV, Sl.fn.injEq, TN.dCallF, TN.dLRev, TN.dLAdd, TN.dLSlP, TN.dLSlice, TN.dSliceE, TN.dNo, TN.dEnd, TN.fNo, TN.sSeq, TN.sNext, TN.sDrop, TN.sRet, TN.sRetL, TN.sRetN, TN.sIf, TN.sAsg, TN.sAsgL, TN.sStore, TN.sForL, TN.sForT, TN.sForR, TN.sForR2, TN.tgN, TN.tgTup, TN.tgCons, TN.tgNil, TN.dP, TN.dB, TN.dCall, TN.dCallL, TN.dCallB, TN.dCallBL, TN.dCons, TN.dNil, TN.dTup, TN.dLst, TN.dKeep, TN.dVar, TN.fVar, TN.fPeek, TN.fC, TN.f2, TN.d2, TN.d2V, TN.f1, TN.d1, TN.fCB, TN.dCB, TN.dCBL, TN.fNil, TN.fCons, TN.asBool, TN.dTest, TN.bAnd, TN.bOr, TN.bNot, TN.dAnd, TN.dOr, TN.dNot, TN.fAndV, TN.fOrV, TN.fNotV, TN.dAndV, TN.dOrV, TN.dNotV, TN.dIfE, TN.dIfL, TN.fIfE, TN.fChain, TN.fSlice, TN.dSlice, TN.fNo, TN.fEnd, TN.dAppend, TN.dInsert, TN.dPopAt, TN.ownL, TN.start0, TN.begB, TN.backD, TN.wipeD, TN.dYes, TN.sNever, List.getElem?_cons_zero, List.getElem?_cons_succ, List.set_cons_zero, List.set_cons_succ, List.map_cons, List.map_nil, List.length_cons, List.length_nil, List.cons_append, List.nil_append, List.replicate_succ, List.replicate_zero, Option.map_some, Option.map_none, Nat.add_one_sub_one, Nat.sub_zero, Nat.sub_self, Nat.zero_add, reduceCtorEq, Option.some.injEq, PyData.int.injEq, PyData.str.injEq, PyData.bool.injEq, PyData.list.injEq, PyData.tuple.injEq, Sl.sh.injEq, Sl.ow.injEq, List.cons.injEq, exists_eq_left', exists_eq_left, true_implies, false_implies, and_true, true_and, forall_const, Option.isSome_some, TN.imp_ff, TN.imp_tf, TN.imp_tt, exists_eq_left, exists_eq_left', exists_eq])
  have le := List.length_eraseIdx_le xs p
  refine ⟨_, _, p, xs[p], rfl, by omega, rfl, ixN_nat hp, List.getElem?_eq_getElem hp, _, _, rfl, by omega, rfl, by omega, by omega, ?_⟩
  have e : List.take (0 : Int).toNat (xs.eraseIdx p) ++ xs[p] :: List.drop (0 : Int).toNat (xs.eraseIdx p) = toA xs p := by
    unfold toA
    rw [List.getElem?_eq_getElem hp, List.eraseIdx_eq_take_drop_succ]; rfl
  have e2 : toA xs p = xs[p] :: (xs.take p ++ xs.drop (p + 1)) := by
    unfold toA
    rw [List.getElem?_eq_getElem hp]; rfl
  have e3 : xs.getD p .none = xs[p] := by rw [List.getD_eq_getElem?_getD, List.getElem?_eq_getElem hp]; rfl
  rw [e]
  rw [e3] at q
  exact ⟨_, by rw [e2]; exact ix_head, q⟩

abbrev s__law_led : Stmt := topS 48
theorem sc__law_led : FnScope ["both", "happened", "event", "tells", "hears", "spoken", "read", "turn", "at", "there"] ["both", "happened"] (defScope s__law_led) := ⟨rfl, rfl, rfl, by decide +kernel, rfl, by decide +kernel, by decide +kernel⟩
theorem ok__law_led (b : Blt mg) (h__law_front : Has P w K mg base "_law_front" 1 ["line", "at"] (spB K semFrontBD)) {f : Addr} {fd : FuncData} (F : Fun K "_law_led" "_law_led" s__law_led f fd) : FnG P w K mg base CX0 2 f fd ["both", "happened"] (sp0 K semLedD) := by
  refine fn0 (k := 1) F sc__law_led (fun ds Q h => by obtain ⟨t, x, es, rfl, _⟩ := h; rfl) (fun cdv A outer s H E hg hr =>
    have nd := sc__law_led.nd
    have hu := hr.units
    have hu1 := hu_of hr
    (pss_cons (ps_par (i := 3) (j := 4) rfl nd rfl rfl (by decide) rfl rfl (pa_cons (pe_callTy (call_listU rfl) (by rfl) b.list (by decide +kernel) (pa_cons (pe_ix ix_seq (pv 0) pe_int (fun _ _ => rfl)) pa_nil)) (pa_cons (pe_callTy (call_listU rfl) (by rfl) b.list (by decide +kernel) (pa_cons (pe_ix ix_seq (pv 0) pe_int (fun _ _ => rfl)) pa_nil)) pa_nil)) (by rfl))
 (pss_cons (ps_par (i := 5) (j := 6) rfl nd rfl rfl (by decide) rfl rfl (pa_cons (pe_lst pa_nil) (pa_cons (pe_lst pa_nil) pa_nil)) (by rfl))
 (pss_cons (ps_for PassesOwn.never rfl (pi_list (pv 1)) (pg_name (i := 2) nd rfl (by first | exact Or.inl rfl | exact Or.inr rfl)) (pss_cons (ps_par (i := 8) (j := 9) rfl nd rfl rfl (by decide) rfl rfl (pa_cons (pe_ix ix_seq (pv 2) pe_int (fun _ _ => rfl)) (pa_cons (pe_ix ix_seq (pv 2) (pe_un un_neg pe_int) (fun _ _ => rfl)) pa_nil)) (by rfl))
 (pss_cons (ps_if (pt_cmpR (op_eqD hu) (pe_ix ix_seq (pv 2) pe_int (fun _ _ => rfl)) pe_str (nomark _)) (pss_one (ps_par (i := 8) (j := 9) rfl nd rfl rfl (by decide) rfl rfl (pa_cons (pe_bm PySem.F.plainAttrs_list PySem.F.slot_list_index PySem.F.type_list_index mt_index (pv 3) (pa_cons (pe_ix ix_seq (pv 2) pe_int (fun _ _ => rfl)) pa_nil)) (pa_cons (pe_bm PySem.F.plainAttrs_list PySem.F.slot_list_index PySem.F.type_list_index mt_index (pv 4) (pa_cons (pe_ix ix_seq (pv 2) pe_int (fun _ _ => rfl)) pa_nil)) pa_nil)) (by rfl))) pss_nil)
 (pss_cons (ps_expr (by exact (pe_bm PySem.F.plainAttrs_list PySem.F.slot_list_append PySem.F.type_list_append mt_append (pv 5) (pa_cons (pe_has (h__law_front.up (by decide)) hg hr (by rfl) (pa_cons (pv 3) (pa_cons (pv 8) pa_nil))) pa_nil))))
 (pss_one (ps_for PassesOwn.never rfl (pi_range1 (by rfl) b.range (pa_cons (pe_dget2 hu1 (pe_disp (pps_cons pe_str pe_int (pps_cons pe_str pe_int pps_nil)) (by rfl) (by rfl) (fun z => by cases z) (by decide)) (pe_ix ix_seq (pv 2) pe_int (fun _ _ => rfl)) pe_int ⟨by rfl, by rfl, by rfl, by rfl⟩) pa_nil)) (pg_name (i := 7) nd rfl (by first | exact Or.inl rfl | exact Or.inr rfl)) (pss_one (ps_expr (by exact (pe_bm PySem.F.plainAttrs_list PySem.F.slot_list_append PySem.F.type_list_append mt_append (pv 6) (pa_cons (pe_has (h__law_front.up (by decide)) hg hr (by rfl) (pa_cons (pv 4) (pa_cons (pv 9) pa_nil))) pa_nil)))))))))))
 (pss_one (ps_ret (pe_tupX (pa_cons (pe_tupX (pa_cons (pe_callTy call_tupleX (by rfl) b.tuple (by decide +kernel) (pa_cons (pv 3) pa_nil)) (pa_cons (pe_callTy call_tupleX (by rfl) b.tuple (by decide +kernel) (pa_cons (pv 4) pa_nil)) pa_nil))) (pa_cons (pv 5) (pa_cons (pv 6) pa_nil))))))))))
    (ls_seq (ls_parLL (i := 3) (j := 4) (by decide) (by decide) (by decide) (ll_cb (les_cons (LP.e (lp_op (LP.m (lp_var (i := 0))) (LP.m lp_int) rb_ix)) les_nil) rc_list) (ll_cb (les_cons (LP.e (lp_op (LP.m (lp_var (i := 0))) (LP.m lp_int) rb_ix)) les_nil) rc_list))
 (ls_seq (ls_parLL (i := 5) (j := 6) (by decide) (by decide) (by decide) (ll_lst les_nil) (ll_lst les_nil))
 (ls_seq (ls_forL (LP.e (lp_var (i := 1))) (lg_name (i := 2) (by decide)) (ls_seq (ls_parEE (i := 8) (j := 9) (by decide) (by decide) (les_cons (LP.e (lp_op (LP.m (lp_var (i := 2))) (LP.m lp_int) rb_ix)) (les_cons (LP.e (lp_op (LP.m (lp_var (i := 2))) (LP.m (lp_un (LP.m lp_int) ru_neg)) rb_ix)) les_nil)))
 (ls_seq (ls_if (LB.g (lb_test (LP.m (lp_op (LP.m (lp_op (LP.m (lp_var (i := 2))) (LP.m lp_int) rb_ix)) (LP.m lp_str) rb_eq)))) (ls_parEE (i := 8) (j := 9) (by decide) (by decide) (les_cons (LP.e (lp_lindex (lm_peek (i := 3)) (LP.m (lp_op (LP.m (lp_var (i := 2))) (LP.m lp_int) rb_ix)))) (les_cons (LP.e (lp_lindex (lm_peek (i := 4)) (LP.m (lp_op (LP.m (lp_var (i := 2))) (LP.m lp_int) rb_ix)))) les_nil))) ls_next)
 (ls_seq (ls_drop (le_append (j := 5) (le_callB (j := 3) (les_cons (LP.e (lp_var (i := 8))) les_nil))))
 (ls_forR (les_cons (LP.e (lp_getLit [("lost", 0), ("twice", 2)] (by decide) (by decide +kernel) (LP.m (lp_op (LP.m (lp_var (i := 2))) (LP.m lp_int) rb_ix)) (LP.m lp_int))) les_nil) (lg_name (i := 7) (by decide)) (ls_drop (le_append (j := 6) (le_callB (j := 4) (les_cons (LP.e (lp_var (i := 9))) les_nil)))))))))
 (ls_ret (le_tup (les_cons (le_tup (les_cons (LP.e (lp_cb (lms_cons (lm_peek (i := 3)) lms_nil) rc_tuple)) (les_cons (LP.e (lp_cb (lms_cons (lm_peek (i := 4)) lms_nil) rc_tuple)) les_nil))) (les_cons (le_var (i := 5) (by decide)) (les_cons (le_var (i := 6) (by decide)) les_nil)))))))) ?_
  rintro ds Q ⟨t, h, es, rfl, tf, hl, ok, few, q⟩
  have px0 : oIx (.tuple [.tuple t, .tuple h]) (.int 0) = some (.tuple t) := ix0
  have px1 : oIx (.tuple [.tuple t, .tuple h]) (.int 1) = some (.tuple h) := ix1
  have ot : ∀ r : List D, oList [.tuple r] = some r := fun _ => rfl
  have lf : ∀ r : List D, oTuple [.list r] = some (.tuple r) := fun _ => rfl
  (simp only [TN.sRetV, TN.dAug, TN.dCallNT, TN.dCallNL, TN.fIxTs, TN.sForI, TN.dCompI, TN.dCompL, TN.dCompT, TN.dCompR, TN.iL, TN.iT, TN.iR1, TN.iR2, TN.iR3, TN.iS, TN.iE, TN.iRv, TN.iZ, TN.dKeepT, TN.dCallT, TN.pTup, TN.pCons, TN.pOwn, TN.sAsgT, TN.sRetT, TN.tpL, TN.fIxT, TN.fTp, TN.dAppendT, TN.dReverseT, TN.dClearT, TN.dVarT, TN.dReverse, TN.dClear, TN.dPop, Pt.d, Sl.tp.injEq, TN.startF, TN.dCallV, Sl.fn.injEq, TN.dCallF, TN.dLRev, TN.dLAdd, TN.dLSlP, TN.dLSlice, TN.dSliceE, TN.dNo, TN.dEnd, TN.fNo, TN.sSeq, TN.sNext, TN.sDrop, TN.sRet, TN.sRetL, TN.sRetN, TN.sIf, TN.sAsg, TN.sAsgL, TN.sStore, TN.sForL, TN.sForT, TN.sForR, TN.sForR2, TN.tgN, TN.tgTup, TN.tgCons, TN.tgNil, TN.dP, TN.dB, TN.dCall, TN.dCallL, TN.dCallB, TN.dCallBL, TN.dCons, TN.dNil, TN.dTup, TN.dLst, TN.dKeep, TN.dVar, TN.fVar, TN.fPeek, TN.fC, TN.f2, TN.d2, TN.d2V, TN.f1, TN.d1, TN.fCB, TN.dCB, TN.dCBL, TN.fNil, TN.fCons, TN.asBool, TN.dTest, TN.bAnd, TN.bOr, TN.bNot, TN.dAnd, TN.dOr, TN.dNot, TN.fAndV, TN.fOrV, TN.fNotV, TN.dAndV, TN.dOrV, TN.dNotV, TN.dIfE, TN.dIfL, TN.fIfE, TN.fChain, TN.fSlice, TN.dSlice, TN.fNo, TN.fEnd, TN.dAppend, TN.dInsert, TN.dPopAt, TN.ownL, TN.start0, TN.begB, TN.backD, TN.wipeD, TN.dYes, TN.sNever, List.getElem?_cons_zero, List.getElem?_cons_succ, List.set_cons_zero, List.set_cons_succ, List.map_cons, List.map_nil, List.length_cons, List.length_nil, List.cons_append, List.nil_append, List.replicate_succ, List.replicate_zero, Option.map_some, Option.map_none, Nat.add_one_sub_one, Nat.sub_zero, Nat.sub_self, Nat.zero_add, reduceCtorEq, Option.some.injEq, PyData.int.injEq, PyData.str.injEq, PyData.bool.injEq, PyData.list.injEq, PyData.tuple.injEq, Sl.sh.injEq, Sl.ow.injEq, List.cons.injEq, exists_eq_left', exists_eq_left, true_implies, false_implies, and_true, true_and, forall_const, Option.isSome_some, TN.imp_ff, TN.imp_tf, TN.imp_tt, exists_eq_left, exists_eq_left', exists_eq])
  simp only [px0, px1, ot]
  refine ⟨_, rfl, _, rfl, _, rfl, _, rfl, by omega, by omega, ?_⟩
  refine forD_go Ev.d (fun ls ρ => ∃ (u v s w : List D) (b2 b7 b8 b9 : Sl), ρ = [.sh (.tuple [.tuple t, .tuple h]), .sh (.list (es.map Ev.d)), b2, .ow u, .ow v, .ow s, .ow w, b7, b8, b9] ∧ evsN u.length ls ∧ v.length = u.length ∧ u.length ≤ 16 ∧ s.length + ls.length ≤ 1000 ∧ w.length + 2 * ls.length ≤ 2000 ∧ (ledT t es).1 = (ledT u ls).1 ∧ (ledT t es).2 = s ++ (ledT u ls).2 ∧ (ledH h es).1 = (ledH v ls).1 ∧ (ledH h es).2 = w ++ (ledH v ls).2) ?_ ?_ es _ ⟨t, h, [], [], _, _, _, _, rfl, ok, hl, tf, by simp; omega, by simp; omega, rfl, rfl, rfl, rfl⟩
  rotate_left
  · rintro ρ ⟨u, v, s, w, b2, b7, b8, b9, rfl, _, _, _, _, _, e1, e2, e3, e4⟩
    rw [e1, e2, e3, e4] at q
    have q : Q (.sh (.tuple [.tuple [.tuple u, .tuple v], .list (s ++ []), .list (w ++ [])])) := q
    rw [List.append_nil, List.append_nil] at q
    (simp only [TN.sRetV, TN.dAug, TN.dCallNT, TN.dCallNL, TN.fIxTs, TN.sForI, TN.dCompI, TN.dCompL, TN.dCompT, TN.dCompR, TN.iL, TN.iT, TN.iR1, TN.iR2, TN.iR3, TN.iS, TN.iE, TN.iRv, TN.iZ, TN.dKeepT, TN.dCallT, TN.pTup, TN.pCons, TN.pOwn, TN.sAsgT, TN.sRetT, TN.tpL, TN.fIxT, TN.fTp, TN.dAppendT, TN.dReverseT, TN.dClearT, TN.dVarT, TN.dReverse, TN.dClear, TN.dPop, Pt.d, Sl.tp.injEq, TN.startF, TN.dCallV, Sl.fn.injEq, TN.dCallF, TN.dLRev, TN.dLAdd, TN.dLSlP, TN.dLSlice, TN.dSliceE, TN.dNo, TN.dEnd, TN.fNo, TN.sSeq, TN.sNext, TN.sDrop, TN.sRet, TN.sRetL, TN.sRetN, TN.sIf, TN.sAsg, TN.sAsgL, TN.sStore, TN.sForL, TN.sForT, TN.sForR, TN.sForR2, TN.tgN, TN.tgTup, TN.tgCons, TN.tgNil, TN.dP, TN.dB, TN.dCall, TN.dCallL, TN.dCallB, TN.dCallBL, TN.dCons, TN.dNil, TN.dTup, TN.dLst, TN.dKeep, TN.dVar, TN.fVar, TN.fPeek, TN.fC, TN.f2, TN.d2, TN.d2V, TN.f1, TN.d1, TN.fCB, TN.dCB, TN.dCBL, TN.fNil, TN.fCons, TN.asBool, TN.dTest, TN.bAnd, TN.bOr, TN.bNot, TN.dAnd, TN.dOr, TN.dNot, TN.fAndV, TN.fOrV, TN.fNotV, TN.dAndV, TN.dOrV, TN.dNotV, TN.dIfE, TN.dIfL, TN.fIfE, TN.fChain, TN.fSlice, TN.dSlice, TN.fNo, TN.fEnd, TN.dAppend, TN.dInsert, TN.dPopAt, TN.ownL, TN.start0, TN.begB, TN.backD, TN.wipeD, TN.dYes, TN.sNever, List.getElem?_cons_zero, List.getElem?_cons_succ, List.set_cons_zero, List.set_cons_succ, List.map_cons, List.map_nil, List.length_cons, List.length_nil, List.cons_append, List.nil_append, List.replicate_succ, List.replicate_zero, Option.map_some, Option.map_none, Nat.add_one_sub_one, Nat.sub_zero, Nat.sub_self, Nat.zero_add, reduceCtorEq, Option.some.injEq, PyData.int.injEq, PyData.str.injEq, PyData.bool.injEq, PyData.list.injEq, PyData.tuple.injEq, Sl.sh.injEq, Sl.ow.injEq, List.cons.injEq, exists_eq_left', exists_eq_left, true_implies, false_implies, and_true, true_and, forall_const, Option.isSome_some, TN.imp_ff, TN.imp_tf, TN.imp_tt, exists_eq_left, exists_eq_left', exists_eq])
    exact ⟨_, lf _, _, lf _, by omega, by omega, q⟩
  rintro e ls ρ E' ⟨u, v, s, w, b2, b7, b8, b9, rfl, okl, vl, uf, sl, wl, e1, e2, e3, e4⟩ nx _ _ _
  have oe := okl e List.mem_cons_self
  have pl := Ev.pl_lt oe
  have tl := Ev.tk_lt oe
  have t2 := Ev.tk_few e
  rw [List.length_cons] at sl wl
  have ul := toA_len pl
  have okr : evsN (toA u e.pl).length ls := by rw [ul]; exact fun x hx => okl x (List.mem_cons_of_mem _ hx)
  obtain ⟨vp, vw⟩ := takeA_perm e.tk v (by rw [vl]; exact tl)
  have ul1 : u[e.pl]?.toList = [u.getD e.pl .none] := by rw [List.getD_eq_getElem?_getD, List.getElem?_eq_getElem pl]; rfl
  have fin : ∀ c2 c7 c8 c9 : Sl, E'.nx [.sh (.tuple [.tuple t, .tuple h]), .sh (.list (es.map Ev.d)), c2, .ow (toA u e.pl), .ow (takeA v e.tk).1, .ow (s ++ [u.getD e.pl .none]), .ow (w ++ (takeA v e.tk).2), c7, c8, c9] := fun c2 c7 c8 c9 =>
    nx _ ⟨toA u e.pl, (takeA v e.tk).1, s ++ [u.getD e.pl .none], w ++ (takeA v e.tk).2, c2, c7, c8, c9, rfl, okr, by rw [ul, vp.length_eq]; exact vl, by omega, by rw [List.length_append, List.length_singleton]; omega, by rw [List.length_append, vw]; omega, e1, by rw [e2, List.append_assoc, ← ul1]; rfl, e3, by rw [e4, List.append_assoc]; rfl⟩
  have r0 : rangeD 0 (0 : Int).toNat = [] := rfl
  have r1 : rangeD 0 (1 : Int).toNat = [.int 0] := rfl
  have r2 : rangeD 0 (2 : Int).toNat = [.int 0, .int 1] := rfl
  have tg : ∀ (r : List D) (p : Nat), p < r.length → r[p]?.toList = [r.getD p .none] := fun r p hp => by rw [List.getD_eq_getElem?_getD, List.getElem?_eq_getElem hp]; rfl
  have fB : ∀ (r : List D) (p : Nat) (Q : Sl → List D → Prop), p < r.length → r.length ≤ 16 → Q (.sh (r.getD p .none)) (toA r p) → semFrontBD r [.int p] Q := fun r p Q h1 h2 k => ⟨p, rfl, h1, h2, k⟩
  cases e with
  | name x => cases oe
  | place p =>
    have hq : p < v.length := by rw [vl]; exact oe
    have ft : (takeA v (Ev.place p).tk).2 = [v.getD p .none] := by show v[p]?.toList ++ [] = _; rw [tg v p hq]; rfl
    (simp only [TN.sRetV, TN.dAug, TN.dCallNT, TN.dCallNL, TN.fIxTs, TN.sForI, TN.dCompI, TN.dCompL, TN.dCompT, TN.dCompR, TN.iL, TN.iT, TN.iR1, TN.iR2, TN.iR3, TN.iS, TN.iE, TN.iRv, TN.iZ, TN.dKeepT, TN.dCallT, TN.pTup, TN.pCons, TN.pOwn, TN.sAsgT, TN.sRetT, TN.tpL, TN.fIxT, TN.fTp, TN.dAppendT, TN.dReverseT, TN.dClearT, TN.dVarT, TN.dReverse, TN.dClear, TN.dPop, Pt.d, Sl.tp.injEq, TN.startF, TN.dCallV, Sl.fn.injEq, TN.dCallF, TN.dLRev, TN.dLAdd, TN.dLSlP, TN.dLSlice, TN.dSliceE, TN.dNo, TN.dEnd, TN.fNo, TN.sSeq, TN.sNext, TN.sDrop, TN.sRet, TN.sRetL, TN.sRetN, TN.sIf, TN.sAsg, TN.sAsgL, TN.sStore, TN.sForL, TN.sForT, TN.sForR, TN.sForR2, TN.tgN, TN.tgTup, TN.tgCons, TN.tgNil, TN.dP, TN.dB, TN.dCall, TN.dCallL, TN.dCallB, TN.dCallBL, TN.dCons, TN.dNil, TN.dTup, TN.dLst, TN.dKeep, TN.dVar, TN.fVar, TN.fPeek, TN.fC, TN.f2, TN.d2, TN.d2V, TN.f1, TN.d1, TN.fCB, TN.dCB, TN.dCBL, TN.fNil, TN.fCons, TN.asBool, TN.dTest, TN.bAnd, TN.bOr, TN.bNot, TN.dAnd, TN.dOr, TN.dNot, TN.fAndV, TN.fOrV, TN.fNotV, TN.dAndV, TN.dOrV, TN.dNotV, TN.dIfE, TN.dIfL, TN.fIfE, TN.fChain, TN.fSlice, TN.dSlice, TN.fNo, TN.fEnd, TN.dAppend, TN.dInsert, TN.dPopAt, TN.ownL, TN.start0, TN.begB, TN.backD, TN.wipeD, TN.dYes, TN.sNever, List.getElem?_cons_zero, List.getElem?_cons_succ, List.set_cons_zero, List.set_cons_succ, List.map_cons, List.map_nil, List.length_cons, List.length_nil, List.cons_append, List.nil_append, List.replicate_succ, List.replicate_zero, Option.map_some, Option.map_none, Nat.add_one_sub_one, Nat.sub_zero, Nat.sub_self, Nat.zero_add, reduceCtorEq, Option.some.injEq, PyData.int.injEq, PyData.str.injEq, PyData.bool.injEq, PyData.list.injEq, PyData.tuple.injEq, Sl.sh.injEq, Sl.ow.injEq, List.cons.injEq, exists_eq_left', exists_eq_left, true_implies, false_implies, and_true, true_and, forall_const, Option.isSome_some, TN.imp_ff, TN.imp_tf, TN.imp_tt, exists_eq_left, exists_eq_left', exists_eq]); (simp only [Ev.d, TN.ix0, TN.ix1, TN.ix2, TN.ixl0, TN.ixl1, TN.ixl2, TN.ixm2, TN.ixm3, TN.len2, TN.len3, TN.neg1, TN.ty_tup, TN.ty_lst, TN.ty_str, TN.ty_int, TN.oLen_tupL, TN.oLen_lstL, TN.oU_int, TN.oEq_int, TN.oNe_int, decide_true, Bool.not_true, Bool.not_false, reduceCtorEq, Option.some.injEq, PyData.int.injEq, PyData.str.injEq, PyData.bool.injEq, PyData.list.injEq, PyData.tuple.injEq, exists_eq_left', TN.imp_ff, TN.imp_tf, TN.imp_tt, true_and, and_true, forall_const, true_implies, false_implies, TN.w_place_place, TN.n_place_place, TN.w_place_name, TN.n_place_name, TN.w_place_lost, TN.n_place_lost, TN.w_place_twice, TN.n_place_twice, TN.w_place_as, TN.n_place_as, TN.w_name_place, TN.n_name_place, TN.w_name_name, TN.n_name_name, TN.w_name_lost, TN.n_name_lost, TN.w_name_twice, TN.n_name_twice, TN.w_name_as, TN.n_name_as, TN.w_lost_place, TN.n_lost_place, TN.w_lost_name, TN.n_lost_name, TN.w_lost_lost, TN.n_lost_lost, TN.w_lost_twice, TN.n_lost_twice, TN.w_lost_as, TN.n_lost_as, TN.w_twice_place, TN.n_twice_place, TN.w_twice_name, TN.n_twice_name, TN.w_twice_lost, TN.n_twice_lost, TN.w_twice_twice, TN.n_twice_twice, TN.w_twice_as, TN.n_twice_as, TN.w_as_place, TN.n_as_place, TN.w_as_name, TN.n_as_name, TN.w_as_lost, TN.n_as_lost, TN.w_as_twice, TN.n_as_twice, TN.w_as_as, TN.n_as_as])
    simp only [lit_place]
    refine ⟨_, _, ⟨rfl, rfl⟩, fB _ _ _ pl uf ⟨_, rfl, by omega, _, rfl, 1, rfl, by decide, by decide, ?_⟩⟩
    rw [r1]; simp only [forD]; (simp only [TN.sRetV, TN.dAug, TN.dCallNT, TN.dCallNL, TN.fIxTs, TN.sForI, TN.dCompI, TN.dCompL, TN.dCompT, TN.dCompR, TN.iL, TN.iT, TN.iR1, TN.iR2, TN.iR3, TN.iS, TN.iE, TN.iRv, TN.iZ, TN.dKeepT, TN.dCallT, TN.pTup, TN.pCons, TN.pOwn, TN.sAsgT, TN.sRetT, TN.tpL, TN.fIxT, TN.fTp, TN.dAppendT, TN.dReverseT, TN.dClearT, TN.dVarT, TN.dReverse, TN.dClear, TN.dPop, Pt.d, Sl.tp.injEq, TN.startF, TN.dCallV, Sl.fn.injEq, TN.dCallF, TN.dLRev, TN.dLAdd, TN.dLSlP, TN.dLSlice, TN.dSliceE, TN.dNo, TN.dEnd, TN.fNo, TN.sSeq, TN.sNext, TN.sDrop, TN.sRet, TN.sRetL, TN.sRetN, TN.sIf, TN.sAsg, TN.sAsgL, TN.sStore, TN.sForL, TN.sForT, TN.sForR, TN.sForR2, TN.tgN, TN.tgTup, TN.tgCons, TN.tgNil, TN.dP, TN.dB, TN.dCall, TN.dCallL, TN.dCallB, TN.dCallBL, TN.dCons, TN.dNil, TN.dTup, TN.dLst, TN.dKeep, TN.dVar, TN.fVar, TN.fPeek, TN.fC, TN.f2, TN.d2, TN.d2V, TN.f1, TN.d1, TN.fCB, TN.dCB, TN.dCBL, TN.fNil, TN.fCons, TN.asBool, TN.dTest, TN.bAnd, TN.bOr, TN.bNot, TN.dAnd, TN.dOr, TN.dNot, TN.fAndV, TN.fOrV, TN.fNotV, TN.dAndV, TN.dOrV, TN.dNotV, TN.dIfE, TN.dIfL, TN.fIfE, TN.fChain, TN.fSlice, TN.dSlice, TN.fNo, TN.fEnd, TN.dAppend, TN.dInsert, TN.dPopAt, TN.ownL, TN.start0, TN.begB, TN.backD, TN.wipeD, TN.dYes, TN.sNever, List.getElem?_cons_zero, List.getElem?_cons_succ, List.set_cons_zero, List.set_cons_succ, List.map_cons, List.map_nil, List.length_cons, List.length_nil, List.cons_append, List.nil_append, List.replicate_succ, List.replicate_zero, Option.map_some, Option.map_none, Nat.add_one_sub_one, Nat.sub_zero, Nat.sub_self, Nat.zero_add, reduceCtorEq, Option.some.injEq, PyData.int.injEq, PyData.str.injEq, PyData.bool.injEq, PyData.list.injEq, PyData.tuple.injEq, Sl.sh.injEq, Sl.ow.injEq, List.cons.injEq, exists_eq_left', exists_eq_left, true_implies, false_implies, and_true, true_and, forall_const, Option.isSome_some, TN.imp_ff, TN.imp_tf, TN.imp_tt, exists_eq_left, exists_eq_left', exists_eq])
    refine fB _ _ _ hq (by omega) ⟨_, rfl, by omega, ?_⟩
    rw [ft] at fin
    exact fin _ _ _ _
  | lost p =>
    (simp only [TN.sRetV, TN.dAug, TN.dCallNT, TN.dCallNL, TN.fIxTs, TN.sForI, TN.dCompI, TN.dCompL, TN.dCompT, TN.dCompR, TN.iL, TN.iT, TN.iR1, TN.iR2, TN.iR3, TN.iS, TN.iE, TN.iRv, TN.iZ, TN.dKeepT, TN.dCallT, TN.pTup, TN.pCons, TN.pOwn, TN.sAsgT, TN.sRetT, TN.tpL, TN.fIxT, TN.fTp, TN.dAppendT, TN.dReverseT, TN.dClearT, TN.dVarT, TN.dReverse, TN.dClear, TN.dPop, Pt.d, Sl.tp.injEq, TN.startF, TN.dCallV, Sl.fn.injEq, TN.dCallF, TN.dLRev, TN.dLAdd, TN.dLSlP, TN.dLSlice, TN.dSliceE, TN.dNo, TN.dEnd, TN.fNo, TN.sSeq, TN.sNext, TN.sDrop, TN.sRet, TN.sRetL, TN.sRetN, TN.sIf, TN.sAsg, TN.sAsgL, TN.sStore, TN.sForL, TN.sForT, TN.sForR, TN.sForR2, TN.tgN, TN.tgTup, TN.tgCons, TN.tgNil, TN.dP, TN.dB, TN.dCall, TN.dCallL, TN.dCallB, TN.dCallBL, TN.dCons, TN.dNil, TN.dTup, TN.dLst, TN.dKeep, TN.dVar, TN.fVar, TN.fPeek, TN.fC, TN.f2, TN.d2, TN.d2V, TN.f1, TN.d1, TN.fCB, TN.dCB, TN.dCBL, TN.fNil, TN.fCons, TN.asBool, TN.dTest, TN.bAnd, TN.bOr, TN.bNot, TN.dAnd, TN.dOr, TN.dNot, TN.fAndV, TN.fOrV, TN.fNotV, TN.dAndV, TN.dOrV, TN.dNotV, TN.dIfE, TN.dIfL, TN.fIfE, TN.fChain, TN.fSlice, TN.dSlice, TN.fNo, TN.fEnd, TN.dAppend, TN.dInsert, TN.dPopAt, TN.ownL, TN.start0, TN.begB, TN.backD, TN.wipeD, TN.dYes, TN.sNever, List.getElem?_cons_zero, List.getElem?_cons_succ, List.set_cons_zero, List.set_cons_succ, List.map_cons, List.map_nil, List.length_cons, List.length_nil, List.cons_append, List.nil_append, List.replicate_succ, List.replicate_zero, Option.map_some, Option.map_none, Nat.add_one_sub_one, Nat.sub_zero, Nat.sub_self, Nat.zero_add, reduceCtorEq, Option.some.injEq, PyData.int.injEq, PyData.str.injEq, PyData.bool.injEq, PyData.list.injEq, PyData.tuple.injEq, Sl.sh.injEq, Sl.ow.injEq, List.cons.injEq, exists_eq_left', exists_eq_left, true_implies, false_implies, and_true, true_and, forall_const, Option.isSome_some, TN.imp_ff, TN.imp_tf, TN.imp_tt, exists_eq_left, exists_eq_left', exists_eq]); (simp only [Ev.d, TN.ix0, TN.ix1, TN.ix2, TN.ixl0, TN.ixl1, TN.ixl2, TN.ixm2, TN.ixm3, TN.len2, TN.len3, TN.neg1, TN.ty_tup, TN.ty_lst, TN.ty_str, TN.ty_int, TN.oLen_tupL, TN.oLen_lstL, TN.oU_int, TN.oEq_int, TN.oNe_int, decide_true, Bool.not_true, Bool.not_false, reduceCtorEq, Option.some.injEq, PyData.int.injEq, PyData.str.injEq, PyData.bool.injEq, PyData.list.injEq, PyData.tuple.injEq, exists_eq_left', TN.imp_ff, TN.imp_tf, TN.imp_tt, true_and, and_true, forall_const, true_implies, false_implies, TN.w_place_place, TN.n_place_place, TN.w_place_name, TN.n_place_name, TN.w_place_lost, TN.n_place_lost, TN.w_place_twice, TN.n_place_twice, TN.w_place_as, TN.n_place_as, TN.w_name_place, TN.n_name_place, TN.w_name_name, TN.n_name_name, TN.w_name_lost, TN.n_name_lost, TN.w_name_twice, TN.n_name_twice, TN.w_name_as, TN.n_name_as, TN.w_lost_place, TN.n_lost_place, TN.w_lost_name, TN.n_lost_name, TN.w_lost_lost, TN.n_lost_lost, TN.w_lost_twice, TN.n_lost_twice, TN.w_lost_as, TN.n_lost_as, TN.w_twice_place, TN.n_twice_place, TN.w_twice_name, TN.n_twice_name, TN.w_twice_lost, TN.n_twice_lost, TN.w_twice_twice, TN.n_twice_twice, TN.w_twice_as, TN.n_twice_as, TN.w_as_place, TN.n_as_place, TN.w_as_name, TN.n_as_name, TN.w_as_lost, TN.n_as_lost, TN.w_as_twice, TN.n_as_twice, TN.w_as_as, TN.n_as_as])
    simp only [lit_lost]
    refine ⟨_, _, ⟨rfl, rfl⟩, fB _ _ _ pl uf ⟨_, rfl, by omega, _, rfl, 0, rfl, by decide, by decide, ?_⟩⟩
    rw [r0]; simp only [forD]
    have := fin (.sh (.tuple [.str "lost", .int p])) b7 (.sh (.int p)) (.sh (.int p))
    rw [show w ++ (takeA v (Ev.lost p).tk).2 = w from List.append_nil _] at this
    exact this
  | twice p =>
    have hq : p < v.length := by rw [vl]; exact oe
    have hq2 : p < (toA v p).length := by rw [toA_len hq]; exact hq
    have ft : (takeA v (Ev.twice p).tk).2 = [v.getD p .none] ++ [(toA v p).getD p .none] := by show v[p]?.toList ++ ((toA v p)[p]?.toList ++ []) = _; rw [tg v p hq, tg _ p hq2]; rfl
    (simp only [TN.sRetV, TN.dAug, TN.dCallNT, TN.dCallNL, TN.fIxTs, TN.sForI, TN.dCompI, TN.dCompL, TN.dCompT, TN.dCompR, TN.iL, TN.iT, TN.iR1, TN.iR2, TN.iR3, TN.iS, TN.iE, TN.iRv, TN.iZ, TN.dKeepT, TN.dCallT, TN.pTup, TN.pCons, TN.pOwn, TN.sAsgT, TN.sRetT, TN.tpL, TN.fIxT, TN.fTp, TN.dAppendT, TN.dReverseT, TN.dClearT, TN.dVarT, TN.dReverse, TN.dClear, TN.dPop, Pt.d, Sl.tp.injEq, TN.startF, TN.dCallV, Sl.fn.injEq, TN.dCallF, TN.dLRev, TN.dLAdd, TN.dLSlP, TN.dLSlice, TN.dSliceE, TN.dNo, TN.dEnd, TN.fNo, TN.sSeq, TN.sNext, TN.sDrop, TN.sRet, TN.sRetL, TN.sRetN, TN.sIf, TN.sAsg, TN.sAsgL, TN.sStore, TN.sForL, TN.sForT, TN.sForR, TN.sForR2, TN.tgN, TN.tgTup, TN.tgCons, TN.tgNil, TN.dP, TN.dB, TN.dCall, TN.dCallL, TN.dCallB, TN.dCallBL, TN.dCons, TN.dNil, TN.dTup, TN.dLst, TN.dKeep, TN.dVar, TN.fVar, TN.fPeek, TN.fC, TN.f2, TN.d2, TN.d2V, TN.f1, TN.d1, TN.fCB, TN.dCB, TN.dCBL, TN.fNil, TN.fCons, TN.asBool, TN.dTest, TN.bAnd, TN.bOr, TN.bNot, TN.dAnd, TN.dOr, TN.dNot, TN.fAndV, TN.fOrV, TN.fNotV, TN.dAndV, TN.dOrV, TN.dNotV, TN.dIfE, TN.dIfL, TN.fIfE, TN.fChain, TN.fSlice, TN.dSlice, TN.fNo, TN.fEnd, TN.dAppend, TN.dInsert, TN.dPopAt, TN.ownL, TN.start0, TN.begB, TN.backD, TN.wipeD, TN.dYes, TN.sNever, List.getElem?_cons_zero, List.getElem?_cons_succ, List.set_cons_zero, List.set_cons_succ, List.map_cons, List.map_nil, List.length_cons, List.length_nil, List.cons_append, List.nil_append, List.replicate_succ, List.replicate_zero, Option.map_some, Option.map_none, Nat.add_one_sub_one, Nat.sub_zero, Nat.sub_self, Nat.zero_add, reduceCtorEq, Option.some.injEq, PyData.int.injEq, PyData.str.injEq, PyData.bool.injEq, PyData.list.injEq, PyData.tuple.injEq, Sl.sh.injEq, Sl.ow.injEq, List.cons.injEq, exists_eq_left', exists_eq_left, true_implies, false_implies, and_true, true_and, forall_const, Option.isSome_some, TN.imp_ff, TN.imp_tf, TN.imp_tt, exists_eq_left, exists_eq_left', exists_eq]); (simp only [Ev.d, TN.ix0, TN.ix1, TN.ix2, TN.ixl0, TN.ixl1, TN.ixl2, TN.ixm2, TN.ixm3, TN.len2, TN.len3, TN.neg1, TN.ty_tup, TN.ty_lst, TN.ty_str, TN.ty_int, TN.oLen_tupL, TN.oLen_lstL, TN.oU_int, TN.oEq_int, TN.oNe_int, decide_true, Bool.not_true, Bool.not_false, reduceCtorEq, Option.some.injEq, PyData.int.injEq, PyData.str.injEq, PyData.bool.injEq, PyData.list.injEq, PyData.tuple.injEq, exists_eq_left', TN.imp_ff, TN.imp_tf, TN.imp_tt, true_and, and_true, forall_const, true_implies, false_implies, TN.w_place_place, TN.n_place_place, TN.w_place_name, TN.n_place_name, TN.w_place_lost, TN.n_place_lost, TN.w_place_twice, TN.n_place_twice, TN.w_place_as, TN.n_place_as, TN.w_name_place, TN.n_name_place, TN.w_name_name, TN.n_name_name, TN.w_name_lost, TN.n_name_lost, TN.w_name_twice, TN.n_name_twice, TN.w_name_as, TN.n_name_as, TN.w_lost_place, TN.n_lost_place, TN.w_lost_name, TN.n_lost_name, TN.w_lost_lost, TN.n_lost_lost, TN.w_lost_twice, TN.n_lost_twice, TN.w_lost_as, TN.n_lost_as, TN.w_twice_place, TN.n_twice_place, TN.w_twice_name, TN.n_twice_name, TN.w_twice_lost, TN.n_twice_lost, TN.w_twice_twice, TN.n_twice_twice, TN.w_twice_as, TN.n_twice_as, TN.w_as_place, TN.n_as_place, TN.w_as_name, TN.n_as_name, TN.w_as_lost, TN.n_as_lost, TN.w_as_twice, TN.n_as_twice, TN.w_as_as, TN.n_as_as])
    simp only [lit_twice]
    refine ⟨_, _, ⟨rfl, rfl⟩, fB _ _ _ pl uf ⟨_, rfl, by omega, _, rfl, 2, rfl, by decide, by decide, ?_⟩⟩
    rw [r2]; simp only [forD]; (simp only [TN.sRetV, TN.dAug, TN.dCallNT, TN.dCallNL, TN.fIxTs, TN.sForI, TN.dCompI, TN.dCompL, TN.dCompT, TN.dCompR, TN.iL, TN.iT, TN.iR1, TN.iR2, TN.iR3, TN.iS, TN.iE, TN.iRv, TN.iZ, TN.dKeepT, TN.dCallT, TN.pTup, TN.pCons, TN.pOwn, TN.sAsgT, TN.sRetT, TN.tpL, TN.fIxT, TN.fTp, TN.dAppendT, TN.dReverseT, TN.dClearT, TN.dVarT, TN.dReverse, TN.dClear, TN.dPop, Pt.d, Sl.tp.injEq, TN.startF, TN.dCallV, Sl.fn.injEq, TN.dCallF, TN.dLRev, TN.dLAdd, TN.dLSlP, TN.dLSlice, TN.dSliceE, TN.dNo, TN.dEnd, TN.fNo, TN.sSeq, TN.sNext, TN.sDrop, TN.sRet, TN.sRetL, TN.sRetN, TN.sIf, TN.sAsg, TN.sAsgL, TN.sStore, TN.sForL, TN.sForT, TN.sForR, TN.sForR2, TN.tgN, TN.tgTup, TN.tgCons, TN.tgNil, TN.dP, TN.dB, TN.dCall, TN.dCallL, TN.dCallB, TN.dCallBL, TN.dCons, TN.dNil, TN.dTup, TN.dLst, TN.dKeep, TN.dVar, TN.fVar, TN.fPeek, TN.fC, TN.f2, TN.d2, TN.d2V, TN.f1, TN.d1, TN.fCB, TN.dCB, TN.dCBL, TN.fNil, TN.fCons, TN.asBool, TN.dTest, TN.bAnd, TN.bOr, TN.bNot, TN.dAnd, TN.dOr, TN.dNot, TN.fAndV, TN.fOrV, TN.fNotV, TN.dAndV, TN.dOrV, TN.dNotV, TN.dIfE, TN.dIfL, TN.fIfE, TN.fChain, TN.fSlice, TN.dSlice, TN.fNo, TN.fEnd, TN.dAppend, TN.dInsert, TN.dPopAt, TN.ownL, TN.start0, TN.begB, TN.backD, TN.wipeD, TN.dYes, TN.sNever, List.getElem?_cons_zero, List.getElem?_cons_succ, List.set_cons_zero, List.set_cons_succ, List.map_cons, List.map_nil, List.length_cons, List.length_nil, List.cons_append, List.nil_append, List.replicate_succ, List.replicate_zero, Option.map_some, Option.map_none, Nat.add_one_sub_one, Nat.sub_zero, Nat.sub_self, Nat.zero_add, reduceCtorEq, Option.some.injEq, PyData.int.injEq, PyData.str.injEq, PyData.bool.injEq, PyData.list.injEq, PyData.tuple.injEq, Sl.sh.injEq, Sl.ow.injEq, List.cons.injEq, exists_eq_left', exists_eq_left, true_implies, false_implies, and_true, true_and, forall_const, Option.isSome_some, TN.imp_ff, TN.imp_tf, TN.imp_tt, exists_eq_left, exists_eq_left', exists_eq])
    refine fB _ _ _ hq (by omega) ⟨_, rfl, by omega, ?_⟩
    refine fB _ _ _ hq2 (by rw [toA_len hq]; omega) ⟨_, rfl, by rw [List.length_append, List.length_singleton]; omega, ?_⟩
    rw [ft, ← List.append_assoc] at fin
    exact fin _ _ _ _
  | as' p p' =>
    have hq : p' < v.length := by rw [vl]; exact oe.2.1
    have ft : (takeA v (Ev.as' p p').tk).2 = [v.getD p' .none] := by show v[p']?.toList ++ [] = _; rw [tg v p' hq]; rfl
    (simp only [TN.sRetV, TN.dAug, TN.dCallNT, TN.dCallNL, TN.fIxTs, TN.sForI, TN.dCompI, TN.dCompL, TN.dCompT, TN.dCompR, TN.iL, TN.iT, TN.iR1, TN.iR2, TN.iR3, TN.iS, TN.iE, TN.iRv, TN.iZ, TN.dKeepT, TN.dCallT, TN.pTup, TN.pCons, TN.pOwn, TN.sAsgT, TN.sRetT, TN.tpL, TN.fIxT, TN.fTp, TN.dAppendT, TN.dReverseT, TN.dClearT, TN.dVarT, TN.dReverse, TN.dClear, TN.dPop, Pt.d, Sl.tp.injEq, TN.startF, TN.dCallV, Sl.fn.injEq, TN.dCallF, TN.dLRev, TN.dLAdd, TN.dLSlP, TN.dLSlice, TN.dSliceE, TN.dNo, TN.dEnd, TN.fNo, TN.sSeq, TN.sNext, TN.sDrop, TN.sRet, TN.sRetL, TN.sRetN, TN.sIf, TN.sAsg, TN.sAsgL, TN.sStore, TN.sForL, TN.sForT, TN.sForR, TN.sForR2, TN.tgN, TN.tgTup, TN.tgCons, TN.tgNil, TN.dP, TN.dB, TN.dCall, TN.dCallL, TN.dCallB, TN.dCallBL, TN.dCons, TN.dNil, TN.dTup, TN.dLst, TN.dKeep, TN.dVar, TN.fVar, TN.fPeek, TN.fC, TN.f2, TN.d2, TN.d2V, TN.f1, TN.d1, TN.fCB, TN.dCB, TN.dCBL, TN.fNil, TN.fCons, TN.asBool, TN.dTest, TN.bAnd, TN.bOr, TN.bNot, TN.dAnd, TN.dOr, TN.dNot, TN.fAndV, TN.fOrV, TN.fNotV, TN.dAndV, TN.dOrV, TN.dNotV, TN.dIfE, TN.dIfL, TN.fIfE, TN.fChain, TN.fSlice, TN.dSlice, TN.fNo, TN.fEnd, TN.dAppend, TN.dInsert, TN.dPopAt, TN.ownL, TN.start0, TN.begB, TN.backD, TN.wipeD, TN.dYes, TN.sNever, List.getElem?_cons_zero, List.getElem?_cons_succ, List.set_cons_zero, List.set_cons_succ, List.map_cons, List.map_nil, List.length_cons, List.length_nil, List.cons_append, List.nil_append, List.replicate_succ, List.replicate_zero, Option.map_some, Option.map_none, Nat.add_one_sub_one, Nat.sub_zero, Nat.sub_self, Nat.zero_add, reduceCtorEq, Option.some.injEq, PyData.int.injEq, PyData.str.injEq, PyData.bool.injEq, PyData.list.injEq, PyData.tuple.injEq, Sl.sh.injEq, Sl.ow.injEq, List.cons.injEq, exists_eq_left', exists_eq_left, true_implies, false_implies, and_true, true_and, forall_const, Option.isSome_some, TN.imp_ff, TN.imp_tf, TN.imp_tt, exists_eq_left, exists_eq_left', exists_eq]); (simp only [Ev.d, TN.ix0, TN.ix1, TN.ix2, TN.ixl0, TN.ixl1, TN.ixl2, TN.ixm2, TN.ixm3, TN.len2, TN.len3, TN.neg1, TN.ty_tup, TN.ty_lst, TN.ty_str, TN.ty_int, TN.oLen_tupL, TN.oLen_lstL, TN.oU_int, TN.oEq_int, TN.oNe_int, decide_true, Bool.not_true, Bool.not_false, reduceCtorEq, Option.some.injEq, PyData.int.injEq, PyData.str.injEq, PyData.bool.injEq, PyData.list.injEq, PyData.tuple.injEq, exists_eq_left', TN.imp_ff, TN.imp_tf, TN.imp_tt, true_and, and_true, forall_const, true_implies, false_implies, TN.w_place_place, TN.n_place_place, TN.w_place_name, TN.n_place_name, TN.w_place_lost, TN.n_place_lost, TN.w_place_twice, TN.n_place_twice, TN.w_place_as, TN.n_place_as, TN.w_name_place, TN.n_name_place, TN.w_name_name, TN.n_name_name, TN.w_name_lost, TN.n_name_lost, TN.w_name_twice, TN.n_name_twice, TN.w_name_as, TN.n_name_as, TN.w_lost_place, TN.n_lost_place, TN.w_lost_name, TN.n_lost_name, TN.w_lost_lost, TN.n_lost_lost, TN.w_lost_twice, TN.n_lost_twice, TN.w_lost_as, TN.n_lost_as, TN.w_twice_place, TN.n_twice_place, TN.w_twice_name, TN.n_twice_name, TN.w_twice_lost, TN.n_twice_lost, TN.w_twice_twice, TN.n_twice_twice, TN.w_twice_as, TN.n_twice_as, TN.w_as_place, TN.n_as_place, TN.w_as_name, TN.n_as_name, TN.w_as_lost, TN.n_as_lost, TN.w_as_twice, TN.n_as_twice, TN.w_as_as, TN.n_as_as])
    simp only [lit_as]
    refine ⟨_, _, ⟨rfl, rfl⟩, fB _ _ _ pl uf ⟨_, rfl, by omega, _, rfl, 1, rfl, by decide, by decide, ?_⟩⟩
    rw [r1]; simp only [forD]; (simp only [TN.sRetV, TN.dAug, TN.dCallNT, TN.dCallNL, TN.fIxTs, TN.sForI, TN.dCompI, TN.dCompL, TN.dCompT, TN.dCompR, TN.iL, TN.iT, TN.iR1, TN.iR2, TN.iR3, TN.iS, TN.iE, TN.iRv, TN.iZ, TN.dKeepT, TN.dCallT, TN.pTup, TN.pCons, TN.pOwn, TN.sAsgT, TN.sRetT, TN.tpL, TN.fIxT, TN.fTp, TN.dAppendT, TN.dReverseT, TN.dClearT, TN.dVarT, TN.dReverse, TN.dClear, TN.dPop, Pt.d, Sl.tp.injEq, TN.startF, TN.dCallV, Sl.fn.injEq, TN.dCallF, TN.dLRev, TN.dLAdd, TN.dLSlP, TN.dLSlice, TN.dSliceE, TN.dNo, TN.dEnd, TN.fNo, TN.sSeq, TN.sNext, TN.sDrop, TN.sRet, TN.sRetL, TN.sRetN, TN.sIf, TN.sAsg, TN.sAsgL, TN.sStore, TN.sForL, TN.sForT, TN.sForR, TN.sForR2, TN.tgN, TN.tgTup, TN.tgCons, TN.tgNil, TN.dP, TN.dB, TN.dCall, TN.dCallL, TN.dCallB, TN.dCallBL, TN.dCons, TN.dNil, TN.dTup, TN.dLst, TN.dKeep, TN.dVar, TN.fVar, TN.fPeek, TN.fC, TN.f2, TN.d2, TN.d2V, TN.f1, TN.d1, TN.fCB, TN.dCB, TN.dCBL, TN.fNil, TN.fCons, TN.asBool, TN.dTest, TN.bAnd, TN.bOr, TN.bNot, TN.dAnd, TN.dOr, TN.dNot, TN.fAndV, TN.fOrV, TN.fNotV, TN.dAndV, TN.dOrV, TN.dNotV, TN.dIfE, TN.dIfL, TN.fIfE, TN.fChain, TN.fSlice, TN.dSlice, TN.fNo, TN.fEnd, TN.dAppend, TN.dInsert, TN.dPopAt, TN.ownL, TN.start0, TN.begB, TN.backD, TN.wipeD, TN.dYes, TN.sNever, List.getElem?_cons_zero, List.getElem?_cons_succ, List.set_cons_zero, List.set_cons_succ, List.map_cons, List.map_nil, List.length_cons, List.length_nil, List.cons_append, List.nil_append, List.replicate_succ, List.replicate_zero, Option.map_some, Option.map_none, Nat.add_one_sub_one, Nat.sub_zero, Nat.sub_self, Nat.zero_add, reduceCtorEq, Option.some.injEq, PyData.int.injEq, PyData.str.injEq, PyData.bool.injEq, PyData.list.injEq, PyData.tuple.injEq, Sl.sh.injEq, Sl.ow.injEq, List.cons.injEq, exists_eq_left', exists_eq_left, true_implies, false_implies, and_true, true_and, forall_const, Option.isSome_some, TN.imp_ff, TN.imp_tf, TN.imp_tt, exists_eq_left, exists_eq_left', exists_eq])
    refine fB _ _ _ hq (by omega) ⟨_, rfl, by omega, ?_⟩
    rw [ft] at fin
    exact fin _ _ _ _

abbrev s__law_far : Stmt := topS 50
theorem sc__law_far : FnScope ["row", "turn", "often", "found", "at", "ring"] ["row", "turn", "often"] (defScope s__law_far) := ⟨rfl, rfl, rfl, by decide +kernel, rfl, by decide +kernel, by decide +kernel⟩
theorem ok__law_far (b : Blt mg) {f : Addr} {fd : FuncData} (F : Fun K "_law_far" "_law_far" s__law_far f fd) : FnG P w K mg base CX0 1 f fd ["row", "turn", "often"] (sp0 K semFarL) := by
  refine fn0 (k := 0) F sc__law_far (fun ds Q h => by obtain ⟨r, a, m, rfl, _⟩ := h; rfl) (fun cdv A outer s H E hg hr =>
    have nd := sc__law_far.nd
    have hu := hr.units
    have hu1 := hu_of hr
    (pss_cons (ps_set (i := 3) nd rfl (by first | exact Or.inl rfl | exact Or.inr rfl) (pe_callTy (call_listU rfl) (by rfl) b.list (by decide +kernel) (pa_cons (pv 0) pa_nil)))
 (pss_cons (ps_for PassesOwn.never rfl (pi_range1 (by rfl) b.range (pa_cons (pe_callB call_len (by rfl) b.len (by decide +kernel) (pa_cons (pv 0) pa_nil)) pa_nil)) (pg_name (i := 4) nd rfl (by first | exact Or.inl rfl | exact Or.inr rfl)) (pss_cons (ps_set (i := 5) nd rfl (by first | exact Or.inl rfl | exact Or.inr rfl) (pe_lst (pa_cons (pv 4) pa_nil)))
 (pss_cons (ps_while PassesOwn.never (pt_cmpR (op_neD hu) (pe_ix ix_seq (pv 1) (pe_ix ix_seq (pv 5) (pe_un un_neg pe_int) (fun _ _ => rfl)) (fun _ _ => rfl)) (pv 4) (nomark _)) (pss_one (ps_expr (by exact (pe_bm PySem.F.plainAttrs_list PySem.F.slot_list_append PySem.F.type_list_append mt_append (pv 5) (pa_cons (pe_ix ix_seq (pv 1) (pe_ix ix_seq (pv 5) (pe_un un_neg pe_int) (fun _ _ => rfl)) (fun _ _ => rfl)) pa_nil))))))
 (pss_one (ps_asg (pe_ix ix_seq (pv 0) (pe_ix ix_seq (pv 5) (pe_op op_mod (pv 2) (pe_callB call_len (by rfl) b.len (by decide +kernel) (pa_cons (pv 5) pa_nil))) (fun _ _ => rfl)) (fun _ _ => rfl)) (pg_sub (pv 3) (pv 4) set_list))))))
 (pss_one (ps_ret (pe_callTy call_tupleX (by rfl) b.tuple (by decide +kernel) (pa_cons (pv 3) pa_nil)))))))
    (ls_seq (ls_asgL (i := 3) (by decide) (ll_cb (les_cons (LP.e (lp_var (i := 0))) les_nil) rc_list))
 (ls_seq (ls_forR (les_cons (LP.e (lp_cb (lms_cons (LP.m (lp_var (i := 0))) lms_nil) rc_len)) les_nil) (lg_name (i := 4) (by decide)) (ls_seq (ls_asgL (i := 5) (by decide) (ll_lst (les_cons (LP.e (lp_var (i := 4))) les_nil)))
 (ls_seq (ls_while (LB.g (lb_test (LP.m (lp_op (LP.m (lp_op (LP.m (lp_var (i := 1))) (LP.m (lp_op (lm_peek (i := 5)) (LP.m (lp_un (LP.m lp_int) ru_neg)) rb_ix)) rb_ix)) (LP.m (lp_var (i := 4))) rb_ne)))) (ls_drop (le_append (j := 5) (LP.e (lp_op (LP.m (lp_var (i := 1))) (LP.m (lp_op (lm_peek (i := 5)) (LP.m (lp_un (LP.m lp_int) ru_neg)) rb_ix)) rb_ix)))))
 (ls_store (j := 3) (LP.e (lp_op (LP.m (lp_var (i := 0))) (LP.m (lp_op (lm_peek (i := 5)) (LP.m (lp_op (LP.m (lp_var (i := 2))) (LP.m (lp_cb (lms_cons (lm_peek (i := 5)) lms_nil) rc_len)) rb_mod)) rb_ix)) rb_ix)) (LP.e (lp_var (i := 4)))))))
 (ls_ret (LP.e (lp_cb (lms_cons (lm_peek (i := 3)) lms_nil) rc_tuple))))) ?_
  rintro ds Q ⟨r, a, m, rfl, T, rf, q⟩
  have ot : oList [tupL r] = some (r.map PyData.str) := rfl
  (simp only [TN.dCallO, TN.dCallOI, TN.dCallNO, TN.oVar, TN.sCut, TN.tgLst, TN.iK, TN.iV, TN.iLT, TN.pNew, TN.dCallN, TN.dCompI2, TN.dLAddE, TN.oD, TN.sDNew, TN.sPutD, TN.fGetO, TN.fGetO2, TN.fInO, TN.fNinO, TN.dVarD, TN.dExtS, TN.mOwn, TN.dCallM, TN.mVar, TN.sRetV, TN.dAug, TN.dCallNT, TN.dCallNL, TN.fIxTs, TN.sForI, TN.dCompI, TN.dCompL, TN.dCompT, TN.dCompR, TN.iL, TN.iT, TN.iR1, TN.iR2, TN.iR3, TN.iS, TN.iE, TN.iRv, TN.iZ, TN.dKeepT, TN.dCallT, TN.pTup, TN.pCons, TN.pOwn, TN.sAsgT, TN.sRetT, TN.tpL, TN.fIxT, TN.fTp, TN.dAppendT, TN.dReverseT, TN.dClearT, TN.dVarT, TN.dReverse, TN.dClear, TN.dPop, Pt.d, Sl.tp.injEq, TN.startF, TN.dCallV, Sl.fn.injEq, TN.dCallF, TN.dLRev, TN.dLAdd, TN.dLSlP, TN.dLSlice, TN.dSliceE, TN.dNo, TN.dEnd, TN.fNo, TN.sSeq, TN.sNext, TN.sDrop, TN.sRet, TN.sRetL, TN.sRetN, TN.sIf, TN.sAsg, TN.sAsgL, TN.sStore, TN.sForL, TN.sForT, TN.sForR, TN.sForR2, TN.tgN, TN.tgTup, TN.tgCons, TN.tgNil, TN.dP, TN.dB, TN.dCall, TN.dCallL, TN.dCallB, TN.dCallBL, TN.dCons, TN.dNil, TN.dTup, TN.dLst, TN.dKeep, TN.dVar, TN.fVar, TN.fPeek, TN.fC, TN.f2, TN.d2, TN.d2V, TN.f1, TN.d1, TN.fCB, TN.dCB, TN.dCBL, TN.fNil, TN.fCons, TN.asBool, TN.dTest, TN.bAnd, TN.bOr, TN.bNot, TN.dAnd, TN.dOr, TN.dNot, TN.fAndV, TN.fOrV, TN.fNotV, TN.dAndV, TN.dOrV, TN.dNotV, TN.dIfE, TN.dIfL, TN.fIfE, TN.fChain, TN.fSlice, TN.dSlice, TN.fNo, TN.fEnd, TN.dAppend, TN.dInsert, TN.dPopAt, TN.ownL, TN.start0, TN.begB, TN.backD, TN.wipeD, TN.dYes, TN.sNever, List.getElem?_cons_zero, List.getElem?_cons_succ, List.set_cons_zero, List.set_cons_succ, List.map_cons, List.map_nil, List.length_cons, List.length_nil, List.cons_append, List.nil_append, List.replicate_succ, List.replicate_zero, Option.map_some, Option.map_none, Nat.add_one_sub_one, Nat.sub_zero, Nat.sub_self, Nat.zero_add, reduceCtorEq, Option.some.injEq, PyData.int.injEq, PyData.str.injEq, PyData.bool.injEq, PyData.list.injEq, PyData.tuple.injEq, Sl.sh.injEq, Sl.ow.injEq, List.cons.injEq, exists_eq_left', exists_eq_left, true_implies, false_implies, and_true, true_and, forall_const, Option.isSome_some, TN.imp_ff, TN.imp_tf, TN.imp_tt, exists_eq_left, exists_eq_left', exists_eq])
  refine ⟨_, ot, _, oLen_tupL, _, rfl, by omega, by omega, ?_⟩
  rw [rangeD_nat]
  refine forD_go (fun (k : Nat) => PyData.int k) (fun ls ρ => ∃ (k : Nat) (b4 b5 : Sl), ls = List.range' k (r.length - k) ∧ k ≤ r.length ∧ ρ = [.sh (tupL r), .sh (.tuple (intsD a)), .sh (.int m), .ow (((farS r a m).take k ++ r.drop k).map PyData.str), b4, b5]) ?_ ?_ _ _ ⟨0, .no, .no, by rw [List.range_eq_range']; rfl, Nat.zero_le _, rfl⟩
  rotate_left
  · rintro ρ ⟨k, b4, b5, e, hk, rfl⟩
    have : r.length - k = 0 := by
      have := congrArg List.length e
      rw [List.length_range'] at this
      exact this.symm
    have fl : (farS r a m).length = r.length := by unfold farS; rw [List.length_map, List.length_range]
    have e2 : (farS r a m).take k ++ r.drop k = farS r a m := by
      rw [List.take_of_length_le (by omega), List.drop_eq_nil_of_le (by omega), List.append_nil]
    rw [e2]
    (simp only [TN.dCallO, TN.dCallOI, TN.dCallNO, TN.oVar, TN.sCut, TN.tgLst, TN.iK, TN.iV, TN.iLT, TN.pNew, TN.dCallN, TN.dCompI2, TN.dLAddE, TN.oD, TN.sDNew, TN.sPutD, TN.fGetO, TN.fGetO2, TN.fInO, TN.fNinO, TN.dVarD, TN.dExtS, TN.mOwn, TN.dCallM, TN.mVar, TN.sRetV, TN.dAug, TN.dCallNT, TN.dCallNL, TN.fIxTs, TN.sForI, TN.dCompI, TN.dCompL, TN.dCompT, TN.dCompR, TN.iL, TN.iT, TN.iR1, TN.iR2, TN.iR3, TN.iS, TN.iE, TN.iRv, TN.iZ, TN.dKeepT, TN.dCallT, TN.pTup, TN.pCons, TN.pOwn, TN.sAsgT, TN.sRetT, TN.tpL, TN.fIxT, TN.fTp, TN.dAppendT, TN.dReverseT, TN.dClearT, TN.dVarT, TN.dReverse, TN.dClear, TN.dPop, Pt.d, Sl.tp.injEq, TN.startF, TN.dCallV, Sl.fn.injEq, TN.dCallF, TN.dLRev, TN.dLAdd, TN.dLSlP, TN.dLSlice, TN.dSliceE, TN.dNo, TN.dEnd, TN.fNo, TN.sSeq, TN.sNext, TN.sDrop, TN.sRet, TN.sRetL, TN.sRetN, TN.sIf, TN.sAsg, TN.sAsgL, TN.sStore, TN.sForL, TN.sForT, TN.sForR, TN.sForR2, TN.tgN, TN.tgTup, TN.tgCons, TN.tgNil, TN.dP, TN.dB, TN.dCall, TN.dCallL, TN.dCallB, TN.dCallBL, TN.dCons, TN.dNil, TN.dTup, TN.dLst, TN.dKeep, TN.dVar, TN.fVar, TN.fPeek, TN.fC, TN.f2, TN.d2, TN.d2V, TN.f1, TN.d1, TN.fCB, TN.dCB, TN.dCBL, TN.fNil, TN.fCons, TN.asBool, TN.dTest, TN.bAnd, TN.bOr, TN.bNot, TN.dAnd, TN.dOr, TN.dNot, TN.fAndV, TN.fOrV, TN.fNotV, TN.dAndV, TN.dOrV, TN.dNotV, TN.dIfE, TN.dIfL, TN.fIfE, TN.fChain, TN.fSlice, TN.dSlice, TN.fNo, TN.fEnd, TN.dAppend, TN.dInsert, TN.dPopAt, TN.ownL, TN.start0, TN.begB, TN.backD, TN.wipeD, TN.dYes, TN.sNever, List.getElem?_cons_zero, List.getElem?_cons_succ, List.set_cons_zero, List.set_cons_succ, List.map_cons, List.map_nil, List.length_cons, List.length_nil, List.cons_append, List.nil_append, List.replicate_succ, List.replicate_zero, Option.map_some, Option.map_none, Nat.add_one_sub_one, Nat.sub_zero, Nat.sub_self, Nat.zero_add, reduceCtorEq, Option.some.injEq, PyData.int.injEq, PyData.str.injEq, PyData.bool.injEq, PyData.list.injEq, PyData.tuple.injEq, Sl.sh.injEq, Sl.ow.injEq, List.cons.injEq, exists_eq_left', exists_eq_left, true_implies, false_implies, and_true, true_and, forall_const, Option.isSome_some, TN.imp_ff, TN.imp_tf, TN.imp_tt, exists_eq_left, exists_eq_left', exists_eq])
    exact ⟨_, rfl, q⟩
  rintro j ls ρ E' ⟨k, b4, b5, e, hk, rfl⟩ nx _ rt _
  have hk2 : k < r.length := by
    have := congrArg List.length e
    rw [List.length_range', List.length_cons] at this
    omega
  rw [show r.length - k = (r.length - (k + 1)) + 1 by omega, List.range'_succ] at e
  injection e with e1 e2
  subst e1
  obtain ⟨L, Ln, P⟩ := T.per hk2
  have Lp := P.pos
  (simp only [TN.dCallO, TN.dCallOI, TN.dCallNO, TN.oVar, TN.sCut, TN.tgLst, TN.iK, TN.iV, TN.iLT, TN.pNew, TN.dCallN, TN.dCompI2, TN.dLAddE, TN.oD, TN.sDNew, TN.sPutD, TN.fGetO, TN.fGetO2, TN.fInO, TN.fNinO, TN.dVarD, TN.dExtS, TN.mOwn, TN.dCallM, TN.mVar, TN.sRetV, TN.dAug, TN.dCallNT, TN.dCallNL, TN.fIxTs, TN.sForI, TN.dCompI, TN.dCompL, TN.dCompT, TN.dCompR, TN.iL, TN.iT, TN.iR1, TN.iR2, TN.iR3, TN.iS, TN.iE, TN.iRv, TN.iZ, TN.dKeepT, TN.dCallT, TN.pTup, TN.pCons, TN.pOwn, TN.sAsgT, TN.sRetT, TN.tpL, TN.fIxT, TN.fTp, TN.dAppendT, TN.dReverseT, TN.dClearT, TN.dVarT, TN.dReverse, TN.dClear, TN.dPop, Pt.d, Sl.tp.injEq, TN.startF, TN.dCallV, Sl.fn.injEq, TN.dCallF, TN.dLRev, TN.dLAdd, TN.dLSlP, TN.dLSlice, TN.dSliceE, TN.dNo, TN.dEnd, TN.fNo, TN.sSeq, TN.sNext, TN.sDrop, TN.sRet, TN.sRetL, TN.sRetN, TN.sIf, TN.sAsg, TN.sAsgL, TN.sStore, TN.sForL, TN.sForT, TN.sForR, TN.sForR2, TN.tgN, TN.tgTup, TN.tgCons, TN.tgNil, TN.dP, TN.dB, TN.dCall, TN.dCallL, TN.dCallB, TN.dCallBL, TN.dCons, TN.dNil, TN.dTup, TN.dLst, TN.dKeep, TN.dVar, TN.fVar, TN.fPeek, TN.fC, TN.f2, TN.d2, TN.d2V, TN.f1, TN.d1, TN.fCB, TN.dCB, TN.dCBL, TN.fNil, TN.fCons, TN.asBool, TN.dTest, TN.bAnd, TN.bOr, TN.bNot, TN.dAnd, TN.dOr, TN.dNot, TN.fAndV, TN.fOrV, TN.fNotV, TN.dAndV, TN.dOrV, TN.dNotV, TN.dIfE, TN.dIfL, TN.fIfE, TN.fChain, TN.fSlice, TN.dSlice, TN.fNo, TN.fEnd, TN.dAppend, TN.dInsert, TN.dPopAt, TN.ownL, TN.start0, TN.begB, TN.backD, TN.wipeD, TN.dYes, TN.sNever, List.getElem?_cons_zero, List.getElem?_cons_succ, List.set_cons_zero, List.set_cons_succ, List.map_cons, List.map_nil, List.length_cons, List.length_nil, List.cons_append, List.nil_append, List.replicate_succ, List.replicate_zero, Option.map_some, Option.map_none, Nat.add_one_sub_one, Nat.sub_zero, Nat.sub_self, Nat.zero_add, reduceCtorEq, Option.some.injEq, PyData.int.injEq, PyData.str.injEq, PyData.bool.injEq, PyData.list.injEq, PyData.tuple.injEq, Sl.sh.injEq, Sl.ow.injEq, List.cons.injEq, exists_eq_left', exists_eq_left, true_implies, false_implies, and_true, true_and, forall_const, Option.isSome_some, TN.imp_ff, TN.imp_tf, TN.imp_tt, exists_eq_left, exists_eq_left', exists_eq])
  refine ⟨by omega, L - 1 + 1, ?_⟩
  refine ring_turnsL T hk2 P (by omega) (L - 1) 0 (by omega) ?_
  have om : oMod (.int (m : Int)) (.int (L : Int)) = some (.int ((m % L : Nat) : Int)) := by
    rw [oMod_p (by omega), Int.natCast_emod]
  have ol : oLen [.list (intsD (orb (tf a) L j))] = some (.int (L : Nat)) := by show some (PyData.int (intsD _).length) = _; rw [List.length_map, orb_len]
  have lt := Nat.mod_lt m Lp
  have ox : oIx (.list (intsD (orb (tf a) L j))) (.int ((m % L : Nat) : Int)) = some (.int (itF (tf a) m j : Nat)) := by
    show atI (intsD (orb (tf a) L j)) _ = _
    rw [atI_nat (by rw [List.length_map, orb_len]; exact lt), List.getElem_map]
    unfold orb
    rw [List.getElem_map, List.getElem_range, itF_mod P.back]
  have fl := far_len r a m
  show (fun ρ => _) _
  (simp only [TN.dCallO, TN.dCallOI, TN.dCallNO, TN.oVar, TN.sCut, TN.tgLst, TN.iK, TN.iV, TN.iLT, TN.pNew, TN.dCallN, TN.dCompI2, TN.dLAddE, TN.oD, TN.sDNew, TN.sPutD, TN.fGetO, TN.fGetO2, TN.fInO, TN.fNinO, TN.dVarD, TN.dExtS, TN.mOwn, TN.dCallM, TN.mVar, TN.sRetV, TN.dAug, TN.dCallNT, TN.dCallNL, TN.fIxTs, TN.sForI, TN.dCompI, TN.dCompL, TN.dCompT, TN.dCompR, TN.iL, TN.iT, TN.iR1, TN.iR2, TN.iR3, TN.iS, TN.iE, TN.iRv, TN.iZ, TN.dKeepT, TN.dCallT, TN.pTup, TN.pCons, TN.pOwn, TN.sAsgT, TN.sRetT, TN.tpL, TN.fIxT, TN.fTp, TN.dAppendT, TN.dReverseT, TN.dClearT, TN.dVarT, TN.dReverse, TN.dClear, TN.dPop, Pt.d, Sl.tp.injEq, TN.startF, TN.dCallV, Sl.fn.injEq, TN.dCallF, TN.dLRev, TN.dLAdd, TN.dLSlP, TN.dLSlice, TN.dSliceE, TN.dNo, TN.dEnd, TN.fNo, TN.sSeq, TN.sNext, TN.sDrop, TN.sRet, TN.sRetL, TN.sRetN, TN.sIf, TN.sAsg, TN.sAsgL, TN.sStore, TN.sForL, TN.sForT, TN.sForR, TN.sForR2, TN.tgN, TN.tgTup, TN.tgCons, TN.tgNil, TN.dP, TN.dB, TN.dCall, TN.dCallL, TN.dCallB, TN.dCallBL, TN.dCons, TN.dNil, TN.dTup, TN.dLst, TN.dKeep, TN.dVar, TN.fVar, TN.fPeek, TN.fC, TN.f2, TN.d2, TN.d2V, TN.f1, TN.d1, TN.fCB, TN.dCB, TN.dCBL, TN.fNil, TN.fCons, TN.asBool, TN.dTest, TN.bAnd, TN.bOr, TN.bNot, TN.dAnd, TN.dOr, TN.dNot, TN.fAndV, TN.fOrV, TN.fNotV, TN.dAndV, TN.dOrV, TN.dNotV, TN.dIfE, TN.dIfL, TN.fIfE, TN.fChain, TN.fSlice, TN.dSlice, TN.fNo, TN.fEnd, TN.dAppend, TN.dInsert, TN.dPopAt, TN.ownL, TN.start0, TN.begB, TN.backD, TN.wipeD, TN.dYes, TN.sNever, List.getElem?_cons_zero, List.getElem?_cons_succ, List.set_cons_zero, List.set_cons_succ, List.map_cons, List.map_nil, List.length_cons, List.length_nil, List.cons_append, List.nil_append, List.replicate_succ, List.replicate_zero, Option.map_some, Option.map_none, Nat.add_one_sub_one, Nat.sub_zero, Nat.sub_self, Nat.zero_add, reduceCtorEq, Option.some.injEq, PyData.int.injEq, PyData.str.injEq, PyData.bool.injEq, PyData.list.injEq, PyData.tuple.injEq, Sl.sh.injEq, Sl.ow.injEq, List.cons.injEq, exists_eq_left', exists_eq_left, true_implies, false_implies, and_true, true_and, forall_const, Option.isSome_some, TN.imp_ff, TN.imp_tf, TN.imp_tt, exists_eq_left, exists_eq_left', exists_eq])
  simp only [ol, om, ox, oIx_tupL (show itF (tf a) m j < r.length from T.it hk2 m)]
  refine ⟨_, rfl, _, _, j, rfl, rfl, ixN_nat (by rw [List.length_map, List.length_append, List.length_take, List.length_drop]; omega), ?_⟩
  rw [far_step hk2]
  exact nx _ ⟨j + 1, _, _, e2, by omega, rfl⟩

abbrev s__law_turns : Stmt := topS 51
theorem sc__law_turns : FnScope ["often", "happened", "both"] ["often", "happened"] (defScope s__law_turns) := ⟨rfl, rfl, rfl, by decide +kernel, rfl, by decide +kernel, by decide +kernel⟩
theorem ok__law_turns (b : Blt mg) (h__law_led : Has P w K mg base "_law_led" 2 ["both", "happened"] (sp0 K semLedD)) {f : Addr} {fd : FuncData} (F : Fun K "_law_turns" "_law_turns" s__law_turns f fd) : FnG P w K mg base CX0 3 f fd ["often", "happened"] (sp0 K semTurnsL) := by
  refine fn0 (k := 2) F sc__law_turns (fun ds Q h => by obtain ⟨n, es, rfl, _⟩ := h; rfl) (fun cdv A outer s H E hg hr =>
    have nd := sc__law_turns.nd
    have hu := hr.units
    have hu1 := hu_of hr
    (pss_cons (ps_set (i := 2) nd rfl (by first | exact Or.inl rfl | exact Or.inr rfl) (pe_tupX (pa_cons (pe_rgTup rfl (by rfl) b.tuple (prg_1 (by rfl) b.range (pv 0))) (pa_cons (pe_rgTup rfl (by rfl) b.tuple (prg_1 (by rfl) b.range (pv 0))) pa_nil))))
 (pss_one (ps_ret (pe_ix ix_seq (pe_has (h__law_led.up (by decide)) hg hr (by rfl) (pa_cons (pv 2) (pa_cons (pv 1) pa_nil))) pe_int (fun _ _ => rfl))))))
    (ls_seq (ls_asg (le_tup (les_cons (le_rgTup (LP.e (lp_var (i := 0)))) (les_cons (le_rgTup (LP.e (lp_var (i := 0)))) les_nil))) (lg_name (i := 2) (by decide)))
 (ls_ret (le_op (le_call (les_cons (LP.e (lp_var (i := 2))) (les_cons (LP.e (lp_var (i := 1))) les_nil))) (LP.e lp_int) rb_ix))) ?_
  rintro ds Q ⟨n, es, rfl, nf, ok, few, q⟩
  unfold dRgTup
  (simp only [TN.dCallO, TN.dCallOI, TN.dCallNO, TN.oVar, TN.sCut, TN.tgLst, TN.iK, TN.iV, TN.iLT, TN.pNew, TN.dCallN, TN.dCompI2, TN.dLAddE, TN.oD, TN.sDNew, TN.sPutD, TN.fGetO, TN.fGetO2, TN.fInO, TN.fNinO, TN.dVarD, TN.dExtS, TN.mOwn, TN.dCallM, TN.mVar, TN.sRetV, TN.dAug, TN.dCallNT, TN.dCallNL, TN.fIxTs, TN.sForI, TN.dCompI, TN.dCompL, TN.dCompT, TN.dCompR, TN.iL, TN.iT, TN.iR1, TN.iR2, TN.iR3, TN.iS, TN.iE, TN.iRv, TN.iZ, TN.dKeepT, TN.dCallT, TN.pTup, TN.pCons, TN.pOwn, TN.sAsgT, TN.sRetT, TN.tpL, TN.fIxT, TN.fTp, TN.dAppendT, TN.dReverseT, TN.dClearT, TN.dVarT, TN.dReverse, TN.dClear, TN.dPop, Pt.d, Sl.tp.injEq, TN.startF, TN.dCallV, Sl.fn.injEq, TN.dCallF, TN.dLRev, TN.dLAdd, TN.dLSlP, TN.dLSlice, TN.dSliceE, TN.dNo, TN.dEnd, TN.fNo, TN.sSeq, TN.sNext, TN.sDrop, TN.sRet, TN.sRetL, TN.sRetN, TN.sIf, TN.sAsg, TN.sAsgL, TN.sStore, TN.sForL, TN.sForT, TN.sForR, TN.sForR2, TN.tgN, TN.tgTup, TN.tgCons, TN.tgNil, TN.dP, TN.dB, TN.dCall, TN.dCallL, TN.dCallB, TN.dCallBL, TN.dCons, TN.dNil, TN.dTup, TN.dLst, TN.dKeep, TN.dVar, TN.fVar, TN.fPeek, TN.fC, TN.f2, TN.d2, TN.d2V, TN.f1, TN.d1, TN.fCB, TN.dCB, TN.dCBL, TN.fNil, TN.fCons, TN.asBool, TN.dTest, TN.bAnd, TN.bOr, TN.bNot, TN.dAnd, TN.dOr, TN.dNot, TN.fAndV, TN.fOrV, TN.fNotV, TN.dAndV, TN.dOrV, TN.dNotV, TN.dIfE, TN.dIfL, TN.fIfE, TN.fChain, TN.fSlice, TN.dSlice, TN.fNo, TN.fEnd, TN.dAppend, TN.dInsert, TN.dPopAt, TN.ownL, TN.start0, TN.begB, TN.backD, TN.wipeD, TN.dYes, TN.sNever, List.getElem?_cons_zero, List.getElem?_cons_succ, List.set_cons_zero, List.set_cons_succ, List.map_cons, List.map_nil, List.length_cons, List.length_nil, List.cons_append, List.nil_append, List.replicate_succ, List.replicate_zero, Option.map_some, Option.map_none, Nat.add_one_sub_one, Nat.sub_zero, Nat.sub_self, Nat.zero_add, reduceCtorEq, Option.some.injEq, PyData.int.injEq, PyData.str.injEq, PyData.bool.injEq, PyData.list.injEq, PyData.tuple.injEq, Sl.sh.injEq, Sl.ow.injEq, List.cons.injEq, exists_eq_left', exists_eq_left, true_implies, false_implies, and_true, true_and, forall_const, Option.isSome_some, TN.imp_ff, TN.imp_tf, TN.imp_tt, exists_eq_left, exists_eq_left', exists_eq])
  have ll : (intsD (List.range n)).length = n := by rw [List.length_map, List.length_range]
  refine ⟨n, rfl, by omega, n, rfl, by omega, by omega, intsD (List.range n), intsD (List.range n), es, rfl, by omega, rfl, by rw [ll]; exact ok, few, _, rfl, _, ix0, ?_⟩
  unfold intsD
  rw [ledT_map, ledH_map]
  exact q

abbrev s_law : Stmt := topS 52
theorem sc_law : FnScope ["script", "kinds", "k", "spool", "turn", "both", "happened", "text", "turns", "often", "due", "few"] ["script"] (defScope s_law) := ⟨rfl, rfl, rfl, by decide +kernel, rfl, by decide +kernel, by decide +kernel⟩
theorem ok_law (b : Blt mg) (h__law_spool : Has P w K mg base "_law_spool" 1 ["script", "k"] (sp0 K semSpool)) (h__law_two : Has P w K mg base "_law_two" 4 ["spool", "most"] (spB K semTwo)) (h__law_wind : Has P w K mg base "_law_wind" 1 ["spool", "wide"] (spB K semWindW)) (h__law_events : Has P w K mg base "_law_events" 3 ["spool", "row", "most", "kinds"] (spB K semEventsO)) (h__law_turns : Has P w K mg base "_law_turns" 3 ["often", "happened"] (sp0 K semTurnsL)) (h__law_far : Has P w K mg base "_law_far" 1 ["row", "turn", "often"] (sp0 K semFarL)) (h_rounds : Has P w K mg base "rounds" 6 ["pair", "events", "many"] (sp0 K semRoundsN)) (h_go : Has P w K mg base "go" 6 ["pair", "events"] (sp0 K semGoD)) (h_rounds__many_events_pair : HasK P w K mg base "rounds" 6 ["pair", "events", "many"] ["many", "events", "pair"] [2, 1, 0] (sp0 K semRoundsN)) {f : Addr} {fd : FuncData} (F : Fun K "law" "law" s_law f fd) : FnG P w K mg base CX0 7 f fd ["script"] (sp0 K semLaw) := by
  refine fn0 (k := 6) F sc_law (fun ds Q h => by obtain ⟨ns, rfl, _⟩ := h; rfl) (fun cdv A outer s H E hg hr =>
    have nd := sc_law.nd
    have hu := hr.units
    have hu1 := hu_of hr
    (pss_cons (ps_set (i := 1) nd rfl (by first | exact Or.inl rfl | exact Or.inr rfl) (pe_lst (pa_cons pe_str (pa_cons pe_str (pa_cons pe_str (pa_cons pe_str pa_nil))))))
 (pss_cons (ps_for PassesOwn.never rfl (pi_range1 (by rfl) b.range (pa_cons (pe_callB (call_max2 rfl) (by rfl) b.max (by decide +kernel) (pa_cons pe_int (pa_cons (pe_callB (call_min2 rfl) (by rfl) b.min (by decide +kernel) (pa_cons pe_int (pa_cons (pe_callB call_len (by rfl) b.len (by decide +kernel) (pa_cons (pv 0) pa_nil)) pa_nil))) pa_nil))) pa_nil)) (pg_name (i := 2) nd rfl (by first | exact Or.inl rfl | exact Or.inr rfl)) (pss_cons (ps_set (i := 3) nd rfl (by first | exact Or.inl rfl | exact Or.inr rfl) (pe_has (h__law_spool.up (by decide)) hg hr (by rfl) (pa_cons (pv 0) (pa_cons (pv 2) pa_nil))))
 (pss_one (ps_for PassesOwn.never rfl (pi_range1 (by rfl) b.range (pa_cons pe_int pa_nil)) (pg_name (i := 4) nd rfl (by first | exact Or.inl rfl | exact Or.inr rfl)) (pss_cons (ps_set (i := 5) nd rfl (by first | exact Or.inl rfl | exact Or.inr rfl) (pe_has (h__law_two.up (by decide)) hg hr (by rfl) (pa_cons (pv 3) (pa_cons (pe_ix ix_seq (pe_lst (pa_cons pe_int (pa_cons pe_int pa_nil))) (pe_has (h__law_wind.up (by decide)) hg hr (by rfl) (pa_cons (pv 3) (pa_cons pe_int pa_nil))) (fun _ _ => rfl)) pa_nil))))
 (pss_cons (ps_set (i := 6) nd rfl (by first | exact Or.inl rfl | exact Or.inr rfl) (pe_has (h__law_events.up (by decide)) hg hr (by rfl) (pa_cons (pv 3) (pa_cons (pe_ix ix_seq (pv 5) pe_int (fun _ _ => rfl)) (pa_cons (pe_ix ix_seq (pe_lst (pa_cons pe_int (pa_cons pe_int pa_nil))) (pe_op op_fdiv (pe_has (h__law_wind.up (by decide)) hg hr (by rfl) (pa_cons (pv 3) (pa_cons pe_int pa_nil))) pe_int) (fun _ _ => rfl)) (pa_cons (pv 1) pa_nil))))))
 (pss_cons (ps_set (i := 7) nd rfl (by first | exact Or.inl rfl | exact Or.inr rfl) (pe_callB (call_repr hg hu) (by rfl) b.repr (by decide +kernel) (pa_cons (pe_lst (pa_cons (pv 5) (pa_cons (pv 6) pa_nil))) pa_nil)))
 (pss_cons (ps_set (i := 8) nd rfl (by first | exact Or.inl rfl | exact Or.inr rfl) (pe_has (h__law_turns.up (by decide)) hg hr (by rfl) (pa_cons (pe_callB call_len (by rfl) b.len (by decide +kernel) (pa_cons (pe_ix ix_seq (pv 5) pe_int (fun _ _ => rfl)) pa_nil)) (pa_cons (pv 6) pa_nil))))
 (pss_one (ps_for PassesOwn.never rfl (pi_list (pe_lst (pa_cons pe_int (pa_cons pe_int (pa_cons (pe_has (h__law_wind.up (by decide)) hg hr (by rfl) (pa_cons (pv 3) (pa_cons pe_int pa_nil))) (pa_cons (pe_has (h__law_wind.up (by decide)) hg hr (by rfl) (pa_cons (pv 3) (pa_cons pe_int pa_nil))) (pa_cons (pe_has (h__law_wind.up (by decide)) hg hr (by rfl) (pa_cons (pv 3) (pa_cons (pe_op op_powB pe_int pe_int) pa_nil))) pa_nil))))))) (pg_name (i := 9) nd rfl (by first | exact Or.inl rfl | exact Or.inr rfl)) (pss_cons (ps_set (i := 10) nd rfl (by first | exact Or.inl rfl | exact Or.inr rfl) (pe_tupX (pa_cons (pe_has (h__law_far.up (by decide)) hg hr (by rfl) (pa_cons (pe_ix ix_seq (pv 5) pe_int (fun _ _ => rfl)) (pa_cons (pe_ix ix_seq (pv 8) pe_int (fun _ _ => rfl)) (pa_cons (pv 9) pa_nil)))) (pa_cons (pe_has (h__law_far.up (by decide)) hg hr (by rfl) (pa_cons (pe_ix ix_seq (pv 5) pe_int (fun _ _ => rfl)) (pa_cons (pe_ix ix_seq (pv 8) pe_int (fun _ _ => rfl)) (pa_cons (pv 9) pa_nil)))) pa_nil))))
 (pss_cons (ps_if (PW.pt (pw_or (pt_cmpR op_ne (pe_callB (call_repr hg hu) (by rfl) b.repr (by decide +kernel) (pa_cons (pe_has (h_rounds.up (by decide)) hg hr (by rfl) (pa_cons (pv 5) (pa_cons (pv 6) (pa_cons (pv 9) pa_nil)))) pa_nil)) (pe_callB (call_repr hg hu) (by rfl) b.repr (by decide +kernel) (pa_cons (pv 10) pa_nil)) (nomark _)) (pw_or1 (pt_cmpR op_ne (pe_callB (call_repr hg hu) (by rfl) b.repr (by decide +kernel) (pa_cons (pe_lst (pa_cons (pv 5) (pa_cons (pv 6) pa_nil))) pa_nil)) (pv 7) (nomark _))))) (pss_one (ps_ret pe_bl)) pss_nil)
 (pss_cons (ps_if (pt_cmpR (op_neD hu) (pe_hasK (h_rounds__many_events_pair.up (by decide)) hg hr (by rfl) (pk_cons (pv 9) (pk_cons (pv 6) (pk_cons (pv 5) pk_nil)))) (pv 10) (nomark _)) (pss_one (ps_ret pe_bl)) pss_nil)
 (pss_cons (ps_set (i := 11) nd rfl (by first | exact Or.inl rfl | exact Or.inr rfl) (pe_and (pe_cmpR op_ltU (pv 9) pe_int (nomark _)) (pe_one (pe_cmpR op_ltU (pe_op op_mul (pv 9) (pe_callB call_len (by rfl) b.len (by decide +kernel) (pa_cons (pv 6) pa_nil))) pe_int (nomark _)))))
 (pss_one (ps_if (PW.pt (pw_and (pt_val (pv 11)) (pw_and1 (pt_cmpR (op_neD hu) (pe_ix ix_seq (pe_has (h_go.up (by decide)) hg hr (by rfl) (pa_cons (pv 5) (pa_cons (pe_op op_rep (pv 6) (pv 9)) pa_nil))) pe_int (fun _ _ => rfl)) (pv 10) (nomark _))))) (pss_one (ps_ret pe_bl)) pss_nil))))))))))))))))
 (pss_one (ps_ret pe_bl)))))
    (ls_seq (ls_asg (LL.e (ll_lst (les_cons (LP.e lp_str) (les_cons (LP.e lp_str) (les_cons (LP.e lp_str) (les_cons (LP.e lp_str) les_nil)))))) (lg_name (i := 1) (by decide)))
 (ls_seq (ls_forR (les_cons (LP.e (lp_cb (lms_cons (LP.m lp_int) (lms_cons (LP.m (lp_cb (lms_cons (LP.m lp_int) (lms_cons (LP.m (lp_cb (lms_cons (LP.m (lp_var (i := 0))) lms_nil) rc_len)) lms_nil)) rc_min)) lms_nil)) rc_max)) les_nil) (lg_name (i := 2) (by decide)) (ls_seq (ls_asgL (i := 3) (by decide) (ll_call (les_cons (LP.e (lp_var (i := 0))) (les_cons (LP.e (lp_var (i := 2))) les_nil))))
 (ls_forR (les_cons (LP.e lp_int) les_nil) (lg_name (i := 4) (by decide)) (ls_mid (ls_asg (le_callB (j := 3) (les_cons (le_op (LL.e (ll_lst (les_cons (LP.e lp_int) (les_cons (LP.e lp_int) les_nil)))) (le_callB (j := 3) (les_cons (LP.e lp_int) les_nil)) rb_ix) les_nil)) (lg_name (i := 5) (by decide)))
 (ls_mid (ls_asgL (i := 6) (by decide) (ll_callB (j := 3) (les_cons (LP.e (lp_op (LP.m (lp_var (i := 5))) (LP.m lp_int) rb_ix)) (les_cons (le_op (LL.e (ll_lst (les_cons (LP.e lp_int) (les_cons (LP.e lp_int) les_nil)))) (le_op (le_callB (j := 3) (les_cons (LP.e lp_int) les_nil)) (LP.e lp_int) rb_div) rb_ix) (les_cons (LP.e (lp_var (i := 1))) les_nil)))))
 (ls_mid (ls_asg (LP.e (lp_reprN (ln_lst (lms_cons (LP.m (lp_var (i := 5))) (lms_cons (lm_peek (i := 6)) lms_nil))))) (lg_name (i := 7) (by decide)))
 (ls_mid (ls_asg (le_callO (leso_cons (LP.e (lp_cb (lms_cons (LP.m (lp_op (LP.m (lp_var (i := 5))) (LP.m lp_int) rb_ix)) lms_nil) rc_len)) (leso_var (j := 6) leso_nil))) (lg_name (i := 8) (by decide)))
 (ls_forL (LL.e (ll_lst (les_cons (LP.e lp_int) (les_cons (LP.e lp_int) (les_cons (le_callB (j := 3) (les_cons (LP.e lp_int) les_nil)) (les_cons (le_callB (j := 3) (les_cons (LP.e lp_int) les_nil)) (les_cons (le_callB (j := 3) (les_cons (LP.e (lp_op (LP.m lp_int) (LP.m lp_int) rb_pow)) les_nil)) les_nil))))))) (lg_name (i := 9) (by decide)) (ls_mid (ls_asg (le_tup (les_cons (le_call (les_cons (LP.e (lp_op (LP.m (lp_var (i := 5))) (LP.m lp_int) rb_ix)) (les_cons (LP.e (lp_op (LP.m (lp_var (i := 8))) (LP.m lp_int) rb_ix)) (les_cons (LP.e (lp_var (i := 9))) les_nil)))) (les_cons (le_call (les_cons (LP.e (lp_op (LP.m (lp_var (i := 5))) (LP.m lp_int) rb_ix)) (les_cons (LP.e (lp_op (LP.m (lp_var (i := 8))) (LP.m lp_int) rb_ix)) (les_cons (LP.e (lp_var (i := 9))) les_nil)))) les_nil))) (lg_name (i := 10) (by decide)))
 (ls_mid (ls_if (lt_or (lt_test (le_op (le_cb (les_cons (le_callO (leso_cons (LP.e (lp_var (i := 5))) (leso_var (j := 6) (leso_cons (LP.e (lp_var (i := 9))) leso_nil)))) les_nil) rc_repr) (LP.e (lp_cb (lms_cons (LP.m (lp_var (i := 10))) lms_nil) rc_repr)) rb_neS)) (LB.g (lb_test (LP.m (lp_op (LP.m (lp_reprN (ln_lst (lms_cons (LP.m (lp_var (i := 5))) (lms_cons (lm_peek (i := 6)) lms_nil))))) (LP.m (lp_var (i := 7))) rb_neS))))) (ls_ret (LP.e lp_bl)) ls_next)
 (ls_mid (ls_if (lt_test (le_op (le_callNO (leso_cons (LP.e (lp_var (i := 9))) (leso_var (j := 6) (leso_cons (LP.e (lp_var (i := 5))) leso_nil)))) (LP.e (lp_var (i := 10))) rb_ne)) (ls_ret (LP.e lp_bl)) ls_next)
 (ls_mid (ls_asg (le_andV (LP.e (lp_op (LP.m (lp_var (i := 9))) (LP.m lp_int) rb_U)) (LP.e (lp_op (LP.m (lp_op (LP.m (lp_var (i := 9))) (LP.m (lp_cb (lms_cons (lm_peek (i := 6)) lms_nil) rc_len)) rb_mul)) (LP.m lp_int) rb_U))) (lg_name (i := 11) (by decide)))
 (ls_if (lt_and (LB.g (lb_B (LP.m (lp_var (i := 11))))) (lt_test (le_op (le_op (LTp.e (ltp_call (les_cons (LP.e (lp_var (i := 5))) (les_cons (LL.e (ll_repO (j := 6) (LP.m (lp_var (i := 9))))) les_nil)))) (LP.e lp_int) rb_ix) (LP.e (lp_var (i := 10))) rb_ne))) (ls_ret (LP.e lp_bl)) ls_next)))))))))))))
 (ls_ret (LP.e lp_bl)))) ?_
  rintro ds Q ⟨ns, rfl, few, q⟩
  have ln1 : oLen [.list (ns.map PyData.int)] = some (.int ns.length) := by show some (PyData.int (ns.map PyData.int).length) = _; rw [List.length_map]
  have px0 : ∀ t h : List Str, oIx (pairS t h) (.int 0) = some (tupL t) := fun _ _ => ix0
  have px1 : ∀ t h : List Str, oIx (pairS t h) (.int 1) = some (tupL h) := fun _ _ => ix1
  generalize hM : oMul = M
  (simp only [TN.dCallO, TN.dCallOI, TN.dCallNO, TN.oVar, TN.sCut, TN.tgLst, TN.iK, TN.iV, TN.iLT, TN.pNew, TN.dCallN, TN.dCompI2, TN.dLAddE, TN.oD, TN.sDNew, TN.sPutD, TN.fGetO, TN.fGetO2, TN.fInO, TN.fNinO, TN.dVarD, TN.dExtS, TN.mOwn, TN.dCallM, TN.mVar, TN.sRetV, TN.dAug, TN.dCallNT, TN.dCallNL, TN.fIxTs, TN.sForI, TN.dCompI, TN.dCompL, TN.dCompT, TN.dCompR, TN.iL, TN.iT, TN.iR1, TN.iR2, TN.iR3, TN.iS, TN.iE, TN.iRv, TN.iZ, TN.dKeepT, TN.dCallT, TN.pTup, TN.pCons, TN.pOwn, TN.sAsgT, TN.sRetT, TN.tpL, TN.fIxT, TN.fTp, TN.dAppendT, TN.dReverseT, TN.dClearT, TN.dVarT, TN.dReverse, TN.dClear, TN.dPop, Pt.d, Sl.tp.injEq, TN.startF, TN.dCallV, Sl.fn.injEq, TN.dCallF, TN.dLRev, TN.dLAdd, TN.dLSlP, TN.dLSlice, TN.dSliceE, TN.dNo, TN.dEnd, TN.fNo, TN.sSeq, TN.sNext, TN.sDrop, TN.sRet, TN.sRetL, TN.sRetN, TN.sIf, TN.sAsg, TN.sAsgL, TN.sStore, TN.sForL, TN.sForT, TN.sForR, TN.sForR2, TN.tgN, TN.tgTup, TN.tgCons, TN.tgNil, TN.dP, TN.dB, TN.dCall, TN.dCallL, TN.dCallB, TN.dCallBL, TN.dCons, TN.dNil, TN.dTup, TN.dLst, TN.dKeep, TN.dVar, TN.fVar, TN.fPeek, TN.fC, TN.f2, TN.d2, TN.d2V, TN.f1, TN.d1, TN.fCB, TN.dCB, TN.dCBL, TN.fNil, TN.fCons, TN.asBool, TN.dTest, TN.bAnd, TN.bOr, TN.bNot, TN.dAnd, TN.dOr, TN.dNot, TN.fAndV, TN.fOrV, TN.fNotV, TN.dAndV, TN.dOrV, TN.dNotV, TN.dIfE, TN.dIfL, TN.fIfE, TN.fChain, TN.fSlice, TN.dSlice, TN.fNo, TN.fEnd, TN.dAppend, TN.dInsert, TN.dPopAt, TN.ownL, TN.start0, TN.begB, TN.backD, TN.wipeD, TN.dYes, TN.sNever, List.getElem?_cons_zero, List.getElem?_cons_succ, List.set_cons_zero, List.set_cons_succ, List.map_cons, List.map_nil, List.length_cons, List.length_nil, List.cons_append, List.nil_append, List.replicate_succ, List.replicate_zero, Option.map_some, Option.map_none, Nat.add_one_sub_one, Nat.sub_zero, Nat.sub_self, Nat.zero_add, reduceCtorEq, Option.some.injEq, PyData.int.injEq, PyData.str.injEq, PyData.bool.injEq, PyData.list.injEq, PyData.tuple.injEq, Sl.sh.injEq, Sl.ow.injEq, List.cons.injEq, exists_eq_left', exists_eq_left, true_implies, false_implies, and_true, true_and, forall_const, Option.isSome_some, TN.imp_ff, TN.imp_tf, TN.imp_tt, exists_eq_left, exists_eq_left', exists_eq])
  simp only [ln1]
  obtain ⟨m, em, m0, m1⟩ : ∃ m : Int, oMax [.int 1, .int (if (ns.length : Int) < 5 then ns.length else 5)] = some (.int m) ∧ 0 ≤ m ∧ m ≤ 5 := ⟨_, rfl, by split <;> split <;> omega, by split <;> split <;> omega⟩
  have em2 : oMin [.int 5, .int ns.length] = some (.int (if (ns.length : Int) < 5 then ns.length else 5)) := rfl
  simp only [em2, em]
  refine ⟨by omega, _, rfl, m, rfl, by omega, by omega, ?_⟩
  have el : rangeD 0 m.toNat = (List.range m.toNat).map fun (k : Nat) => PyData.int k := by unfold rangeD; simp only [Int.zero_add]
  rw [el]
  have hk : Kinds [Str.ofString "place", Str.ofString "lost", Str.ofString "twice", Str.ofString "as"] := ⟨by decide, by decide, fun k hk => by
    simp only [List.mem_cons, List.not_mem_nil, or_false] at hk
    rcases hk with rfl | rfl | rfl | rfl <;> simp [words]⟩
  refine forD_go (fun (k : Nat) => PyData.int k) (fun ks ρ => (∀ k ∈ ks, k < 5) ∧ ∃ b2 b3 b4 b5 b6 b7 b8 b9 b10 b11 : Sl, ρ = [.sh (.list (ns.map PyData.int)), .sh (lstL [Str.ofString "place", Str.ofString "lost", Str.ofString "twice", Str.ofString "as"]), b2, b3, b4, b5, b6, b7, b8, b9, b10, b11]) ?_ ?_ _ _ ⟨fun k hk => by have := List.mem_range.mp hk; omega, _, _, _, _, _, _, _, _, _, _, rfl⟩
  rotate_left
  · rintro ρ ⟨_, b2, b3, b4, b5, b6, b7, b8, b9, b10, b11, rfl⟩
    (simp only [TN.dCallO, TN.dCallOI, TN.dCallNO, TN.oVar, TN.sCut, TN.tgLst, TN.iK, TN.iV, TN.iLT, TN.pNew, TN.dCallN, TN.dCompI2, TN.dLAddE, TN.oD, TN.sDNew, TN.sPutD, TN.fGetO, TN.fGetO2, TN.fInO, TN.fNinO, TN.dVarD, TN.dExtS, TN.mOwn, TN.dCallM, TN.mVar, TN.sRetV, TN.dAug, TN.dCallNT, TN.dCallNL, TN.fIxTs, TN.sForI, TN.dCompI, TN.dCompL, TN.dCompT, TN.dCompR, TN.iL, TN.iT, TN.iR1, TN.iR2, TN.iR3, TN.iS, TN.iE, TN.iRv, TN.iZ, TN.dKeepT, TN.dCallT, TN.pTup, TN.pCons, TN.pOwn, TN.sAsgT, TN.sRetT, TN.tpL, TN.fIxT, TN.fTp, TN.dAppendT, TN.dReverseT, TN.dClearT, TN.dVarT, TN.dReverse, TN.dClear, TN.dPop, Pt.d, Sl.tp.injEq, TN.startF, TN.dCallV, Sl.fn.injEq, TN.dCallF, TN.dLRev, TN.dLAdd, TN.dLSlP, TN.dLSlice, TN.dSliceE, TN.dNo, TN.dEnd, TN.fNo, TN.sSeq, TN.sNext, TN.sDrop, TN.sRet, TN.sRetL, TN.sRetN, TN.sIf, TN.sAsg, TN.sAsgL, TN.sStore, TN.sForL, TN.sForT, TN.sForR, TN.sForR2, TN.tgN, TN.tgTup, TN.tgCons, TN.tgNil, TN.dP, TN.dB, TN.dCall, TN.dCallL, TN.dCallB, TN.dCallBL, TN.dCons, TN.dNil, TN.dTup, TN.dLst, TN.dKeep, TN.dVar, TN.fVar, TN.fPeek, TN.fC, TN.f2, TN.d2, TN.d2V, TN.f1, TN.d1, TN.fCB, TN.dCB, TN.dCBL, TN.fNil, TN.fCons, TN.asBool, TN.dTest, TN.bAnd, TN.bOr, TN.bNot, TN.dAnd, TN.dOr, TN.dNot, TN.fAndV, TN.fOrV, TN.fNotV, TN.dAndV, TN.dOrV, TN.dNotV, TN.dIfE, TN.dIfL, TN.fIfE, TN.fChain, TN.fSlice, TN.dSlice, TN.fNo, TN.fEnd, TN.dAppend, TN.dInsert, TN.dPopAt, TN.ownL, TN.start0, TN.begB, TN.backD, TN.wipeD, TN.dYes, TN.sNever, List.getElem?_cons_zero, List.getElem?_cons_succ, List.set_cons_zero, List.set_cons_succ, List.map_cons, List.map_nil, List.length_cons, List.length_nil, List.cons_append, List.nil_append, List.replicate_succ, List.replicate_zero, Option.map_some, Option.map_none, Nat.add_one_sub_one, Nat.sub_zero, Nat.sub_self, Nat.zero_add, reduceCtorEq, Option.some.injEq, PyData.int.injEq, PyData.str.injEq, PyData.bool.injEq, PyData.list.injEq, PyData.tuple.injEq, Sl.sh.injEq, Sl.ow.injEq, List.cons.injEq, exists_eq_left', exists_eq_left, true_implies, false_implies, and_true, true_and, forall_const, Option.isSome_some, TN.imp_ff, TN.imp_tf, TN.imp_tt, exists_eq_left, exists_eq_left', exists_eq])
    exact q
  rintro k ks ρ E' ⟨hk5, b2, b3, b4, b5, b6, b7, b8, b9, b10, b11, rfl⟩ nx _ rt _
  (simp only [TN.dCallO, TN.dCallOI, TN.dCallNO, TN.oVar, TN.sCut, TN.tgLst, TN.iK, TN.iV, TN.iLT, TN.pNew, TN.dCallN, TN.dCompI2, TN.dLAddE, TN.oD, TN.sDNew, TN.sPutD, TN.fGetO, TN.fGetO2, TN.fInO, TN.fNinO, TN.dVarD, TN.dExtS, TN.mOwn, TN.dCallM, TN.mVar, TN.sRetV, TN.dAug, TN.dCallNT, TN.dCallNL, TN.fIxTs, TN.sForI, TN.dCompI, TN.dCompL, TN.dCompT, TN.dCompR, TN.iL, TN.iT, TN.iR1, TN.iR2, TN.iR3, TN.iS, TN.iE, TN.iRv, TN.iZ, TN.dKeepT, TN.dCallT, TN.pTup, TN.pCons, TN.pOwn, TN.sAsgT, TN.sRetT, TN.tpL, TN.fIxT, TN.fTp, TN.dAppendT, TN.dReverseT, TN.dClearT, TN.dVarT, TN.dReverse, TN.dClear, TN.dPop, Pt.d, Sl.tp.injEq, TN.startF, TN.dCallV, Sl.fn.injEq, TN.dCallF, TN.dLRev, TN.dLAdd, TN.dLSlP, TN.dLSlice, TN.dSliceE, TN.dNo, TN.dEnd, TN.fNo, TN.sSeq, TN.sNext, TN.sDrop, TN.sRet, TN.sRetL, TN.sRetN, TN.sIf, TN.sAsg, TN.sAsgL, TN.sStore, TN.sForL, TN.sForT, TN.sForR, TN.sForR2, TN.tgN, TN.tgTup, TN.tgCons, TN.tgNil, TN.dP, TN.dB, TN.dCall, TN.dCallL, TN.dCallB, TN.dCallBL, TN.dCons, TN.dNil, TN.dTup, TN.dLst, TN.dKeep, TN.dVar, TN.fVar, TN.fPeek, TN.fC, TN.f2, TN.d2, TN.d2V, TN.f1, TN.d1, TN.fCB, TN.dCB, TN.dCBL, TN.fNil, TN.fCons, TN.asBool, TN.dTest, TN.bAnd, TN.bOr, TN.bNot, TN.dAnd, TN.dOr, TN.dNot, TN.fAndV, TN.fOrV, TN.fNotV, TN.dAndV, TN.dOrV, TN.dNotV, TN.dIfE, TN.dIfL, TN.fIfE, TN.fChain, TN.fSlice, TN.dSlice, TN.fNo, TN.fEnd, TN.dAppend, TN.dInsert, TN.dPopAt, TN.ownL, TN.start0, TN.begB, TN.backD, TN.wipeD, TN.dYes, TN.sNever, List.getElem?_cons_zero, List.getElem?_cons_succ, List.set_cons_zero, List.set_cons_succ, List.map_cons, List.map_nil, List.length_cons, List.length_nil, List.cons_append, List.nil_append, List.replicate_succ, List.replicate_zero, Option.map_some, Option.map_none, Nat.add_one_sub_one, Nat.sub_zero, Nat.sub_self, Nat.zero_add, reduceCtorEq, Option.some.injEq, PyData.int.injEq, PyData.str.injEq, PyData.bool.injEq, PyData.list.injEq, PyData.tuple.injEq, Sl.sh.injEq, Sl.ow.injEq, List.cons.injEq, exists_eq_left', exists_eq_left, true_implies, false_implies, and_true, true_and, forall_const, Option.isSome_some, TN.imp_ff, TN.imp_tf, TN.imp_tt, exists_eq_left, exists_eq_left', exists_eq])
  refine ⟨ns, k, rfl, by have := hk5 k List.mem_cons_self; omega, by omega, fun xs0 sp0 => ⟨_, rfl, by decide, by decide, ?_⟩⟩
  have r3 : rangeD 0 (Int.toNat 3) = (List.range 3).map fun (k : Nat) => PyData.int k := rfl
  rw [r3]
  refine forD_go (fun (k : Nat) => PyData.int k) (fun js ρ => ∃ (n : Int) (xs : List D) (b4 b5 b6 b7 b8 b9 b10 b11 : Sl), Spl n xs ∧ n + 10000 * (js.length : Int) ≤ 100000 ∧ ρ = [.sh (.list (ns.map PyData.int)), .sh (lstL [Str.ofString "place", Str.ofString "lost", Str.ofString "twice", Str.ofString "as"]), .sh (.int k), .ow xs, b4, b5, b6, b7, b8, b9, b10, b11]) ?_ ?_ _ _ ⟨0, xs0, _, _, _, _, _, _, _, _, sp0, by decide, rfl⟩
  rotate_left
  · rintro ρ ⟨n, xs, b4, b5, b6, b7, b8, b9, b10, b11, _, _, rfl⟩
    exact nx _ ⟨fun x hx => hk5 x (List.mem_cons_of_mem _ hx), _, _, _, _, _, _, _, _, _, _, rfl⟩
  rintro j js ρ E2 ⟨n, xs, b4, b5, b6, b7, b8, b9, b10, b11, sp, hn, rfl⟩ nx2 _ rt2 _
  rw [List.length_cons] at hn
  unfold sMid
  show (fun ρ => _) _
  simp only [tgN]
  refine ⟨fun ρ' => ∃ (t h : List Str) (ys : List D), GPair t h ∧ Spl (n + 1001) ys ∧ ρ' = [.sh (.list (ns.map PyData.int)), .sh (lstL [Str.ofString "place", Str.ofString "lost", Str.ofString "twice", Str.ofString "as"]), .sh (.int k), .ow ys, .sh (.int j), .sh (pairS t h), b6, b7, b8, b9, b10, b11], ?_, ?_⟩
  · (simp only [TN.dCallO, TN.dCallOI, TN.dCallNO, TN.oVar, TN.sCut, TN.tgLst, TN.iK, TN.iV, TN.iLT, TN.pNew, TN.dCallN, TN.dCompI2, TN.dLAddE, TN.oD, TN.sDNew, TN.sPutD, TN.fGetO, TN.fGetO2, TN.fInO, TN.fNinO, TN.dVarD, TN.dExtS, TN.mOwn, TN.dCallM, TN.mVar, TN.sRetV, TN.dAug, TN.dCallNT, TN.dCallNL, TN.fIxTs, TN.sForI, TN.dCompI, TN.dCompL, TN.dCompT, TN.dCompR, TN.iL, TN.iT, TN.iR1, TN.iR2, TN.iR3, TN.iS, TN.iE, TN.iRv, TN.iZ, TN.dKeepT, TN.dCallT, TN.pTup, TN.pCons, TN.pOwn, TN.sAsgT, TN.sRetT, TN.tpL, TN.fIxT, TN.fTp, TN.dAppendT, TN.dReverseT, TN.dClearT, TN.dVarT, TN.dReverse, TN.dClear, TN.dPop, Pt.d, Sl.tp.injEq, TN.startF, TN.dCallV, Sl.fn.injEq, TN.dCallF, TN.dLRev, TN.dLAdd, TN.dLSlP, TN.dLSlice, TN.dSliceE, TN.dNo, TN.dEnd, TN.fNo, TN.sSeq, TN.sNext, TN.sDrop, TN.sRet, TN.sRetL, TN.sRetN, TN.sIf, TN.sAsg, TN.sAsgL, TN.sStore, TN.sForL, TN.sForT, TN.sForR, TN.sForR2, TN.tgN, TN.tgTup, TN.tgCons, TN.tgNil, TN.dP, TN.dB, TN.dCall, TN.dCallL, TN.dCallB, TN.dCallBL, TN.dCons, TN.dNil, TN.dTup, TN.dLst, TN.dKeep, TN.dVar, TN.fVar, TN.fPeek, TN.fC, TN.f2, TN.d2, TN.d2V, TN.f1, TN.d1, TN.fCB, TN.dCB, TN.dCBL, TN.fNil, TN.fCons, TN.asBool, TN.dTest, TN.bAnd, TN.bOr, TN.bNot, TN.dAnd, TN.dOr, TN.dNot, TN.fAndV, TN.fOrV, TN.fNotV, TN.dAndV, TN.dOrV, TN.dNotV, TN.dIfE, TN.dIfL, TN.fIfE, TN.fChain, TN.fSlice, TN.dSlice, TN.fNo, TN.fEnd, TN.dAppend, TN.dInsert, TN.dPopAt, TN.ownL, TN.start0, TN.begB, TN.backD, TN.wipeD, TN.dYes, TN.sNever, List.getElem?_cons_zero, List.getElem?_cons_succ, List.set_cons_zero, List.set_cons_succ, List.map_cons, List.map_nil, List.length_cons, List.length_nil, List.cons_append, List.nil_append, List.replicate_succ, List.replicate_zero, Option.map_some, Option.map_none, Nat.add_one_sub_one, Nat.sub_zero, Nat.sub_self, Nat.zero_add, reduceCtorEq, Option.some.injEq, PyData.int.injEq, PyData.str.injEq, PyData.bool.injEq, PyData.list.injEq, PyData.tuple.injEq, Sl.sh.injEq, Sl.ow.injEq, List.cons.injEq, exists_eq_left', exists_eq_left, true_implies, false_implies, and_true, true_and, forall_const, Option.isSome_some, TN.imp_ff, TN.imp_tf, TN.imp_tt, exists_eq_left, exists_eq_left', exists_eq])
    refine ⟨by omega, windW sp (by show _ ≤ (1000000000000 : Int); omega) (by omega) (by omega) fun c ys hc spa => ⟨_, rfl, ?_⟩⟩
    obtain ⟨x, ex, hx⟩ := pick2 (P := fun x => 1 ≤ x ∧ x ≤ 16) (a := 4) (b := 16) hc (by decide) (by decide)
    exact ⟨_, ex, n + 1, x, spa, by show _ ≤ (1000000000000 : Int); omega, rfl, hx.1, hx.2, fun t h ys gp tl spb => ⟨_, rfl, t, h, ys, gp, spb.up (by omega), rfl, rfl⟩⟩
  rintro ρ' ⟨t, h, ys, gp, spb, rfl⟩
  have tf' := gp.gt.few
  have hl := gp.pm.length_eq
  refine ⟨fun ρ' => ∃ (es : List Ev) (ys : List D), (∀ e ∈ es, e.ok t) ∧ evsN t.length es ∧ es.length ≤ 200 ∧ Spl (n + 5000) ys ∧ ρ' = [.sh (.list (ns.map PyData.int)), .sh (lstL [Str.ofString "place", Str.ofString "lost", Str.ofString "twice", Str.ofString "as"]), .sh (.int k), .ow ys, .sh (.int j), .sh (pairS t h), .ow (es.map Ev.d), b7, b8, b9, b10, b11], ?_, ?_⟩
  · (simp only [TN.dCallO, TN.dCallOI, TN.dCallNO, TN.oVar, TN.sCut, TN.tgLst, TN.iK, TN.iV, TN.iLT, TN.pNew, TN.dCallN, TN.dCompI2, TN.dLAddE, TN.oD, TN.sDNew, TN.sPutD, TN.fGetO, TN.fGetO2, TN.fInO, TN.fNinO, TN.dVarD, TN.dExtS, TN.mOwn, TN.dCallM, TN.mVar, TN.sRetV, TN.dAug, TN.dCallNT, TN.dCallNL, TN.fIxTs, TN.sForI, TN.dCompI, TN.dCompL, TN.dCompT, TN.dCompR, TN.iL, TN.iT, TN.iR1, TN.iR2, TN.iR3, TN.iS, TN.iE, TN.iRv, TN.iZ, TN.dKeepT, TN.dCallT, TN.pTup, TN.pCons, TN.pOwn, TN.sAsgT, TN.sRetT, TN.tpL, TN.fIxT, TN.fTp, TN.dAppendT, TN.dReverseT, TN.dClearT, TN.dVarT, TN.dReverse, TN.dClear, TN.dPop, Pt.d, Sl.tp.injEq, TN.startF, TN.dCallV, Sl.fn.injEq, TN.dCallF, TN.dLRev, TN.dLAdd, TN.dLSlP, TN.dLSlice, TN.dSliceE, TN.dNo, TN.dEnd, TN.fNo, TN.sSeq, TN.sNext, TN.sDrop, TN.sRet, TN.sRetL, TN.sRetN, TN.sIf, TN.sAsg, TN.sAsgL, TN.sStore, TN.sForL, TN.sForT, TN.sForR, TN.sForR2, TN.tgN, TN.tgTup, TN.tgCons, TN.tgNil, TN.dP, TN.dB, TN.dCall, TN.dCallL, TN.dCallB, TN.dCallBL, TN.dCons, TN.dNil, TN.dTup, TN.dLst, TN.dKeep, TN.dVar, TN.fVar, TN.fPeek, TN.fC, TN.f2, TN.d2, TN.d2V, TN.f1, TN.d1, TN.fCB, TN.dCB, TN.dCBL, TN.fNil, TN.fCons, TN.asBool, TN.dTest, TN.bAnd, TN.bOr, TN.bNot, TN.dAnd, TN.dOr, TN.dNot, TN.fAndV, TN.fOrV, TN.fNotV, TN.dAndV, TN.dOrV, TN.dNotV, TN.dIfE, TN.dIfL, TN.fIfE, TN.fChain, TN.fSlice, TN.dSlice, TN.fNo, TN.fEnd, TN.dAppend, TN.dInsert, TN.dPopAt, TN.ownL, TN.start0, TN.begB, TN.backD, TN.wipeD, TN.dYes, TN.sNever, List.getElem?_cons_zero, List.getElem?_cons_succ, List.set_cons_zero, List.set_cons_succ, List.map_cons, List.map_nil, List.length_cons, List.length_nil, List.cons_append, List.nil_append, List.replicate_succ, List.replicate_zero, Option.map_some, Option.map_none, Nat.add_one_sub_one, Nat.sub_zero, Nat.sub_self, Nat.zero_add, reduceCtorEq, Option.some.injEq, PyData.int.injEq, PyData.str.injEq, PyData.bool.injEq, PyData.list.injEq, PyData.tuple.injEq, Sl.sh.injEq, Sl.ow.injEq, List.cons.injEq, exists_eq_left', exists_eq_left, true_implies, false_implies, and_true, true_and, forall_const, Option.isSome_some, TN.imp_ff, TN.imp_tf, TN.imp_tt, exists_eq_left, exists_eq_left', exists_eq])
    simp only [px0]
    refine ⟨_, rfl, by omega, windW spb (by show _ ≤ (1000000000000 : Int); omega) (by omega) (by omega) fun c2 ys2 hc2 spc => ⟨_, rfl, _, oDiv_p (by decide) (by decide), ?_⟩⟩
    have ec : (c2 : Int) / 3 = ((c2 / 3 : Nat) : Int) := by omega
    rw [ec]
    obtain ⟨y, ey, hy⟩ := pick2 (P := fun x => 0 ≤ x ∧ x ≤ 200) (a := 12) (b := 200) (c := c2 / 3) (by omega) (by decide) (by decide)
    refine ⟨_, ey, n + 1001 + 1, y, t, [Str.ofString "place", Str.ofString "lost", Str.ofString "twice", Str.ofString "as"], spc, by show _ ≤ (1000000000000 : Int); omega, rfl, hy.1, hy.2, gp.gt, hk, fun es ys3 he esl spd => ⟨_, rfl, es, ys3, fun e z => (he e z).1, evs_nl (by decide +kernel) he, by omega, spd.up (by omega), rfl, rfl⟩⟩
  rintro ρ' ⟨es, ys2, okE, okN, few2, spd, rfl⟩
  have S0 : Sho 3 (2 * (40000 + 1)) (.list [pairS t h, .list (es.map Ev.d)]) := .lst (k := 2) (w := 40000) (fun d hd => by
    simp only [List.mem_cons, List.not_mem_nil, or_false] at hd
    rcases hd with rfl | rfl
    · exact gp.sho.up (by decide) (by decide)
    · exact (sho_evs gp.gt.let' (by omega) okE few2).up (by decide) (by decide)) (by simp)
  have g1 := oRepr_lst S0 (by decide) (by decide)
  generalize (PyData.list [pairS t h, .list (es.map Ev.d)]).shown = X at g1
  refine ⟨fun ρ' => ρ' = [.sh (.list (ns.map PyData.int)), .sh (lstL [Str.ofString "place", Str.ofString "lost", Str.ofString "twice", Str.ofString "as"]), .sh (.int k), .ow ys2, .sh (.int j), .sh (pairS t h), .ow (es.map Ev.d), .sh (.str X), b8, b9, b10, b11], ?_, ?_⟩
  · unfold fLstN
    (simp only [TN.dCallO, TN.dCallOI, TN.dCallNO, TN.oVar, TN.sCut, TN.tgLst, TN.iK, TN.iV, TN.iLT, TN.pNew, TN.dCallN, TN.dCompI2, TN.dLAddE, TN.oD, TN.sDNew, TN.sPutD, TN.fGetO, TN.fGetO2, TN.fInO, TN.fNinO, TN.dVarD, TN.dExtS, TN.mOwn, TN.dCallM, TN.mVar, TN.sRetV, TN.dAug, TN.dCallNT, TN.dCallNL, TN.fIxTs, TN.sForI, TN.dCompI, TN.dCompL, TN.dCompT, TN.dCompR, TN.iL, TN.iT, TN.iR1, TN.iR2, TN.iR3, TN.iS, TN.iE, TN.iRv, TN.iZ, TN.dKeepT, TN.dCallT, TN.pTup, TN.pCons, TN.pOwn, TN.sAsgT, TN.sRetT, TN.tpL, TN.fIxT, TN.fTp, TN.dAppendT, TN.dReverseT, TN.dClearT, TN.dVarT, TN.dReverse, TN.dClear, TN.dPop, Pt.d, Sl.tp.injEq, TN.startF, TN.dCallV, Sl.fn.injEq, TN.dCallF, TN.dLRev, TN.dLAdd, TN.dLSlP, TN.dLSlice, TN.dSliceE, TN.dNo, TN.dEnd, TN.fNo, TN.sSeq, TN.sNext, TN.sDrop, TN.sRet, TN.sRetL, TN.sRetN, TN.sIf, TN.sAsg, TN.sAsgL, TN.sStore, TN.sForL, TN.sForT, TN.sForR, TN.sForR2, TN.tgN, TN.tgTup, TN.tgCons, TN.tgNil, TN.dP, TN.dB, TN.dCall, TN.dCallL, TN.dCallB, TN.dCallBL, TN.dCons, TN.dNil, TN.dTup, TN.dLst, TN.dKeep, TN.dVar, TN.fVar, TN.fPeek, TN.fC, TN.f2, TN.d2, TN.d2V, TN.f1, TN.d1, TN.fCB, TN.dCB, TN.dCBL, TN.fNil, TN.fCons, TN.asBool, TN.dTest, TN.bAnd, TN.bOr, TN.bNot, TN.dAnd, TN.dOr, TN.dNot, TN.fAndV, TN.fOrV, TN.fNotV, TN.dAndV, TN.dOrV, TN.dNotV, TN.dIfE, TN.dIfL, TN.fIfE, TN.fChain, TN.fSlice, TN.dSlice, TN.fNo, TN.fEnd, TN.dAppend, TN.dInsert, TN.dPopAt, TN.ownL, TN.start0, TN.begB, TN.backD, TN.wipeD, TN.dYes, TN.sNever, List.getElem?_cons_zero, List.getElem?_cons_succ, List.set_cons_zero, List.set_cons_succ, List.map_cons, List.map_nil, List.length_cons, List.length_nil, List.cons_append, List.nil_append, List.replicate_succ, List.replicate_zero, Option.map_some, Option.map_none, Nat.add_one_sub_one, Nat.sub_zero, Nat.sub_self, Nat.zero_add, reduceCtorEq, Option.some.injEq, PyData.int.injEq, PyData.str.injEq, PyData.bool.injEq, PyData.list.injEq, PyData.tuple.injEq, Sl.sh.injEq, Sl.ow.injEq, List.cons.injEq, exists_eq_left', exists_eq_left, true_implies, false_implies, and_true, true_and, forall_const, Option.isSome_some, TN.imp_ff, TN.imp_tf, TN.imp_tt, exists_eq_left, exists_eq_left', exists_eq])
    rw [if_pos (by omega)]
    exact ⟨_, g1, rfl⟩
  rintro ρ' rfl
  refine ⟨fun ρ' => ρ' = [.sh (.list (ns.map PyData.int)), .sh (lstL [Str.ofString "place", Str.ofString "lost", Str.ofString "twice", Str.ofString "as"]), .sh (.int k), .ow ys2, .sh (.int j), .sh (pairS t h), .ow (es.map Ev.d), .sh (.str X), .sh (.tuple [.tuple (intsD (tnT t.length es)), .tuple (intsD (tnH t.length es))]), b9, b10, b11], ?_, ?_⟩
  · unfold dCallO
    (simp only [TN.dCallO, TN.dCallOI, TN.dCallNO, TN.oVar, TN.sCut, TN.tgLst, TN.iK, TN.iV, TN.iLT, TN.pNew, TN.dCallN, TN.dCompI2, TN.dLAddE, TN.oD, TN.sDNew, TN.sPutD, TN.fGetO, TN.fGetO2, TN.fInO, TN.fNinO, TN.dVarD, TN.dExtS, TN.mOwn, TN.dCallM, TN.mVar, TN.sRetV, TN.dAug, TN.dCallNT, TN.dCallNL, TN.fIxTs, TN.sForI, TN.dCompI, TN.dCompL, TN.dCompT, TN.dCompR, TN.iL, TN.iT, TN.iR1, TN.iR2, TN.iR3, TN.iS, TN.iE, TN.iRv, TN.iZ, TN.dKeepT, TN.dCallT, TN.pTup, TN.pCons, TN.pOwn, TN.sAsgT, TN.sRetT, TN.tpL, TN.fIxT, TN.fTp, TN.dAppendT, TN.dReverseT, TN.dClearT, TN.dVarT, TN.dReverse, TN.dClear, TN.dPop, Pt.d, Sl.tp.injEq, TN.startF, TN.dCallV, Sl.fn.injEq, TN.dCallF, TN.dLRev, TN.dLAdd, TN.dLSlP, TN.dLSlice, TN.dSliceE, TN.dNo, TN.dEnd, TN.fNo, TN.sSeq, TN.sNext, TN.sDrop, TN.sRet, TN.sRetL, TN.sRetN, TN.sIf, TN.sAsg, TN.sAsgL, TN.sStore, TN.sForL, TN.sForT, TN.sForR, TN.sForR2, TN.tgN, TN.tgTup, TN.tgCons, TN.tgNil, TN.dP, TN.dB, TN.dCall, TN.dCallL, TN.dCallB, TN.dCallBL, TN.dCons, TN.dNil, TN.dTup, TN.dLst, TN.dKeep, TN.dVar, TN.fVar, TN.fPeek, TN.fC, TN.f2, TN.d2, TN.d2V, TN.f1, TN.d1, TN.fCB, TN.dCB, TN.dCBL, TN.fNil, TN.fCons, TN.asBool, TN.dTest, TN.bAnd, TN.bOr, TN.bNot, TN.dAnd, TN.dOr, TN.dNot, TN.fAndV, TN.fOrV, TN.fNotV, TN.dAndV, TN.dOrV, TN.dNotV, TN.dIfE, TN.dIfL, TN.fIfE, TN.fChain, TN.fSlice, TN.dSlice, TN.fNo, TN.fEnd, TN.dAppend, TN.dInsert, TN.dPopAt, TN.ownL, TN.start0, TN.begB, TN.backD, TN.wipeD, TN.dYes, TN.sNever, List.getElem?_cons_zero, List.getElem?_cons_succ, List.set_cons_zero, List.set_cons_succ, List.map_cons, List.map_nil, List.length_cons, List.length_nil, List.cons_append, List.nil_append, List.replicate_succ, List.replicate_zero, Option.map_some, Option.map_none, Nat.add_one_sub_one, Nat.sub_zero, Nat.sub_self, Nat.zero_add, reduceCtorEq, Option.some.injEq, PyData.int.injEq, PyData.str.injEq, PyData.bool.injEq, PyData.list.injEq, PyData.tuple.injEq, Sl.sh.injEq, Sl.ow.injEq, List.cons.injEq, exists_eq_left', exists_eq_left, true_implies, false_implies, and_true, true_and, forall_const, Option.isSome_some, TN.imp_ff, TN.imp_tf, TN.imp_tt, exists_eq_left, exists_eq_left', exists_eq])
    simp only [px0, oLen_tupL]
    have nl : noList (.tuple [.tuple (intsD (tnT t.length es)), .tuple (intsD (tnH t.length es))]) = true := by
      show (noLists (intsD (tnT t.length es)) && (noLists (intsD (tnH t.length es)) && true)) = true
      rw [noLists_ints, noLists_ints]; rfl
    exact ⟨_, rfl, t.length, es, rfl, tf', okN, by omega, _, rfl, nl, rfl⟩
  rintro ρ' rfl
  (simp only [TN.dCallO, TN.dCallOI, TN.dCallNO, TN.oVar, TN.sCut, TN.tgLst, TN.iK, TN.iV, TN.iLT, TN.pNew, TN.dCallN, TN.dCompI2, TN.dLAddE, TN.oD, TN.sDNew, TN.sPutD, TN.fGetO, TN.fGetO2, TN.fInO, TN.fNinO, TN.dVarD, TN.dExtS, TN.mOwn, TN.dCallM, TN.mVar, TN.sRetV, TN.dAug, TN.dCallNT, TN.dCallNL, TN.fIxTs, TN.sForI, TN.dCompI, TN.dCompL, TN.dCompT, TN.dCompR, TN.iL, TN.iT, TN.iR1, TN.iR2, TN.iR3, TN.iS, TN.iE, TN.iRv, TN.iZ, TN.dKeepT, TN.dCallT, TN.pTup, TN.pCons, TN.pOwn, TN.sAsgT, TN.sRetT, TN.tpL, TN.fIxT, TN.fTp, TN.dAppendT, TN.dReverseT, TN.dClearT, TN.dVarT, TN.dReverse, TN.dClear, TN.dPop, Pt.d, Sl.tp.injEq, TN.startF, TN.dCallV, Sl.fn.injEq, TN.dCallF, TN.dLRev, TN.dLAdd, TN.dLSlP, TN.dLSlice, TN.dSliceE, TN.dNo, TN.dEnd, TN.fNo, TN.sSeq, TN.sNext, TN.sDrop, TN.sRet, TN.sRetL, TN.sRetN, TN.sIf, TN.sAsg, TN.sAsgL, TN.sStore, TN.sForL, TN.sForT, TN.sForR, TN.sForR2, TN.tgN, TN.tgTup, TN.tgCons, TN.tgNil, TN.dP, TN.dB, TN.dCall, TN.dCallL, TN.dCallB, TN.dCallBL, TN.dCons, TN.dNil, TN.dTup, TN.dLst, TN.dKeep, TN.dVar, TN.fVar, TN.fPeek, TN.fC, TN.f2, TN.d2, TN.d2V, TN.f1, TN.d1, TN.fCB, TN.dCB, TN.dCBL, TN.fNil, TN.fCons, TN.asBool, TN.dTest, TN.bAnd, TN.bOr, TN.bNot, TN.dAnd, TN.dOr, TN.dNot, TN.fAndV, TN.fOrV, TN.fNotV, TN.dAndV, TN.dOrV, TN.dNotV, TN.dIfE, TN.dIfL, TN.fIfE, TN.fChain, TN.fSlice, TN.dSlice, TN.fNo, TN.fEnd, TN.dAppend, TN.dInsert, TN.dPopAt, TN.ownL, TN.start0, TN.begB, TN.backD, TN.wipeD, TN.dYes, TN.sNever, List.getElem?_cons_zero, List.getElem?_cons_succ, List.set_cons_zero, List.set_cons_succ, List.map_cons, List.map_nil, List.length_cons, List.length_nil, List.cons_append, List.nil_append, List.replicate_succ, List.replicate_zero, Option.map_some, Option.map_none, Nat.add_one_sub_one, Nat.sub_zero, Nat.sub_self, Nat.zero_add, reduceCtorEq, Option.some.injEq, PyData.int.injEq, PyData.str.injEq, PyData.bool.injEq, PyData.list.injEq, PyData.tuple.injEq, Sl.sh.injEq, Sl.ow.injEq, List.cons.injEq, exists_eq_left', exists_eq_left, true_implies, false_implies, and_true, true_and, forall_const, Option.isSome_some, TN.imp_ff, TN.imp_tf, TN.imp_tt, exists_eq_left, exists_eq_left', exists_eq])
  refine windW spd (by show _ ≤ (1000000000000 : Int); omega) (by omega) (by omega) fun v1 ys3 hv1 sp1 => ⟨_, rfl, windW sp1 (by show _ ≤ (1000000000000 : Int); omega) (by omega) (by omega) fun v2 ys4 hv2 sp2 => ⟨_, rfl, _, pw30, windW sp2 (by show _ ≤ (1000000000000 : Int); omega) (by omega) (by omega) fun v3 ys5 hv3 sp3 => ⟨_, rfl, by omega, ?_⟩⟩⟩
  have T1 := tnT_tn okN
  have T2 : Tn (tnH t.length es) h.length := hl ▸ tnH_tn okN
  refine forD_go (fun (m : Nat) => PyData.int m) (fun _ ρ => ∃ b9 b10 b11 : Sl, ρ = [.sh (.list (ns.map PyData.int)), .sh (lstL [Str.ofString "place", Str.ofString "lost", Str.ofString "twice", Str.ofString "as"]), .sh (.int k), .ow ys5, .sh (.int j), .sh (pairS t h), .ow (es.map Ev.d), .sh (.str X), .sh (.tuple [.tuple (intsD (tnT t.length es)), .tuple (intsD (tnH t.length es))]), b9, b10, b11]) ?_ ?_ [0, 1, v1, v2, v3] _ ⟨b9, b10, b11, rfl⟩
  rotate_left
  · rintro ρ ⟨b9, b10, b11, rfl⟩
    exact nx2 _ ⟨_, ys5, _, _, _, _, _, _, _, _, sp3, by omega, rfl⟩
  rintro m ms ρ E3 ⟨b9, b10, b11, rfl⟩ nx3 _ rt3 _
  simp only [tgN]
  obtain ⟨F1, eF1⟩ : ∃ x, x = farS t (tnT t.length es) m := ⟨_, rfl⟩
  obtain ⟨F2, eF2⟩ : ∃ x, x = farS h (tnH t.length es) m := ⟨_, rfl⟩
  have l1 : F1.length = t.length := by rw [eF1, far_len]
  have l2 : F2.length = h.length := by rw [eF2, far_len]
  have a1 : ∀ x ∈ F1, isL x := by rw [eF1]; exact far_isL T1 gp.gt.let'
  have a2 : ∀ x ∈ F2, isL x := by rw [eF2]; exact far_isL T2 gp.gh.let'
  have S2 := sho_pair a1 a2 (by omega) (by omega)
  have g2 := oRepr_tup S2 (by decide) (by decide)
  generalize (PyData.tuple [tupL F1, tupL F2]).shown = X2 at g2
  have fp : Fine 9 (pairS F1 F2) := .tuple fun d hd => by
    simp only [List.mem_cons, List.not_mem_nil, or_false] at hd
    rcases hd with rfl | rfl
    · exact fine_tupL fun x hx => (a1 x hx).ok
    · exact fine_tupL fun x hx => (a2 x hx).ok
  have nl := noList_pair F1 F2
  refine ⟨fun ρ' => ρ' = [.sh (.list (ns.map PyData.int)), .sh (lstL [Str.ofString "place", Str.ofString "lost", Str.ofString "twice", Str.ofString "as"]), .sh (.int k), .ow ys5, .sh (.int j), .sh (pairS t h), .ow (es.map Ev.d), .sh (.str X), .sh (.tuple [.tuple (intsD (tnT t.length es)), .tuple (intsD (tnH t.length es))]), .sh (.int m), .sh (pairS F1 F2), b11], ?_, ?_⟩
  · (simp only [TN.dCallO, TN.dCallOI, TN.dCallNO, TN.oVar, TN.sCut, TN.tgLst, TN.iK, TN.iV, TN.iLT, TN.pNew, TN.dCallN, TN.dCompI2, TN.dLAddE, TN.oD, TN.sDNew, TN.sPutD, TN.fGetO, TN.fGetO2, TN.fInO, TN.fNinO, TN.dVarD, TN.dExtS, TN.mOwn, TN.dCallM, TN.mVar, TN.sRetV, TN.dAug, TN.dCallNT, TN.dCallNL, TN.fIxTs, TN.sForI, TN.dCompI, TN.dCompL, TN.dCompT, TN.dCompR, TN.iL, TN.iT, TN.iR1, TN.iR2, TN.iR3, TN.iS, TN.iE, TN.iRv, TN.iZ, TN.dKeepT, TN.dCallT, TN.pTup, TN.pCons, TN.pOwn, TN.sAsgT, TN.sRetT, TN.tpL, TN.fIxT, TN.fTp, TN.dAppendT, TN.dReverseT, TN.dClearT, TN.dVarT, TN.dReverse, TN.dClear, TN.dPop, Pt.d, Sl.tp.injEq, TN.startF, TN.dCallV, Sl.fn.injEq, TN.dCallF, TN.dLRev, TN.dLAdd, TN.dLSlP, TN.dLSlice, TN.dSliceE, TN.dNo, TN.dEnd, TN.fNo, TN.sSeq, TN.sNext, TN.sDrop, TN.sRet, TN.sRetL, TN.sRetN, TN.sIf, TN.sAsg, TN.sAsgL, TN.sStore, TN.sForL, TN.sForT, TN.sForR, TN.sForR2, TN.tgN, TN.tgTup, TN.tgCons, TN.tgNil, TN.dP, TN.dB, TN.dCall, TN.dCallL, TN.dCallB, TN.dCallBL, TN.dCons, TN.dNil, TN.dTup, TN.dLst, TN.dKeep, TN.dVar, TN.fVar, TN.fPeek, TN.fC, TN.f2, TN.d2, TN.d2V, TN.f1, TN.d1, TN.fCB, TN.dCB, TN.dCBL, TN.fNil, TN.fCons, TN.asBool, TN.dTest, TN.bAnd, TN.bOr, TN.bNot, TN.dAnd, TN.dOr, TN.dNot, TN.fAndV, TN.fOrV, TN.fNotV, TN.dAndV, TN.dOrV, TN.dNotV, TN.dIfE, TN.dIfL, TN.fIfE, TN.fChain, TN.fSlice, TN.dSlice, TN.fNo, TN.fEnd, TN.dAppend, TN.dInsert, TN.dPopAt, TN.ownL, TN.start0, TN.begB, TN.backD, TN.wipeD, TN.dYes, TN.sNever, List.getElem?_cons_zero, List.getElem?_cons_succ, List.set_cons_zero, List.set_cons_succ, List.map_cons, List.map_nil, List.length_cons, List.length_nil, List.cons_append, List.nil_append, List.replicate_succ, List.replicate_zero, Option.map_some, Option.map_none, Nat.add_one_sub_one, Nat.sub_zero, Nat.sub_self, Nat.zero_add, reduceCtorEq, Option.some.injEq, PyData.int.injEq, PyData.str.injEq, PyData.bool.injEq, PyData.list.injEq, PyData.tuple.injEq, Sl.sh.injEq, Sl.ow.injEq, List.cons.injEq, exists_eq_left', exists_eq_left, true_implies, false_implies, and_true, true_and, forall_const, Option.isSome_some, TN.imp_ff, TN.imp_tf, TN.imp_tt, exists_eq_left, exists_eq_left', exists_eq])
    have i0 : oIx (.tuple [.tuple (intsD (tnT t.length es)), .tuple (intsD (tnH t.length es))]) (.int 0) = some (.tuple (intsD (tnT t.length es))) := ix0
    have i1 : oIx (.tuple [.tuple (intsD (tnT t.length es)), .tuple (intsD (tnH t.length es))]) (.int 1) = some (.tuple (intsD (tnH t.length es))) := ix1
    exact ⟨_, px0 t h, _, i0, t, tnT t.length es, m, rfl, T1, tf', _, rfl, _, px1 t h, _, i1, h, tnH t.length es, m, rfl, T2, by omega, _, rfl, by omega, by rw [eF1, eF2]; exact ⟨rfl, rfl⟩⟩
  rintro ρ' rfl
  refine ⟨fun ρ' => ρ' = [.sh (.list (ns.map PyData.int)), .sh (lstL [Str.ofString "place", Str.ofString "lost", Str.ofString "twice", Str.ofString "as"]), .sh (.int k), .ow ys5, .sh (.int j), .sh (pairS t h), .ow (es.map Ev.d), .sh (.str X), .sh (.tuple [.tuple (intsD (tnT t.length es)), .tuple (intsD (tnH t.length es))]), .sh (.int m), .sh (pairS F1 F2), b11], ?_, ?_⟩
  · try unfold fLstN
    (simp only [TN.dCallO, TN.dCallOI, TN.dCallNO, TN.oVar, TN.sCut, TN.tgLst, TN.iK, TN.iV, TN.iLT, TN.pNew, TN.dCallN, TN.dCompI2, TN.dLAddE, TN.oD, TN.sDNew, TN.sPutD, TN.fGetO, TN.fGetO2, TN.fInO, TN.fNinO, TN.dVarD, TN.dExtS, TN.mOwn, TN.dCallM, TN.mVar, TN.sRetV, TN.dAug, TN.dCallNT, TN.dCallNL, TN.fIxTs, TN.sForI, TN.dCompI, TN.dCompL, TN.dCompT, TN.dCompR, TN.iL, TN.iT, TN.iR1, TN.iR2, TN.iR3, TN.iS, TN.iE, TN.iRv, TN.iZ, TN.dKeepT, TN.dCallT, TN.pTup, TN.pCons, TN.pOwn, TN.sAsgT, TN.sRetT, TN.tpL, TN.fIxT, TN.fTp, TN.dAppendT, TN.dReverseT, TN.dClearT, TN.dVarT, TN.dReverse, TN.dClear, TN.dPop, Pt.d, Sl.tp.injEq, TN.startF, TN.dCallV, Sl.fn.injEq, TN.dCallF, TN.dLRev, TN.dLAdd, TN.dLSlP, TN.dLSlice, TN.dSliceE, TN.dNo, TN.dEnd, TN.fNo, TN.sSeq, TN.sNext, TN.sDrop, TN.sRet, TN.sRetL, TN.sRetN, TN.sIf, TN.sAsg, TN.sAsgL, TN.sStore, TN.sForL, TN.sForT, TN.sForR, TN.sForR2, TN.tgN, TN.tgTup, TN.tgCons, TN.tgNil, TN.dP, TN.dB, TN.dCall, TN.dCallL, TN.dCallB, TN.dCallBL, TN.dCons, TN.dNil, TN.dTup, TN.dLst, TN.dKeep, TN.dVar, TN.fVar, TN.fPeek, TN.fC, TN.f2, TN.d2, TN.d2V, TN.f1, TN.d1, TN.fCB, TN.dCB, TN.dCBL, TN.fNil, TN.fCons, TN.asBool, TN.dTest, TN.bAnd, TN.bOr, TN.bNot, TN.dAnd, TN.dOr, TN.dNot, TN.fAndV, TN.fOrV, TN.fNotV, TN.dAndV, TN.dOrV, TN.dNotV, TN.dIfE, TN.dIfL, TN.fIfE, TN.fChain, TN.fSlice, TN.dSlice, TN.fNo, TN.fEnd, TN.dAppend, TN.dInsert, TN.dPopAt, TN.ownL, TN.start0, TN.begB, TN.backD, TN.wipeD, TN.dYes, TN.sNever, List.getElem?_cons_zero, List.getElem?_cons_succ, List.set_cons_zero, List.set_cons_succ, List.map_cons, List.map_nil, List.length_cons, List.length_nil, List.cons_append, List.nil_append, List.replicate_succ, List.replicate_zero, Option.map_some, Option.map_none, Nat.add_one_sub_one, Nat.sub_zero, Nat.sub_self, Nat.zero_add, reduceCtorEq, Option.some.injEq, PyData.int.injEq, PyData.str.injEq, PyData.bool.injEq, PyData.list.injEq, PyData.tuple.injEq, Sl.sh.injEq, Sl.ow.injEq, List.cons.injEq, exists_eq_left', exists_eq_left, true_implies, false_implies, and_true, true_and, forall_const, Option.isSome_some, TN.imp_ff, TN.imp_tf, TN.imp_tt, exists_eq_left, exists_eq_left', exists_eq])
    refine ⟨t, h, es, m, rfl, gp, okN, by omega, _, rfl, ?_⟩
    rw [← eF1, ← eF2]
    refine ⟨nl, _, g2, _, g2, _, oNeS_same, false, rfl, (fun z => by cases z), fun _ => ?_⟩
    rw [if_pos (by omega)]
    simp only [g1, oNeS_same]
    exact ⟨false, rfl, (fun z => by cases z), fun _ => trivial⟩
  rintro ρ' rfl
  refine ⟨fun ρ' => ρ' = [.sh (.list (ns.map PyData.int)), .sh (lstL [Str.ofString "place", Str.ofString "lost", Str.ofString "twice", Str.ofString "as"]), .sh (.int k), .ow ys5, .sh (.int j), .sh (pairS t h), .ow (es.map Ev.d), .sh (.str X), .sh (.tuple [.tuple (intsD (tnT t.length es)), .tuple (intsD (tnH t.length es))]), .sh (.int m), .sh (pairS F1 F2), b11], ?_, ?_⟩
  · try unfold dCallNO
    (simp only [TN.dCallO, TN.dCallOI, TN.dCallNO, TN.oVar, TN.sCut, TN.tgLst, TN.iK, TN.iV, TN.iLT, TN.pNew, TN.dCallN, TN.dCompI2, TN.dLAddE, TN.oD, TN.sDNew, TN.sPutD, TN.fGetO, TN.fGetO2, TN.fInO, TN.fNinO, TN.dVarD, TN.dExtS, TN.mOwn, TN.dCallM, TN.mVar, TN.sRetV, TN.dAug, TN.dCallNT, TN.dCallNL, TN.fIxTs, TN.sForI, TN.dCompI, TN.dCompL, TN.dCompT, TN.dCompR, TN.iL, TN.iT, TN.iR1, TN.iR2, TN.iR3, TN.iS, TN.iE, TN.iRv, TN.iZ, TN.dKeepT, TN.dCallT, TN.pTup, TN.pCons, TN.pOwn, TN.sAsgT, TN.sRetT, TN.tpL, TN.fIxT, TN.fTp, TN.dAppendT, TN.dReverseT, TN.dClearT, TN.dVarT, TN.dReverse, TN.dClear, TN.dPop, Pt.d, Sl.tp.injEq, TN.startF, TN.dCallV, Sl.fn.injEq, TN.dCallF, TN.dLRev, TN.dLAdd, TN.dLSlP, TN.dLSlice, TN.dSliceE, TN.dNo, TN.dEnd, TN.fNo, TN.sSeq, TN.sNext, TN.sDrop, TN.sRet, TN.sRetL, TN.sRetN, TN.sIf, TN.sAsg, TN.sAsgL, TN.sStore, TN.sForL, TN.sForT, TN.sForR, TN.sForR2, TN.tgN, TN.tgTup, TN.tgCons, TN.tgNil, TN.dP, TN.dB, TN.dCall, TN.dCallL, TN.dCallB, TN.dCallBL, TN.dCons, TN.dNil, TN.dTup, TN.dLst, TN.dKeep, TN.dVar, TN.fVar, TN.fPeek, TN.fC, TN.f2, TN.d2, TN.d2V, TN.f1, TN.d1, TN.fCB, TN.dCB, TN.dCBL, TN.fNil, TN.fCons, TN.asBool, TN.dTest, TN.bAnd, TN.bOr, TN.bNot, TN.dAnd, TN.dOr, TN.dNot, TN.fAndV, TN.fOrV, TN.fNotV, TN.dAndV, TN.dOrV, TN.dNotV, TN.dIfE, TN.dIfL, TN.fIfE, TN.fChain, TN.fSlice, TN.dSlice, TN.fNo, TN.fEnd, TN.dAppend, TN.dInsert, TN.dPopAt, TN.ownL, TN.start0, TN.begB, TN.backD, TN.wipeD, TN.dYes, TN.sNever, List.getElem?_cons_zero, List.getElem?_cons_succ, List.set_cons_zero, List.set_cons_succ, List.map_cons, List.map_nil, List.length_cons, List.length_nil, List.cons_append, List.nil_append, List.replicate_succ, List.replicate_zero, Option.map_some, Option.map_none, Nat.add_one_sub_one, Nat.sub_zero, Nat.sub_self, Nat.zero_add, reduceCtorEq, Option.some.injEq, PyData.int.injEq, PyData.str.injEq, PyData.bool.injEq, PyData.list.injEq, PyData.tuple.injEq, Sl.sh.injEq, Sl.ow.injEq, List.cons.injEq, exists_eq_left', exists_eq_left, true_implies, false_implies, and_true, true_and, forall_const, Option.isSome_some, TN.imp_ff, TN.imp_tf, TN.imp_tt, exists_eq_left, exists_eq_left', exists_eq])
    refine ⟨t, h, es, m, rfl, gp, okN, by omega, _, rfl, ?_⟩
    rw [← eF1, ← eF2]
    exact ⟨nl, _, oNe_same fp, false, rfl, (fun z => by cases z), fun _ => trivial⟩
  rintro ρ' rfl
  refine ⟨fun ρ' => ∃ f : Bool, (f = true → m ≤ 200 ∧ m * es.length ≤ 200) ∧ ρ' = [.sh (.list (ns.map PyData.int)), .sh (lstL [Str.ofString "place", Str.ofString "lost", Str.ofString "twice", Str.ofString "as"]), .sh (.int k), .ow ys5, .sh (.int j), .sh (pairS t h), .ow (es.map Ev.d), .sh (.str X), .sh (.tuple [.tuple (intsD (tnT t.length es)), .tuple (intsD (tnH t.length es))]), .sh (.int m), .sh (pairS F1 F2), .sh (.bool f)], ?_, ?_⟩
  · as_aux_lemma => exact few_cut hM _ _ _ _ _ _ _ _ _ _ es m (fun ρ' => ∃ f : Bool, (f = true → m ≤ 200 ∧ m * es.length ≤ 200) ∧ ρ' = [.sh (.list (ns.map PyData.int)), .sh (lstL [Str.ofString "place", Str.ofString "lost", Str.ofString "twice", Str.ofString "as"]), .sh (.int k), .ow ys5, .sh (.int j), .sh (pairS t h), .ow (es.map Ev.d), .sh (.str X), .sh (.tuple [.tuple (intsD (tnT t.length es)), .tuple (intsD (tnH t.length es))]), .sh (.int m), .sh (pairS F1 F2), .sh (.bool f)]) (by omega) (fun f hf => ⟨f, hf, rfl⟩)
  rintro ρ' ⟨f, hf, rfl⟩
  try unfold dRepO
  (simp only [TN.dCallO, TN.dCallOI, TN.dCallNO, TN.oVar, TN.sCut, TN.tgLst, TN.iK, TN.iV, TN.iLT, TN.pNew, TN.dCallN, TN.dCompI2, TN.dLAddE, TN.oD, TN.sDNew, TN.sPutD, TN.fGetO, TN.fGetO2, TN.fInO, TN.fNinO, TN.dVarD, TN.dExtS, TN.mOwn, TN.dCallM, TN.mVar, TN.sRetV, TN.dAug, TN.dCallNT, TN.dCallNL, TN.fIxTs, TN.sForI, TN.dCompI, TN.dCompL, TN.dCompT, TN.dCompR, TN.iL, TN.iT, TN.iR1, TN.iR2, TN.iR3, TN.iS, TN.iE, TN.iRv, TN.iZ, TN.dKeepT, TN.dCallT, TN.pTup, TN.pCons, TN.pOwn, TN.sAsgT, TN.sRetT, TN.tpL, TN.fIxT, TN.fTp, TN.dAppendT, TN.dReverseT, TN.dClearT, TN.dVarT, TN.dReverse, TN.dClear, TN.dPop, Pt.d, Sl.tp.injEq, TN.startF, TN.dCallV, Sl.fn.injEq, TN.dCallF, TN.dLRev, TN.dLAdd, TN.dLSlP, TN.dLSlice, TN.dSliceE, TN.dNo, TN.dEnd, TN.fNo, TN.sSeq, TN.sNext, TN.sDrop, TN.sRet, TN.sRetL, TN.sRetN, TN.sIf, TN.sAsg, TN.sAsgL, TN.sStore, TN.sForL, TN.sForT, TN.sForR, TN.sForR2, TN.tgN, TN.tgTup, TN.tgCons, TN.tgNil, TN.dP, TN.dB, TN.dCall, TN.dCallL, TN.dCallB, TN.dCallBL, TN.dCons, TN.dNil, TN.dTup, TN.dLst, TN.dKeep, TN.dVar, TN.fVar, TN.fPeek, TN.fC, TN.f2, TN.d2, TN.d2V, TN.f1, TN.d1, TN.fCB, TN.dCB, TN.dCBL, TN.fNil, TN.fCons, TN.asBool, TN.dTest, TN.bAnd, TN.bOr, TN.bNot, TN.dAnd, TN.dOr, TN.dNot, TN.fAndV, TN.fOrV, TN.fNotV, TN.dAndV, TN.dOrV, TN.dNotV, TN.dIfE, TN.dIfL, TN.fIfE, TN.fChain, TN.fSlice, TN.dSlice, TN.fNo, TN.fEnd, TN.dAppend, TN.dInsert, TN.dPopAt, TN.ownL, TN.start0, TN.begB, TN.backD, TN.wipeD, TN.dYes, TN.sNever, List.getElem?_cons_zero, List.getElem?_cons_succ, List.set_cons_zero, List.set_cons_succ, List.map_cons, List.map_nil, List.length_cons, List.length_nil, List.cons_append, List.nil_append, List.replicate_succ, List.replicate_zero, Option.map_some, Option.map_none, Nat.add_one_sub_one, Nat.sub_zero, Nat.sub_self, Nat.zero_add, reduceCtorEq, Option.some.injEq, PyData.int.injEq, PyData.str.injEq, PyData.bool.injEq, PyData.list.injEq, PyData.tuple.injEq, Sl.sh.injEq, Sl.ow.injEq, List.cons.injEq, exists_eq_left', exists_eq_left, true_implies, false_implies, and_true, true_and, forall_const, Option.isSome_some, TN.imp_ff, TN.imp_tf, TN.imp_tt, exists_eq_left, exists_eq_left', exists_eq])
  refine ⟨fun z => ?_, fun _ => nx3 _ ⟨_, _, _, rfl⟩⟩
  obtain ⟨m2, m3⟩ := hf z
  have rl : ((List.replicate m es).flatten).length = m * es.length := by
    clear hf m2 m3 eF1 eF2
    induction m with
    | zero => simp
    | succ m ih => rw [List.replicate_succ, List.flatten_cons, List.length_append, ih, Nat.succ_mul]; omega
  have er : (List.replicate (m : Int).toNat (es.map Ev.d)).flatten = ((List.replicate m es).flatten).map Ev.d := by
    rw [Int.toNat_natCast, List.map_flatten, List.map_replicate]
  have okR : evsN t.length (List.replicate m es).flatten := fun e he => by
    obtain ⟨l, hl2, el⟩ := List.mem_flatten.mp he
    rw [(List.mem_replicate.mp hl2).2] at el
    exact okN e el
  rw [er]
  refine ⟨by omega, by omega, by rw [List.length_map, Int.toNat_natCast, Nat.mul_comm]; omega, t, h, (List.replicate m es).flatten, rfl, gp, okR, by omega, _, rfl, _, ix0, ?_⟩
  have f1 := (far_led okN m).1
  have f2 := (far_led (r := h) (hl ▸ okN) m).2
  rw [ledT_map, ledH_map, f1, f2, ← hl, ← eF1, ← eF2]
  exact ⟨_, oNe_same fp, false, rfl, (fun z => by cases z), fun _ => nx3 _ ⟨_, _, _, rfl⟩⟩
end
/-! ### what the top left -/
theorem all_mk {P : Program} {w : World} {K : PySem.W.Frag} {h : Heap} {mg : Str → Option Value} {fa : Addr} (X : K.In h) (G : h.Ns mainGlobals mg) (hfa : mg "law" = some (.ref fa))
    {f0 : Addr} {od0 an0 : Option Addr} {sl0 : Array (Option Value)} {oc0 kv0 dc0 pm0 cd0 ct0 : Value}
    {f1 : Addr} {od1 an1 : Option Addr} {sl1 : Array (Option Value)} {oc1 kv1 dc1 pm1 cd1 ct1 : Value}
    {f2 : Addr} {od2 an2 : Option Addr} {sl2 : Array (Option Value)} {oc2 kv2 dc2 pm2 cd2 ct2 : Value}
    {f3 : Addr} {od3 an3 : Option Addr} {sl3 : Array (Option Value)} {oc3 kv3 dc3 pm3 cd3 ct3 : Value}
    {f4 : Addr} {od4 an4 : Option Addr} {sl4 : Array (Option Value)} {oc4 kv4 dc4 pm4 cd4 ct4 : Value}
    {f5 : Addr} {od5 an5 : Option Addr} {sl5 : Array (Option Value)} {oc5 kv5 dc5 pm5 cd5 ct5 : Value}
    {f6 : Addr} {od6 an6 : Option Addr} {sl6 : Array (Option Value)} {oc6 kv6 dc6 pm6 cd6 ct6 : Value}
    {f7 : Addr} {od7 an7 : Option Addr} {sl7 : Array (Option Value)} {oc7 kv7 dc7 pm7 cd7 ct7 : Value}
    {f8 : Addr} {od8 an8 : Option Addr} {sl8 : Array (Option Value)} {oc8 kv8 dc8 pm8 cd8 ct8 : Value}
    {f9 : Addr} {od9 an9 : Option Addr} {sl9 : Array (Option Value)} {oc9 kv9 dc9 pm9 cd9 ct9 : Value}
    {f10 : Addr} {od10 an10 : Option Addr} {sl10 : Array (Option Value)} {oc10 kv10 dc10 pm10 cd10 ct10 : Value}
    {f11 : Addr} {od11 an11 : Option Addr} {sl11 : Array (Option Value)} {oc11 kv11 dc11 pm11 cd11 ct11 : Value}
    {f12 : Addr} {od12 an12 : Option Addr} {sl12 : Array (Option Value)} {oc12 kv12 dc12 pm12 cd12 ct12 : Value}
    {f13 : Addr} {od13 an13 : Option Addr} {sl13 : Array (Option Value)} {oc13 kv13 dc13 pm13 cd13 ct13 : Value}
    {f14 : Addr} {od14 an14 : Option Addr} {sl14 : Array (Option Value)} {oc14 kv14 dc14 pm14 cd14 ct14 : Value}
    {f15 : Addr} {od15 an15 : Option Addr} {sl15 : Array (Option Value)} {oc15 kv15 dc15 pm15 cd15 ct15 : Value}
    {f16 : Addr} {od16 an16 : Option Addr} {sl16 : Array (Option Value)} {oc16 kv16 dc16 pm16 cd16 ct16 : Value}
    {f17 : Addr} {od17 an17 : Option Addr} {sl17 : Array (Option Value)} {oc17 kv17 dc17 pm17 cd17 ct17 : Value}
    {f18 : Addr} {od18 an18 : Option Addr} {sl18 : Array (Option Value)} {oc18 kv18 dc18 pm18 cd18 ct18 : Value}
    {f19 : Addr} {od19 an19 : Option Addr} {sl19 : Array (Option Value)} {oc19 kv19 dc19 pm19 cd19 ct19 : Value}
    {f20 : Addr} {od20 an20 : Option Addr} {sl20 : Array (Option Value)} {oc20 kv20 dc20 pm20 cd20 ct20 : Value}
    {f21 : Addr} {od21 an21 : Option Addr} {sl21 : Array (Option Value)} {oc21 kv21 dc21 pm21 cd21 ct21 : Value}
    {f22 : Addr} {od22 an22 : Option Addr} {sl22 : Array (Option Value)} {oc22 kv22 dc22 pm22 cd22 ct22 : Value}
    {f23 : Addr} {od23 an23 : Option Addr} {sl23 : Array (Option Value)} {oc23 kv23 dc23 pm23 cd23 ct23 : Value}
    {f24 : Addr} {od24 an24 : Option Addr} {sl24 : Array (Option Value)} {oc24 kv24 dc24 pm24 cd24 ct24 : Value}
    {f25 : Addr} {od25 an25 : Option Addr} {sl25 : Array (Option Value)} {oc25 kv25 dc25 pm25 cd25 ct25 : Value}
    {f26 : Addr} {od26 an26 : Option Addr} {sl26 : Array (Option Value)} {oc26 kv26 dc26 pm26 cd26 ct26 : Value}
    {f27 : Addr} {od27 an27 : Option Addr} {sl27 : Array (Option Value)} {oc27 kv27 dc27 pm27 cd27 ct27 : Value}
    {f28 : Addr} {od28 an28 : Option Addr} {sl28 : Array (Option Value)} {oc28 kv28 dc28 pm28 cd28 ct28 : Value}
    {f29 : Addr} {od29 an29 : Option Addr} {sl29 : Array (Option Value)} {oc29 kv29 dc29 pm29 cd29 ct29 : Value}
    {f30 : Addr} {od30 an30 : Option Addr} {sl30 : Array (Option Value)} {oc30 kv30 dc30 pm30 cd30 ct30 : Value}
    {f31 : Addr} {od31 an31 : Option Addr} {sl31 : Array (Option Value)} {oc31 kv31 dc31 pm31 cd31 ct31 : Value}
    {f32 : Addr} {od32 an32 : Option Addr} {sl32 : Array (Option Value)} {oc32 kv32 dc32 pm32 cd32 ct32 : Value}
    {f33 : Addr} {od33 an33 : Option Addr} {sl33 : Array (Option Value)} {oc33 kv33 dc33 pm33 cd33 ct33 : Value}
    {f34 : Addr} {od34 an34 : Option Addr} {sl34 : Array (Option Value)} {oc34 kv34 dc34 pm34 cd34 ct34 : Value}
    {f35 : Addr} {od35 an35 : Option Addr} {sl35 : Array (Option Value)} {oc35 kv35 dc35 pm35 cd35 ct35 : Value}
    {tkM : Tok}
    {aW : Addr} {nW : Nat} {slW : Array (Option Value)} {tw1 tw2 tw3 : Tok}
    (a0 : PySem.W.nsIn K mainGlobals "is_letter" = some (some (.ref f0)))
    (l0 : K.lookup f0 = some ⟨oc0, od0, .func (PySem.W.fnOf "is_letter" "is_letter" (defArgs s_is_letter) (defBody s_is_letter) (defScope s_is_letter) .none kv0 dc0 pm0 an0 cd0 ct0), sl0⟩)
    (c0 : PySem.W.codeIn K cd0 "is_letter" = true)
    (k0 : PySem.W.keepIn K (.ref f0) = true)
    (a1 : PySem.W.nsIn K mainGlobals "is_row" = some (some (.ref f1)))
    (l1 : K.lookup f1 = some ⟨oc1, od1, .func (PySem.W.fnOf "is_row" "is_row" (defArgs s_is_row) (defBody s_is_row) (defScope s_is_row) .none kv1 dc1 pm1 an1 cd1 ct1), sl1⟩)
    (c1 : PySem.W.codeIn K cd1 "is_row" = true)
    (k1 : PySem.W.keepIn K (.ref f1) = true)
    (a2 : PySem.W.nsIn K mainGlobals "are_unlike_letters" = some (some (.ref f2)))
    (l2 : K.lookup f2 = some ⟨oc2, od2, .func (PySem.W.fnOf "are_unlike_letters" "are_unlike_letters" (defArgs s_are_unlike_letters) (defBody s_are_unlike_letters) (defScope s_are_unlike_letters) .none kv2 dc2 pm2 an2 cd2 ct2), sl2⟩)
    (c2 : PySem.W.codeIn K cd2 "are_unlike_letters" = true)
    (k2 : PySem.W.keepIn K (.ref f2) = true)
    (a3 : PySem.W.nsIn K mainGlobals "is_pair" = some (some (.ref f3)))
    (l3 : K.lookup f3 = some ⟨oc3, od3, .func (PySem.W.fnOf "is_pair" "is_pair" (defArgs s_is_pair) (defBody s_is_pair) (defScope s_is_pair) .none kv3 dc3 pm3 an3 cd3 ct3), sl3⟩)
    (c3 : PySem.W.codeIn K cd3 "is_pair" = true)
    (k3 : PySem.W.keepIn K (.ref f3) = true)
    (a4 : PySem.W.nsIn K mainGlobals "is_letter_of" = some (some (.ref f4)))
    (l4 : K.lookup f4 = some ⟨oc4, od4, .func (PySem.W.fnOf "is_letter_of" "is_letter_of" (defArgs s_is_letter_of) (defBody s_is_letter_of) (defScope s_is_letter_of) .none kv4 dc4 pm4 an4 cd4 ct4), sl4⟩)
    (c4 : PySem.W.codeIn K cd4 "is_letter_of" = true)
    (k4 : PySem.W.keepIn K (.ref f4) = true)
    (a5 : PySem.W.nsIn K mainGlobals "is_place" = some (some (.ref f5)))
    (l5 : K.lookup f5 = some ⟨oc5, od5, .func (PySem.W.fnOf "is_place" "is_place" (defArgs s_is_place) (defBody s_is_place) (defScope s_is_place) .none kv5 dc5 pm5 an5 cd5 ct5), sl5⟩)
    (c5 : PySem.W.codeIn K cd5 "is_place" = true)
    (k5 : PySem.W.keepIn K (.ref f5) = true)
    (a6 : PySem.W.nsIn K mainGlobals "is_event_of" = some (some (.ref f6)))
    (l6 : K.lookup f6 = some ⟨oc6, od6, .func (PySem.W.fnOf "is_event_of" "is_event_of" (defArgs s_is_event_of) (defBody s_is_event_of) (defScope s_is_event_of) .none kv6 dc6 pm6 an6 cd6 ct6), sl6⟩)
    (c6 : PySem.W.codeIn K cd6 "is_event_of" = true)
    (k6 : PySem.W.keepIn K (.ref f6) = true)
    (a7 : PySem.W.nsIn K mainGlobals "has_word" = some (some (.ref f7)))
    (l7 : K.lookup f7 = some ⟨oc7, od7, .func (PySem.W.fnOf "has_word" "has_word" (defArgs s_has_word) (defBody s_has_word) (defScope s_has_word) .none kv7 dc7 pm7 an7 cd7 ct7), sl7⟩)
    (c7 : PySem.W.codeIn K cd7 "has_word" = true)
    (k7 : PySem.W.keepIn K (.ref f7) = true)
    (a8 : PySem.W.nsIn K mainGlobals "are_unlike_places" = some (some (.ref f8)))
    (l8 : K.lookup f8 = some ⟨oc8, od8, .func (PySem.W.fnOf "are_unlike_places" "are_unlike_places" (defArgs s_are_unlike_places) (defBody s_are_unlike_places) (defScope s_are_unlike_places) .none kv8 dc8 pm8 an8 cd8 ct8), sl8⟩)
    (c8 : PySem.W.codeIn K cd8 "are_unlike_places" = true)
    (k8 : PySem.W.keepIn K (.ref f8) = true)
    (a9 : PySem.W.nsIn K mainGlobals "need_pair" = some (some (.ref f9)))
    (l9 : K.lookup f9 = some ⟨oc9, od9, .func (PySem.W.fnOf "need_pair" "need_pair" (defArgs s_need_pair) (defBody s_need_pair) (defScope s_need_pair) .none kv9 dc9 pm9 an9 cd9 ct9), sl9⟩)
    (c9 : PySem.W.codeIn K cd9 "need_pair" = true)
    (k9 : PySem.W.keepIn K (.ref f9) = true)
    (a10 : PySem.W.nsIn K mainGlobals "need_events" = some (some (.ref f10)))
    (l10 : K.lookup f10 = some ⟨oc10, od10, .func (PySem.W.fnOf "need_events" "need_events" (defArgs s_need_events) (defBody s_need_events) (defScope s_need_events) .none kv10 dc10 pm10 an10 cd10 ct10), sl10⟩)
    (c10 : PySem.W.codeIn K cd10 "need_events" = true)
    (k10 : PySem.W.keepIn K (.ref f10) = true)
    (a11 : PySem.W.nsIn K mainGlobals "to_front" = some (some (.ref f11)))
    (l11 : K.lookup f11 = some ⟨oc11, od11, .func (PySem.W.fnOf "to_front" "to_front" (defArgs s_to_front) (defBody s_to_front) (defScope s_to_front) .none kv11 dc11 pm11 an11 cd11 ct11), sl11⟩)
    (c11 : PySem.W.codeIn K cd11 "to_front" = true)
    (k11 : PySem.W.keepIn K (.ref f11) = true)
    (a12 : PySem.W.nsIn K mainGlobals "place_told" = some (some (.ref f12)))
    (l12 : K.lookup f12 = some ⟨oc12, od12, .func (PySem.W.fnOf "place_told" "place_told" (defArgs s_place_told) (defBody s_place_told) (defScope s_place_told) .none kv12 dc12 pm12 an12 cd12 ct12), sl12⟩)
    (c12 : PySem.W.codeIn K cd12 "place_told" = true)
    (k12 : PySem.W.keepIn K (.ref f12) = true)
    (a13 : PySem.W.nsIn K mainGlobals "places_heard" = some (some (.ref f13)))
    (l13 : K.lookup f13 = some ⟨oc13, od13, .func (PySem.W.fnOf "places_heard" "places_heard" (defArgs s_places_heard) (defBody s_places_heard) (defScope s_places_heard) .none kv13 dc13 pm13 an13 cd13 ct13), sl13⟩)
    (c13 : PySem.W.codeIn K cd13 "places_heard" = true)
    (k13 : PySem.W.keepIn K (.ref f13) = true)
    (a14 : PySem.W.nsIn K mainGlobals "go" = some (some (.ref f14)))
    (l14 : K.lookup f14 = some ⟨oc14, od14, .func (PySem.W.fnOf "go" "go" (defArgs s_go) (defBody s_go) (defScope s_go) .none kv14 dc14 pm14 an14 cd14 ct14), sl14⟩)
    (c14 : PySem.W.codeIn K cd14 "go" = true)
    (k14 : PySem.W.keepIn K (.ref f14) = true)
    (a15 : PySem.W.nsIn K mainGlobals "gone" = some (some (.ref f15)))
    (l15 : K.lookup f15 = some ⟨oc15, od15, .func (PySem.W.fnOf "gone" "gone" (defArgs s_gone) (defBody s_gone) (defScope s_gone) .none kv15 dc15 pm15 an15 cd15 ct15), sl15⟩)
    (c15 : PySem.W.codeIn K cd15 "gone" = true)
    (k15 : PySem.W.keepIn K (.ref f15) = true)
    (a16 : PySem.W.nsIn K mainGlobals "has_name" = some (some (.ref f16)))
    (l16 : K.lookup f16 = some ⟨oc16, od16, .func (PySem.W.fnOf "has_name" "has_name" (defArgs s_has_name) (defBody s_has_name) (defScope s_has_name) .none kv16 dc16 pm16 an16 cd16 ct16), sl16⟩)
    (c16 : PySem.W.codeIn K cd16 "has_name" = true)
    (k16 : PySem.W.keepIn K (.ref f16) = true)
    (a17 : PySem.W.nsIn K mainGlobals "ring_from" = some (some (.ref f17)))
    (l17 : K.lookup f17 = some ⟨oc17, od17, .func (PySem.W.fnOf "ring_from" "ring_from" (defArgs s_ring_from) (defBody s_ring_from) (defScope s_ring_from) .none kv17 dc17 pm17 an17 cd17 ct17), sl17⟩)
    (c17 : PySem.W.codeIn K cd17 "ring_from" = true)
    (k17 : PySem.W.keepIn K (.ref f17) = true)
    (a18 : PySem.W.nsIn K mainGlobals "rounds" = some (some (.ref f18)))
    (l18 : K.lookup f18 = some ⟨oc18, od18, .func (PySem.W.fnOf "rounds" "rounds" (defArgs s_rounds) (defBody s_rounds) (defScope s_rounds) .none kv18 dc18 pm18 an18 cd18 ct18), sl18⟩)
    (c18 : PySem.W.codeIn K cd18 "rounds" = true)
    (k18 : PySem.W.keepIn K (.ref f18) = true)
    (a19 : PySem.W.nsIn K mainGlobals "behind_round" = some (some (.ref f19)))
    (l19 : K.lookup f19 = some ⟨oc19, od19, .func (PySem.W.fnOf "behind_round" "behind_round" (defArgs s_behind_round) (defBody s_behind_round) (defScope s_behind_round) .none kv19 dc19 pm19 an19 cd19 ct19), sl19⟩)
    (c19 : PySem.W.codeIn K cd19 "behind_round" = true)
    (k19 : PySem.W.keepIn K (.ref f19) = true)
    (a20 : PySem.W.nsIn K mainGlobals "turns_of" = some (some (.ref f20)))
    (l20 : K.lookup f20 = some ⟨oc20, od20, .func (PySem.W.fnOf "turns_of" "turns_of" (defArgs s_turns_of) (defBody s_turns_of) (defScope s_turns_of) .none kv20 dc20 pm20 an20 cd20 ct20), sl20⟩)
    (c20 : PySem.W.codeIn K cd20 "turns_of" = true)
    (k20 : PySem.W.keepIn K (.ref f20) = true)
    (a21 : PySem.W.nsIn K mainGlobals "turned" = some (some (.ref f21)))
    (l21 : K.lookup f21 = some ⟨oc21, od21, .func (PySem.W.fnOf "turned" "turned" (defArgs s_turned) (defBody s_turned) (defScope s_turned) .none kv21 dc21 pm21 an21 cd21 ct21), sl21⟩)
    (c21 : PySem.W.codeIn K cd21 "turned" = true)
    (k21 : PySem.W.keepIn K (.ref f21) = true)
    (a22 : PySem.W.nsIn K mainGlobals "letters_at" = some (some (.ref f22)))
    (l22 : K.lookup f22 = some ⟨oc22, od22, .func (PySem.W.fnOf "letters_at" "letters_at" (defArgs s_letters_at) (defBody s_letters_at) (defScope s_letters_at) .none kv22 dc22 pm22 an22 cd22 ct22), sl22⟩)
    (c22 : PySem.W.codeIn K cd22 "letters_at" = true)
    (k22 : PySem.W.keepIn K (.ref f22) = true)
    (a23 : PySem.W.nsIn K mainGlobals "standing_after" = some (some (.ref f23)))
    (l23 : K.lookup f23 = some ⟨oc23, od23, .func (PySem.W.fnOf "standing_after" "standing_after" (defArgs s_standing_after) (defBody s_standing_after) (defScope s_standing_after) .none kv23 dc23 pm23 an23 cd23 ct23), sl23⟩)
    (c23 : PySem.W.codeIn K cd23 "standing_after" = true)
    (k23 : PySem.W.keepIn K (.ref f23) = true)
    (a24 : PySem.W.nsIn K mainGlobals "_law_spool" = some (some (.ref f24)))
    (l24 : K.lookup f24 = some ⟨oc24, od24, .func (PySem.W.fnOf "_law_spool" "_law_spool" (defArgs s__law_spool) (defBody s__law_spool) (defScope s__law_spool) .none kv24 dc24 pm24 an24 cd24 ct24), sl24⟩)
    (c24 : PySem.W.codeIn K cd24 "_law_spool" = true)
    (k24 : PySem.W.keepIn K (.ref f24) = true)
    (a25 : PySem.W.nsIn K mainGlobals "_law_wind" = some (some (.ref f25)))
    (l25 : K.lookup f25 = some ⟨oc25, od25, .func (PySem.W.fnOf "_law_wind" "_law_wind" (defArgs s__law_wind) (defBody s__law_wind) (defScope s__law_wind) .none kv25 dc25 pm25 an25 cd25 ct25), sl25⟩)
    (c25 : PySem.W.codeIn K cd25 "_law_wind" = true)
    (k25 : PySem.W.keepIn K (.ref f25) = true)
    (a26 : PySem.W.nsIn K mainGlobals "_law_mixed" = some (some (.ref f26)))
    (l26 : K.lookup f26 = some ⟨oc26, od26, .func (PySem.W.fnOf "_law_mixed" "_law_mixed" (defArgs s__law_mixed) (defBody s__law_mixed) (defScope s__law_mixed) .none kv26 dc26 pm26 an26 cd26 ct26), sl26⟩)
    (c26 : PySem.W.codeIn K cd26 "_law_mixed" = true)
    (k26 : PySem.W.keepIn K (.ref f26) = true)
    (a27 : PySem.W.nsIn K mainGlobals "_law_letters" = some (some (.ref f27)))
    (l27 : K.lookup f27 = some ⟨oc27, od27, .func (PySem.W.fnOf "_law_letters" "_law_letters" (defArgs s__law_letters) (defBody s__law_letters) (defScope s__law_letters) .none kv27 dc27 pm27 an27 cd27 ct27), sl27⟩)
    (c27 : PySem.W.codeIn K cd27 "_law_letters" = true)
    (k27 : PySem.W.keepIn K (.ref f27) = true)
    (a28 : PySem.W.nsIn K mainGlobals "_law_two" = some (some (.ref f28)))
    (l28 : K.lookup f28 = some ⟨oc28, od28, .func (PySem.W.fnOf "_law_two" "_law_two" (defArgs s__law_two) (defBody s__law_two) (defScope s__law_two) .none kv28 dc28 pm28 an28 cd28 ct28), sl28⟩)
    (c28 : PySem.W.codeIn K cd28 "_law_two" = true)
    (k28 : PySem.W.keepIn K (.ref f28) = true)
    (a29 : PySem.W.nsIn K mainGlobals "_law_event" = some (some (.ref f29)))
    (l29 : K.lookup f29 = some ⟨oc29, od29, .func (PySem.W.fnOf "_law_event" "_law_event" (defArgs s__law_event) (defBody s__law_event) (defScope s__law_event) .none kv29 dc29 pm29 an29 cd29 ct29), sl29⟩)
    (c29 : PySem.W.codeIn K cd29 "_law_event" = true)
    (k29 : PySem.W.keepIn K (.ref f29) = true)
    (a30 : PySem.W.nsIn K mainGlobals "_law_events" = some (some (.ref f30)))
    (l30 : K.lookup f30 = some ⟨oc30, od30, .func (PySem.W.fnOf "_law_events" "_law_events" (defArgs s__law_events) (defBody s__law_events) (defScope s__law_events) .none kv30 dc30 pm30 an30 cd30 ct30), sl30⟩)
    (c30 : PySem.W.codeIn K cd30 "_law_events" = true)
    (k30 : PySem.W.keepIn K (.ref f30) = true)
    (a31 : PySem.W.nsIn K mainGlobals "_law_front" = some (some (.ref f31)))
    (l31 : K.lookup f31 = some ⟨oc31, od31, .func (PySem.W.fnOf "_law_front" "_law_front" (defArgs s__law_front) (defBody s__law_front) (defScope s__law_front) .none kv31 dc31 pm31 an31 cd31 ct31), sl31⟩)
    (c31 : PySem.W.codeIn K cd31 "_law_front" = true)
    (k31 : PySem.W.keepIn K (.ref f31) = true)
    (a32 : PySem.W.nsIn K mainGlobals "_law_led" = some (some (.ref f32)))
    (l32 : K.lookup f32 = some ⟨oc32, od32, .func (PySem.W.fnOf "_law_led" "_law_led" (defArgs s__law_led) (defBody s__law_led) (defScope s__law_led) .none kv32 dc32 pm32 an32 cd32 ct32), sl32⟩)
    (c32 : PySem.W.codeIn K cd32 "_law_led" = true)
    (k32 : PySem.W.keepIn K (.ref f32) = true)
    (a33 : PySem.W.nsIn K mainGlobals "_law_far" = some (some (.ref f33)))
    (l33 : K.lookup f33 = some ⟨oc33, od33, .func (PySem.W.fnOf "_law_far" "_law_far" (defArgs s__law_far) (defBody s__law_far) (defScope s__law_far) .none kv33 dc33 pm33 an33 cd33 ct33), sl33⟩)
    (c33 : PySem.W.codeIn K cd33 "_law_far" = true)
    (k33 : PySem.W.keepIn K (.ref f33) = true)
    (a34 : PySem.W.nsIn K mainGlobals "_law_turns" = some (some (.ref f34)))
    (l34 : K.lookup f34 = some ⟨oc34, od34, .func (PySem.W.fnOf "_law_turns" "_law_turns" (defArgs s__law_turns) (defBody s__law_turns) (defScope s__law_turns) .none kv34 dc34 pm34 an34 cd34 ct34), sl34⟩)
    (c34 : PySem.W.codeIn K cd34 "_law_turns" = true)
    (k34 : PySem.W.keepIn K (.ref f34) = true)
    (a35 : PySem.W.nsIn K mainGlobals "law" = some (some (.ref f35)))
    (l35 : K.lookup f35 = some ⟨oc35, od35, .func (PySem.W.fnOf "law" "law" (defArgs s_law) (defBody s_law) (defScope s_law) .none kv35 dc35 pm35 an35 cd35 ct35), sl35⟩)
    (c35 : PySem.W.codeIn K cd35 "law" = true)
    (k35 : PySem.W.keepIn K (.ref f35) = true)
    (z_abs : PySem.W.nsIn K mainGlobals "abs" = some none)
    (z_all : PySem.W.nsIn K mainGlobals "all" = some none)
    (z_any : PySem.W.nsIn K mainGlobals "any" = some none)
    (z_int : PySem.W.nsIn K mainGlobals "int" = some none)
    (z_len : PySem.W.nsIn K mainGlobals "len" = some none)
    (z_list : PySem.W.nsIn K mainGlobals "list" = some none)
    (z_max : PySem.W.nsIn K mainGlobals "max" = some none)
    (z_min : PySem.W.nsIn K mainGlobals "min" = some none)
    (z_range : PySem.W.nsIn K mainGlobals "range" = some none)
    (z_repr : PySem.W.nsIn K mainGlobals "repr" = some none)
    (z_set : PySem.W.nsIn K mainGlobals "set" = some none)
    (z_sorted : PySem.W.nsIn K mainGlobals "sorted" = some none)
    (z_str : PySem.W.nsIn K mainGlobals "str" = some none)
    (z_tuple : PySem.W.nsIn K mainGlobals "tuple" = some none)
    (z_type : PySem.W.nsIn K mainGlobals "type" = some none)
    (cM : PySem.W.nsIn K mainGlobals "MOST_LETTERS" = some (some (.int 16 tkM)))
    (cW : PySem.W.nsIn K mainGlobals "WORDS_WITH_ONE_PLACE" = some (some (.ref aW)))
    (lW : K.lookup aW = some ⟨.type "tuple", none, .seq #[.str "place" tw1, .str "lost" tw2, .str "twice" tw3] nW, slW⟩) :
    ∃ fd : FuncData, (∀ (s : Shared) (u : Value), BindsTo s fd ⟨[u], []⟩ [("script", u)]) ∧ ∀ base : Heap, K.In base → base.Ns mainGlobals mg → FnG P w K mg base CX0 7 fa fd ["script"] (sp0 K semLaw) := by
  have e := hfa.symm.trans (PySem.W.mg_of X G a35)
  cases e
  have b : Blt mg := ⟨PySem.W.mg_none_of X G z_abs, PySem.W.mg_none_of X G z_all, PySem.W.mg_none_of X G z_any, PySem.W.mg_none_of X G z_int, PySem.W.mg_none_of X G z_len, PySem.W.mg_none_of X G z_list, PySem.W.mg_none_of X G z_max, PySem.W.mg_none_of X G z_min, PySem.W.mg_none_of X G z_range, PySem.W.mg_none_of X G z_repr, PySem.W.mg_none_of X G z_set, PySem.W.mg_none_of X G z_sorted, PySem.W.mg_none_of X G z_str, PySem.W.mg_none_of X G z_tuple, PySem.W.mg_none_of X G z_type⟩
  have F0 := fun_mk (st := s_is_letter) l0 c0 k0
  have F1 := fun_mk (st := s_is_row) l1 c1 k1
  have F2 := fun_mk (st := s_are_unlike_letters) l2 c2 k2
  have F3 := fun_mk (st := s_is_pair) l3 c3 k3
  have F4 := fun_mk (st := s_is_letter_of) l4 c4 k4
  have F5 := fun_mk (st := s_is_place) l5 c5 k5
  have F6 := fun_mk (st := s_is_event_of) l6 c6 k6
  have F7 := fun_mk (st := s_has_word) l7 c7 k7
  have F8 := fun_mk (st := s_are_unlike_places) l8 c8 k8
  have F9 := fun_mk (st := s_need_pair) l9 c9 k9
  have F10 := fun_mk (st := s_need_events) l10 c10 k10
  have F11 := fun_mk (st := s_to_front) l11 c11 k11
  have F12 := fun_mk (st := s_place_told) l12 c12 k12
  have F13 := fun_mk (st := s_places_heard) l13 c13 k13
  have F14 := fun_mk (st := s_go) l14 c14 k14
  have F15 := fun_mk (st := s_gone) l15 c15 k15
  have F16 := fun_mk (st := s_has_name) l16 c16 k16
  have F17 := fun_mk (st := s_ring_from) l17 c17 k17
  have F18 := fun_mk (st := s_rounds) l18 c18 k18
  have F19 := fun_mk (st := s_behind_round) l19 c19 k19
  have F20 := fun_mk (st := s_turns_of) l20 c20 k20
  have F21 := fun_mk (st := s_turned) l21 c21 k21
  have F22 := fun_mk (st := s_letters_at) l22 c22 k22
  have F23 := fun_mk (st := s_standing_after) l23 c23 k23
  have F24 := fun_mk (st := s__law_spool) l24 c24 k24
  have F25 := fun_mk (st := s__law_wind) l25 c25 k25
  have F26 := fun_mk (st := s__law_mixed) l26 c26 k26
  have F27 := fun_mk (st := s__law_letters) l27 c27 k27
  have F28 := fun_mk (st := s__law_two) l28 c28 k28
  have F29 := fun_mk (st := s__law_event) l29 c29 k29
  have F30 := fun_mk (st := s__law_events) l30 c30 k30
  have F31 := fun_mk (st := s__law_front) l31 c31 k31
  have F32 := fun_mk (st := s__law_led) l32 c32 k32
  have F33 := fun_mk (st := s__law_far) l33 c33 k33
  have F34 := fun_mk (st := s__law_turns) l34 c34 k34
  have F35 := fun_mk (st := s_law) l35 c35 k35
  have cM1 := PySem.W.mg_of X G cM
  have cW1 := PySem.W.mg_of X G cW
  have lW1 : LP K [] (tC (.ref aW)) (fC (.tuple ((["place", "lost", "twice"] : List Str).map PyData.str))) := lp_ctup lW rfl rfl rfl (show 3 ≤ sizeLine by decide) (.cons ⟨_, rfl⟩ (.cons ⟨_, rfl⟩ (.cons ⟨_, rfl⟩ .nil)))
  refine ⟨PySem.W.fnOf "law" "law" (defArgs s_law) (defBody s_law) (defScope s_law) .none kv35 dc35 pm35 an35 cd35 ct35, fun s v => .of_eq rfl, fun base _ _ => ?_⟩
  have H_is_letter := has_of (ok_is_letter (P := P) (w := w) (K := K) (mg := mg) (base := base) b (F := F0)) (PySem.W.mg_of X G a0) F0 fun _ _ _ _ _ _ us hl => match us, hl with | [_], _ => rfl
  have H_is_place := has_of (ok_is_place (P := P) (w := w) (K := K) (mg := mg) (base := base) b (F := F5)) (PySem.W.mg_of X G a5) F5 fun _ _ _ _ _ _ us hl => match us, hl with | [_, _], _ => rfl
  have H_has_word := has_of (ok_has_word (P := P) (w := w) (K := K) (mg := mg) (base := base) b (F := F7)) (PySem.W.mg_of X G a7) F7 fun _ _ _ _ _ _ us hl => match us, hl with | [_], _ => rfl
  have H_to_front := has_of (ok_to_front (P := P) (w := w) (K := K) (mg := mg) (base := base) b (F := F11)) (PySem.W.mg_of X G a11) F11 fun _ _ _ _ _ _ us hl => match us, hl with | [_, _], _ => rfl
  have HA_to_front := hasAt_of (ok_to_front (P := P) (w := w) (K := K) (mg := mg) (base := base) b (F := F11)) F11 fun _ _ _ _ _ _ us hl => match us, hl with | [_, _], _ => rfl
  have H_place_told := has_of (ok_place_told (P := P) (w := w) (K := K) (mg := mg) (base := base) b (F := F12)) (PySem.W.mg_of X G a12) F12 fun _ _ _ _ _ _ us hl => match us, hl with | [_, _], _ => rfl
  have H_places_heard := has_of (ok_places_heard (P := P) (w := w) (K := K) (mg := mg) (base := base) b (F := F13)) (PySem.W.mg_of X G a13) F13 fun _ _ _ _ _ _ us hl => match us, hl with | [_, _], _ => rfl
  have H_has_name := has_of (ok_has_name (P := P) (w := w) (K := K) (mg := mg) (base := base) b (F := F16)) (PySem.W.mg_of X G a16) F16 fun _ _ _ _ _ _ us hl => match us, hl with | [_], _ => rfl
  have H_ring_from := has_of (ok_ring_from (P := P) (w := w) (K := K) (mg := mg) (base := base) b (F := F17)) (PySem.W.mg_of X G a17) F17 fun _ _ _ _ _ _ us hl => match us, hl with | [_, _], _ => rfl
  have H_standing_after := has_of (ok_standing_after (P := P) (w := w) (K := K) (mg := mg) (base := base) b (F := F23)) (PySem.W.mg_of X G a23) F23 fun _ _ _ _ _ _ us hl => match us, hl with | [_, _], _ => rfl
  have H__law_spool := has_of (ok__law_spool (P := P) (w := w) (K := K) (mg := mg) (base := base) b (F := F24)) (PySem.W.mg_of X G a24) F24 fun _ _ _ _ _ _ us hl => match us, hl with | [_, _], _ => rfl
  have H__law_wind := has_of (ok__law_wind (P := P) (w := w) (K := K) (mg := mg) (base := base) b (F := F25)) (PySem.W.mg_of X G a25) F25 fun _ _ _ _ _ _ us hl => match us, hl with | [_, _], _ => rfl
  have H__law_front := has_of (ok__law_front (P := P) (w := w) (K := K) (mg := mg) (base := base) b (F := F31)) (PySem.W.mg_of X G a31) F31 fun _ _ _ _ _ _ us hl => match us, hl with | [_, _], _ => rfl
  have H__law_far := has_of (ok__law_far (P := P) (w := w) (K := K) (mg := mg) (base := base) b (F := F33)) (PySem.W.mg_of X G a33) F33 fun _ _ _ _ _ _ us hl => match us, hl with | [_, _, _], _ => rfl
  have H_are_unlike_letters := has_of (ok_are_unlike_letters (P := P) (w := w) (K := K) (mg := mg) (base := base) b (h_is_letter := H_is_letter) (F := F2)) (PySem.W.mg_of X G a2) F2 fun _ _ _ _ _ _ us hl => match us, hl with | [_], _ => rfl
  have H_is_letter_of := has_of (ok_is_letter_of (P := P) (w := w) (K := K) (mg := mg) (base := base) b (h_is_letter := H_is_letter) (F := F4)) (PySem.W.mg_of X G a4) F4 fun _ _ _ _ _ _ us hl => match us, hl with | [_, _], _ => rfl
  have H_are_unlike_places := has_of (ok_are_unlike_places (P := P) (w := w) (K := K) (mg := mg) (base := base) b (h_is_place := H_is_place) (F := F8)) (PySem.W.mg_of X G a8) F8 fun _ _ _ _ _ _ us hl => match us, hl with | [_, _, _], _ => rfl
  have H_gone__to_front := has_of (ok_gone (P := P) (w := w) (K := K) (mg := mg) (base := base) b (h_place_told := H_place_told) (h_places_heard := H_places_heard)  (f_taken := f11) (h_taken := (HA_to_front).up (by decide)) (F := F15)) (PySem.W.mg_of X G a15) F15 fun _ _ _ _ _ _ us hl => match us, hl with | [_, _, _], _ => rfl
  have H_letters_at := has_of (ok_letters_at (P := P) (w := w) (K := K) (mg := mg) (base := base) b (h_ring_from := H_ring_from) (F := F22)) (PySem.W.mg_of X G a22) F22 fun _ _ _ _ _ _ us hl => match us, hl with | [_, _, _], _ => rfl
  have H__law_mixed := has_of (ok__law_mixed (P := P) (w := w) (K := K) (mg := mg) (base := base) b (h__law_wind := (H__law_wind).impB fun xs ds Q h => (let ⟨n, w, sp, hn, e, w0, w1, q⟩ := h; ⟨n, w, sp, hn, e, w0, by omega, q⟩)) (F := F26)) (PySem.W.mg_of X G a26) F26 fun _ _ _ _ _ _ us hl => match us, hl with | [_, _], _ => rfl
  have H__law_event := has_of (ok__law_event (P := P) (w := w) (K := K) (mg := mg) (base := base) b (h__law_wind := (H__law_wind).impB fun xs ds Q h => (let ⟨n, w, sp, hn, e, w0, w1, q⟩ := h; ⟨n, w, sp, hn, e, w0, by omega, q⟩)) (F := F29)) (PySem.W.mg_of X G a29) F29 fun _ _ _ _ _ _ us hl => match us, hl with | [_, _, _], _ => rfl
  have H__law_led := has_of (ok__law_led (P := P) (w := w) (K := K) (mg := mg) (base := base) b (h__law_front := H__law_front) (F := F32)) (PySem.W.mg_of X G a32) F32 fun _ _ _ _ _ _ us hl => match us, hl with | [_, _], _ => rfl
  have H_is_row := has_of (ok_is_row (P := P) (w := w) (K := K) (mg := mg) (base := base) b (h_are_unlike_letters := H_are_unlike_letters) (c_MOST_LETTERS := cM1) (F := F1)) (PySem.W.mg_of X G a1) F1 fun _ _ _ _ _ _ us hl => match us, hl with | [_], _ => rfl
  have H_is_event_of := has_of (ok_is_event_of (P := P) (w := w) (K := K) (mg := mg) (base := base) b (h_has_word := H_has_word) (h_are_unlike_places := H_are_unlike_places) (h_is_letter_of := H_is_letter_of) (h_is_place := H_is_place) (c_WORDS := cW1) (l_WORDS := lW1) (F := F6)) (PySem.W.mg_of X G a6) F6 fun _ _ _ _ _ _ us hl => match us, hl with | [_, _], _ => rfl
  have H_behind_round := has_of (ok_behind_round (P := P) (w := w) (K := K) (mg := mg) (base := base) b (h_gone__to_front := H_gone__to_front) (m_to_front := PySem.W.mg_of X G a11) (F := F19)) (PySem.W.mg_of X G a19) F19 fun _ _ _ _ _ _ us hl => match us, hl with | [_, _], _ => rfl
  have H_turned := has_of (ok_turned (P := P) (w := w) (K := K) (mg := mg) (base := base) b (h_standing_after := H_standing_after) (h_letters_at := H_letters_at) (F := F21)) (PySem.W.mg_of X G a21) F21 fun _ _ _ _ _ _ us hl => match us, hl with | [_, _, _], _ => rfl
  have H__law_letters := has_of (ok__law_letters (P := P) (w := w) (K := K) (mg := mg) (base := base) b (h__law_wind := (H__law_wind).impB fun xs ds Q h => (let ⟨n, w, sp, hn, e, w0, w1, q⟩ := h; ⟨n, w, sp, hn, e, w0, by omega, q⟩)) (h__law_mixed := H__law_mixed) (F := F27)) (PySem.W.mg_of X G a27) F27 fun _ _ _ _ _ _ us hl => match us, hl with | [_, _], _ => rfl
  have H__law_events := has_of (ok__law_events (P := P) (w := w) (K := K) (mg := mg) (base := base) b (h__law_wind := (H__law_wind).impB fun xs ds Q h => (let ⟨n, w, sp, hn, e, w0, w1, q⟩ := h; ⟨n, w, sp, hn, e, w0, by omega, q⟩)) (h__law_event := H__law_event) (F := F30)) (PySem.W.mg_of X G a30) F30 fun _ _ _ _ _ _ us hl => match us, hl with | [_, _, _, _], _ => rfl
  have H__law_turns := has_of (ok__law_turns (P := P) (w := w) (K := K) (mg := mg) (base := base) b (h__law_led := H__law_led) (F := F34)) (PySem.W.mg_of X G a34) F34 fun _ _ _ _ _ _ us hl => match us, hl with | [_, _], _ => rfl
  have H_is_pair := has_of (ok_is_pair (P := P) (w := w) (K := K) (mg := mg) (base := base) b (h_is_row := H_is_row) (F := F3)) (PySem.W.mg_of X G a3) F3 fun _ _ _ _ _ _ us hl => match us, hl with | [_], _ => rfl
  have H_need_events := has_of (ok_need_events (P := P) (w := w) (K := K) (mg := mg) (base := base) b (h_is_event_of := H_is_event_of) (F := F10)) (PySem.W.mg_of X G a10) F10 fun _ _ _ _ _ _ us hl => match us, hl with | [_, _], _ => rfl
  have H_turns_of := has_of (ok_turns_of (P := P) (w := w) (K := K) (mg := mg) (base := base) b (h_behind_round := H_behind_round) (F := F20)) (PySem.W.mg_of X G a20) F20 fun _ _ _ _ _ _ us hl => match us, hl with | [_, _], _ => rfl
  have H__law_two := has_of (ok__law_two (P := P) (w := w) (K := K) (mg := mg) (base := base) b (h__law_mixed := H__law_mixed) (h__law_letters := H__law_letters) (h__law_wind := (H__law_wind).impB fun xs ds Q h => (let ⟨n, w, sp, hn, e, w0, w1, q⟩ := h; ⟨n, w, sp, hn, e, w0, by omega, q⟩)) (F := F28)) (PySem.W.mg_of X G a28) F28 fun _ _ _ _ _ _ us hl => match us, hl with | [_, _], _ => rfl
  have H_need_pair := has_of (ok_need_pair (P := P) (w := w) (K := K) (mg := mg) (base := base) b (h_is_pair := H_is_pair) (F := F9)) (PySem.W.mg_of X G a9) F9 fun _ _ _ _ _ _ us hl => match us, hl with | [_], _ => rfl
  have H_go := has_of (ok_go (P := P) (w := w) (K := K) (mg := mg) (base := base) b (h_need_pair := H_need_pair) (h_need_events := H_need_events) (h_gone__to_front := H_gone__to_front) (m_to_front := PySem.W.mg_of X G a11) (F := F14)) (PySem.W.mg_of X G a14) F14 fun _ _ _ _ _ _ us hl => match us, hl with | [_, _], _ => rfl
  have H_rounds__many_events_pair : HasK P w K mg base "rounds" 6 _ ["many", "events", "pair"] [2, 1, 0] _ := hasK_of (ok_rounds (P := P) (w := w) (K := K) (mg := mg) (base := base) b (h_need_pair := H_need_pair) (h_need_events := H_need_events) (h_has_name := H_has_name) (h_turns_of := H_turns_of) (h_turned := H_turned) (F := F18)) (PySem.W.mg_of X G a18) F18 fun _ _ _ _ _ _ us hl => match us, hl with | _ :: _ :: _ :: _, _ => rfl
  have H_rounds := has_of (ok_rounds (P := P) (w := w) (K := K) (mg := mg) (base := base) b (h_need_pair := H_need_pair) (h_need_events := H_need_events) (h_has_name := H_has_name) (h_turns_of := H_turns_of) (h_turned := H_turned) (F := F18)) (PySem.W.mg_of X G a18) F18 fun _ _ _ _ _ _ us hl => match us, hl with | [_, _, _], _ => rfl
  exact ok_law (P := P) (w := w) (K := K) (mg := mg) (base := base) b (h__law_spool := H__law_spool) (h__law_two := H__law_two) (h__law_wind := H__law_wind) (h__law_events := H__law_events) (h__law_turns := H__law_turns) (h__law_far := H__law_far) (h_rounds := H_rounds) (h_go := H_go) (h_rounds__many_events_pair := H_rounds__many_events_pair) (F := F35)
end K32
open PySem PySem.W PyProof.Rows
set_option maxHeartbeats 0 in
theorem PySem.Challenge.cw_twonames_k32_rounds_without_names_holds : PySem.Challenge.rw_twonames_k32_rounds_without_names.Holds := by
  w_on; o_law; k_head; (case hw => w_witness2)
  k_fill
  refine TN.law_by (l := PySem.Challenge.rw_twonames_k32_rounds_without_names) (n := 63) (k := 7) (x := "script") (sem := TN.semLaw) rfl (by decide) rfl ⟨rfl, by decide, by decide⟩ (fun w h Y => PySem.W.kIn_of Y) ?F (fun ns Q len q => ⟨ns, rfl, len, q⟩)
  case F =>
    intro w mg fa h KX G hmg
    refine' K32.all_mk KX G hmg ?a0 ?l0 ?c0 ?k0 ?a1 ?l1 ?c1 ?k1 ?a2 ?l2 ?c2 ?k2 ?a3 ?l3 ?c3 ?k3 ?a4 ?l4 ?c4 ?k4 ?a5 ?l5 ?c5 ?k5 ?a6 ?l6 ?c6 ?k6 ?a7 ?l7 ?c7 ?k7 ?a8 ?l8 ?c8 ?k8 ?a9 ?l9 ?c9 ?k9 ?a10 ?l10 ?c10 ?k10 ?a11 ?l11 ?c11 ?k11 ?a12 ?l12 ?c12 ?k12 ?a13 ?l13 ?c13 ?k13 ?a14 ?l14 ?c14 ?k14 ?a15 ?l15 ?c15 ?k15 ?a16 ?l16 ?c16 ?k16 ?a17 ?l17 ?c17 ?k17 ?a18 ?l18 ?c18 ?k18 ?a19 ?l19 ?c19 ?k19 ?a20 ?l20 ?c20 ?k20 ?a21 ?l21 ?c21 ?k21 ?a22 ?l22 ?c22 ?k22 ?a23 ?l23 ?c23 ?k23 ?a24 ?l24 ?c24 ?k24 ?a25 ?l25 ?c25 ?k25 ?a26 ?l26 ?c26 ?k26 ?a27 ?l27 ?c27 ?k27 ?a28 ?l28 ?c28 ?k28 ?a29 ?l29 ?c29 ?k29 ?a30 ?l30 ?c30 ?k30 ?a31 ?l31 ?c31 ?k31 ?a32 ?l32 ?c32 ?k32 ?a33 ?l33 ?c33 ?k33 ?a34 ?l34 ?c34 ?k34 ?a35 ?l35 ?c35 ?k35 ?z_abs ?z_all ?z_any ?z_int ?z_len ?z_list ?z_max ?z_min ?z_range ?z_repr ?z_set ?z_sorted ?z_str ?z_tuple ?z_type ?cM ?cW ?lW
    (case a0 => k_is); (case l0 => k_is); (case c0 => k_is); (case k0 => k_is); (case a1 => k_is); (case l1 => k_is)
    (case c1 => k_is); (case k1 => k_is); (case a2 => k_is); (case l2 => k_is); (case c2 => k_is); (case k2 => k_is)
    (case a3 => k_is); (case l3 => k_is); (case c3 => k_is); (case k3 => k_is); (case a4 => k_is); (case l4 => k_is)
    (case c4 => k_is); (case k4 => k_is); (case a5 => k_is); (case l5 => k_is); (case c5 => k_is); (case k5 => k_is)
    (case a6 => k_is); (case l6 => k_is); (case c6 => k_is); (case k6 => k_is); (case a7 => k_is); (case l7 => k_is)
    (case c7 => k_is); (case k7 => k_is); (case a8 => k_is); (case l8 => k_is); (case c8 => k_is); (case k8 => k_is)
    (case a9 => k_is); (case l9 => k_is); (case c9 => k_is); (case k9 => k_is); (case a10 => k_is); (case l10 => k_is)
    (case c10 => k_is); (case k10 => k_is); (case a11 => k_is); (case l11 => k_is); (case c11 => k_is); (case k11 => k_is)
    (case a12 => k_is); (case l12 => k_is); (case c12 => k_is); (case k12 => k_is); (case a13 => k_is); (case l13 => k_is)
    (case c13 => k_is); (case k13 => k_is); (case a14 => k_is); (case l14 => k_is); (case c14 => k_is); (case k14 => k_is)
    (case a15 => k_is); (case l15 => k_is); (case c15 => k_is); (case k15 => k_is); (case a16 => k_is); (case l16 => k_is)
    (case c16 => k_is); (case k16 => k_is); (case a17 => k_is); (case l17 => k_is); (case c17 => k_is); (case k17 => k_is)
    (case a18 => k_is); (case l18 => k_is); (case c18 => k_is); (case k18 => k_is); (case a19 => k_is); (case l19 => k_is)
    (case c19 => k_is); (case k19 => k_is); (case a20 => k_is); (case l20 => k_is); (case c20 => k_is); (case k20 => k_is)
    (case a21 => k_is); (case l21 => k_is); (case c21 => k_is); (case k21 => k_is); (case a22 => k_is); (case l22 => k_is)
    (case c22 => k_is); (case k22 => k_is); (case a23 => k_is); (case l23 => k_is); (case c23 => k_is); (case k23 => k_is)
    (case a24 => k_is); (case l24 => k_is); (case c24 => k_is); (case k24 => k_is); (case a25 => k_is); (case l25 => k_is)
    (case c25 => k_is); (case k25 => k_is); (case a26 => k_is); (case l26 => k_is); (case c26 => k_is); (case k26 => k_is)
    (case a27 => k_is); (case l27 => k_is); (case c27 => k_is); (case k27 => k_is); (case a28 => k_is); (case l28 => k_is)
    (case c28 => k_is); (case k28 => k_is); (case a29 => k_is); (case l29 => k_is); (case c29 => k_is); (case k29 => k_is)
    (case a30 => k_is); (case l30 => k_is); (case c30 => k_is); (case k30 => k_is); (case a31 => k_is); (case l31 => k_is)
    (case c31 => k_is); (case k31 => k_is); (case a32 => k_is); (case l32 => k_is); (case c32 => k_is); (case k32 => k_is)
    (case a33 => k_is); (case l33 => k_is); (case c33 => k_is); (case k33 => k_is); (case a34 => k_is); (case l34 => k_is)
    (case c34 => k_is); (case k34 => k_is); (case a35 => k_is); (case l35 => k_is); (case c35 => k_is); (case k35 => k_is)
    (case z_abs => k_is); (case z_all => k_is); (case z_any => k_is); (case z_int => k_is); (case z_len => k_is); (case z_list => k_is)
    (case z_max => k_is); (case z_min => k_is); (case z_range => k_is); (case z_repr => k_is); (case z_set => k_is); (case z_sorted => k_is)
    (case z_str => k_is); (case z_tuple => k_is); (case z_type => k_is); (case cM => k_is); (case cW => k_is); (case lW => k_is)
