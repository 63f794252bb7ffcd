import PyProof.Rows.All
import Wide.All
import OpenK.AllK
import Wide.FinOn
import HandS.ForMost
import HandS.ForExc
import HandS.Zip
import HandS.IsInst
import HandS.Wide
import HandS.Flow
import HandS.Lambda
import HandS.More
import HandS.Deep
import HandS.TupAny
import HandS.Conv
import HandS.Style
import HandS.Strs
import KE.GoesMore
import KE.KDictZip
import KE.KDictSum
import HandS.SortOrd
import KE.GoesEnum
import KE.KRevSl
import HandS.Ends
import HandS.Steps
import HandS.CallLocal
import HandS.DictComp
import HandS.Walk
import HandS.Rev
import PyProof.CollectStr
import PyProof.AutoSeq1
import HandS.SortKw
import PyProof.WalkInts
import PyProof.MinMaxWalk
import HandS.SortRule
import PyProof.SumWalk
import KE.LtSeq
import HandS.Small
import HandS.TupMul
import KE.KDictList
import PyProof.FactsAll.NoneType_1
import PyProof.EqKinds
import HandS.Iter
import KE.KNestM
import PySem.Challenge.RW_twonames_k38_explained_long
set_option Elab.async false
set_option linter.all false
set_option maxRecDepth 100000
set_option maxHeartbeats 1000000
set_option autoImplicit false
namespace TN
open PySem PySem.Spec PyProof.Rows L2
abbrev D := PyData



def TupX (K : PySem.W.Frag) (H : Hp) (a : Addr) (xs : List V) : Prop := (∃ o : Obj, H a = some (.frz o (.tup xs)) ∧ o.dict = none) ∨
  ∃ (o : Obj) (its : Array Value) (n : Nat), K.lookup a = some o ∧ o.cls = .type "tuple" ∧ o.dict = none ∧ o.data = .seq its n ∧ its.size ≤ sizeLine ∧ Vals xs its.toList
theorem TupX.sq {K : PySem.W.Frag} {H : Hp} {a : Addr} {xs : List V} (h : TupX K H a xs) : SqT K H a xs := by
  rcases h with ⟨o, h, _⟩ | ⟨o, its, n, h1, h2, _, h3, h4, h5⟩
  · exact .inl (.inr ⟨o, h⟩)
  · exact .inr ⟨o, its, n, h1, h2, h3, h4, h5⟩
theorem tupS {K : PySem.W.Frag} {G G' : Hp} {a : Addr} {xs : List V} (e : Same G G') (h : TupX K G a xs) : TupX K G' a xs := by
  rcases h with ⟨o, h, d⟩ | h
  · exact .inl ⟨o, e _ _ h, d⟩
  · exact .inr h
def keyD : Key → D
  | .inl i => .int i
  | .inr x => .str x
mutual

inductive Dq (K : PySem.W.Frag) (H : Hp) : V → D → Prop
  | non : Dq K H .non .none
  | bl (b : Bool) : Dq K H (.bl b) (.bool b)
  | int (i : Int) : Dq K H (.int i) (.int i)
  | str (x : Str) : Dq K H (.str x) (.str x)
  | lst {a : Addr} {xs : List V} {ds : List D} : SqL K H a xs → DqAll K H xs ds → Dq K H (.ref a) (.list ds)
  | tup {a : Addr} {xs : List V} {ds : List D} : TupX K H a xs → DqAll K H xs ds → Dq K H (.ref a) (.tuple ds)
  | dct {a : Addr} {u : Obj} {ks : List (Key × V)} {kvs : List (D × D)} : H a = some (.frz u (.dK ks)) → DqKs K H ks kvs → Dq K H (.ref a) (.dict kvs)
inductive DqAll (K : PySem.W.Frag) (H : Hp) : List V → List D → Prop
  | nil : DqAll K H [] []
  | cons {v : V} {vs : List V} {d : D} {ds : List D} : Dq K H v d → DqAll K H vs ds → DqAll K H (v :: vs) (d :: ds)
inductive DqKs (K : PySem.W.Frag) (H : Hp) : List (Key × V) → List (D × D) → Prop
  | nil : DqKs K H [] []
  | cons {k : Key} {v : V} {vs : List (Key × V)} {d : D} {ds : List (D × D)} : Dq K H v d → DqKs K H vs ds → DqKs K H ((k, v) :: vs) ((keyD k, d) :: ds)
end
mutual
theorem Dq.dp {K : PySem.W.Frag} {H : Hp} : ∀ {d : D} {v : V}, Dq K H v d → d.hasDict = false → Dp K H v d
  | .none, _, h, _ => by cases h; exact .non
  | .bool _, _, h, _ => by cases h; exact .bl _
  | .int _, _, h, _ => by cases h; exact .int _
  | .str _, _, h, _ => by cases h; exact .str _
  | .list ds, _, h, n => by
    cases h with
    | lst s a => exact .lst s (DqAll.dp a (by simpa only [PyData.hasDict] using n))
  | .tuple ds, _, h, n => by
    cases h with
    | tup s a => exact .tup s.sq (DqAll.dp a (by simpa only [PyData.hasDict] using n))
  | .dict _, _, h, n => by simp only [PyData.hasDict] at n; cases n
theorem DqAll.dp {K : PySem.W.Frag} {H : Hp} : ∀ {ds : List D} {vs : List V}, DqAll K H vs ds → PyData.hasDictAll ds = false → DpAll K H vs ds
  | [], _, h, _ => by cases h; exact .nil
  | d :: ds, _, h, n => by
    have n : (d.hasDict || PyData.hasDictAll ds) = false := by simpa only [PyData.hasDictAll] using n
    rw [Bool.or_eq_false_iff] at n
    cases h with
    | cons a b => exact .cons (Dq.dp a n.1) (DqAll.dp b n.2)
end
theorem noDict_shaped {d : D} (h : SeqAt.shaped d = true) : d.hasDict = false := PyData.hasDict_of_canLay d (SeqAt.canLay_of_shaped h)
theorem rdS {K : PySem.W.Frag} {G G' : Hp} {a : Addr} {xs : List V} (e : Same G G') (h : SqL K G a xs) : SqL K G' a xs := by
  rcases h with (h | ⟨u, h⟩) | h
  · exact .inl (.inl (e _ _ h))
  · exact .inl (.inr ⟨u, e _ _ h⟩)
  · exact .inr h
theorem sqU {K : PySem.W.Frag} {G : Hp} {a : Addr} {xs : List V} (h : G a = some (.lst xs)) : SqL K G a xs := .inl (.inl h)
mutual
theorem dpS {K : PySem.W.Frag} {G G' : Hp} (e : Same G G') : ∀ {d : D} {v : V}, Dq K G v d → Dq K G' v d
  | _, _, .non => .non
  | _, _, .bl _ => .bl _
  | _, _, .int _ => .int _
  | _, _, .str _ => .str _
  | _, _, .lst s a => .lst (rdS e s) (dpsS e a)
  | _, _, .tup s a => .tup (tupS e s) (dpsS e a)
  | _, _, .dct s a => .dct (e _ _ s) (dpkS e a)
theorem dpsS {K : PySem.W.Frag} {G G' : Hp} (e : Same G G') : ∀ {ds : List D} {vs : List V}, DqAll K G vs ds → DqAll K G' vs ds
  | _, _, .nil => .nil
  | _, _, .cons a b => .cons (dpS e a) (dpsS e b)
theorem dpkS {K : PySem.W.Frag} {G G' : Hp} (e : Same G G') : ∀ {ds : List (D × D)} {vs : List (Key × V)}, DqKs K G vs ds → DqKs K G' vs ds
  | _, _, .nil => .nil
  | _, _, .cons a b => .cons (dpS e a) (dpkS e b)
end
theorem dps_len {K : PySem.W.Frag} {G : Hp} : ∀ {ds : List D} {vs : List V}, DqAll K G vs ds → vs.length = ds.length
  | [], _, h => by cases h; rfl
  | d :: ds, _, h => by
    cases h with
    | cons a b => simp [dps_len b]
theorem dps_get {K : PySem.W.Frag} {G : Hp} : ∀ {ds : List D} {vs : List V} {i : Nat} {v : V}, DqAll K G vs ds → vs[i]? = some v → ∃ d, ds[i]? = some d ∧ Dq K G v d
  | [], _, i, v, h, e => by cases h; simp at e
  | d :: ds, _, i, v, h, e => by
    cases h with
    | cons a b =>
      cases i with
      | zero => simp at e; subst e; exact ⟨d, rfl, a⟩
      | succ i => simp at e; obtain ⟨d', h1, h2⟩ := dps_get b e; exact ⟨d', by simpa using h1, h2⟩
theorem dps_of {K : PySem.W.Frag} {G : Hp} : ∀ {ds : List D} {vs : List V} {i : Nat} {d : D}, DqAll K G vs ds → ds[i]? = some d → ∃ v, vs[i]? = some v ∧ Dq K G v d
  | [], _, i, v, h, e => by simp at e
  | d :: ds, _, i, v, h, e => by
    cases h with
    | cons a b =>
      cases i with
      | zero => simp at e; subst e; exact ⟨_, rfl, a⟩
      | succ i => simp at e; obtain ⟨d', h1, h2⟩ := dps_of b e; exact ⟨d', by simpa using h1, h2⟩
theorem dps_app {K : PySem.W.Frag} {G : Hp} : ∀ {ds es : List D} {vs ws : List V}, DqAll K G vs ds → DqAll K G ws es → DqAll K G (vs ++ ws) (ds ++ es)
  | [], _, _, _, h, k => by cases h; exact k
  | d :: ds, _, _, _, h, k => by
    cases h with
    | cons a b => exact .cons a (dps_app b k)
theorem dps_take {K : PySem.W.Frag} {G : Hp} : ∀ {ds : List D} {vs : List V} (n : Nat), DqAll K G vs ds → DqAll K G (vs.take n) (ds.take n)
  | _, _, 0, _ => by simpa using DqAll.nil
  | [], _, n + 1, h => by cases h; exact .nil
  | d :: ds, _, n + 1, h => by
    cases h with
    | cons a b => exact .cons a (dps_take n b)
theorem dps_drop {K : PySem.W.Frag} {G : Hp} : ∀ {ds : List D} {vs : List V} (n : Nat), DqAll K G vs ds → DqAll K G (vs.drop n) (ds.drop n)
  | _, _, 0, h => by simpa using h
  | [], _, n + 1, h => by cases h; exact .nil
  | d :: ds, _, n + 1, h => by
    cases h with
    | cons a b => exact dps_drop n b
theorem dps_rev {K : PySem.W.Frag} {G : Hp} : ∀ {ds : List D} {vs : List V}, DqAll K G vs ds → DqAll K G vs.reverse ds.reverse
  | [], _, h => by cases h; exact .nil
  | d :: ds, _, h => by
    cases h with
    | cons a b =>
      rw [List.reverse_cons, List.reverse_cons]
      exact dps_app (dps_rev b) (.cons a .nil)
theorem dps_set {K : PySem.W.Frag} {G : Hp} {v : V} {d : D} (h : Dq K G v d) : ∀ {ds : List D} {vs : List V} (i : Nat), DqAll K G vs ds → DqAll K G (vs.set i v) (ds.set i d)
  | [], _, i, k => by cases k; simpa using DqAll.nil
  | e :: ds, _, i, k => by
    cases k with
    | cons a b =>
      cases i with
      | zero => exact .cons h b
      | succ i => exact .cons a (dps_set h i b)
theorem same_upd {H : Hp} {p : Addr} {o : HO} (free : H p = none) : Same H (upd H p o) := fun b x e => by
  rw [upd_ne (ne_of_none e free)]; exact e



def tabOf (K : PySem.W.Frag) (x : Str) : Option (Addr × Str) := match PySem.W.nsIn K mainGlobals x with
  | some (some (.ref f)) => match K.lookup f with
    | some ⟨_, _, .func fd, _⟩ => match fd.code with
      | .ref c => match K.lookup c with
        | some ⟨_, _, .fields vs, _⟩ => match vs.getD 11 .none with
          | .ref t => some (t, x ++ ".<locals>." ++ "<lambda>")
          | _ => none
        | _ => none
      | _ => none
    | _ => none
  | _ => none
def tabsOf (K : PySem.W.Frag) : List (Addr × Str) := (["history", "shortest_healing"] : List Str).filterMap (tabOf K)
abbrev TabsK (K : PySem.W.Frag) (H : Hp) : Prop := LamX.Tabs (tabsOf K) H

def plainO : HO → Bool
  | .tbl _ => false
  | .ext _ => false
  | _ => true

def Stays (H H' : Hp) : Prop := ∀ b o, H b = some o → (∀ ps, o ≠ .tbl ps) → H' b = some o
theorem Stays.of {H H' : Hp} (e : Same H H') : Stays H H' := fun b o h _ => e b o h
theorem Stays.trans {H H1 H2 : Hp} (a : Stays H H1) (b : Stays H1 H2) : Stays H H2 := fun c o h n => b c o (a c o h n) n
theorem tabs_keep {K : PySem.W.Frag} {H H' : Hp} (t : TabsK K H) (e : ∀ b o, H b = some o → plainO o = false → H' b = some o) : TabsK K H' := fun p hp => by
  obtain ⟨ps, h1, h2, h3⟩ := t p hp
  refine ⟨ps, e _ _ h1 rfl, h2, fun pos cv hc => ?_⟩
  obtain ⟨c, e1, e2⟩ := h3 pos cv hc
  exact ⟨c, e1, e _ _ e2 rfl⟩
theorem tabs_same {K : PySem.W.Frag} {H H' : Hp} (t : TabsK K H) (e : Same H H') : TabsK K H' := tabs_keep t fun b o h _ => e b o h
theorem tabs_upd {K : PySem.W.Frag} {H : Hp} {a : Addr} {u o : HO} (t : TabsK K H) (e : H a = some u) (p : plainO u = true) : TabsK K (upd H a o) := tabs_keep t fun b x h q => by
  rw [upd_ne (fun z => by subst z; rw [e] at h; injection h with h; subst h; rw [p] at q; cases q)]; exact h
theorem upd_there {H : Hp} {a b : Addr} {o : HO} (h : H b ≠ none) : upd H a o b ≠ none := by
  by_cases e : b = a
  · subst e; rw [upd_same]; exact Option.some_ne_none _
  · rw [upd_ne e]; exact h
theorem rdSt {K : PySem.W.Frag} {G G' : Hp} {a : Addr} {xs : List V} (e : Stays G G') (h : SqL K G a xs) : SqL K G' a xs := by
  rcases h with (h | ⟨u, h⟩) | h
  · exact .inl (.inl (e _ _ h fun _ z => by cases z))
  · exact .inl (.inr ⟨u, e _ _ h fun _ z => by cases z⟩)
  · exact .inr h
theorem tupN {K : PySem.W.Frag} {G G' : Hp} {a : Addr} {xs : List V} (e : Stays G G') (h : TupX K G a xs) : TupX K G' a xs := by
  rcases h with ⟨o, h, d⟩ | h
  · exact .inl ⟨o, e _ _ h (fun _ z => by cases z), d⟩
  · exact .inr h
mutual
theorem dpN {K : PySem.W.Frag} {G G' : Hp} (e : Stays G G') : ∀ {d : D} {v : V}, Dq K G v d → Dq K G' v d
  | _, _, .non => .non
  | _, _, .bl _ => .bl _
  | _, _, .int _ => .int _
  | _, _, .str _ => .str _
  | _, _, .lst s a => .lst (rdSt e s) (dpsN e a)
  | _, _, .tup s a => .tup (tupN e s) (dpsN e a)
  | _, _, .dct s a => .dct (e _ _ s fun _ z => by cases z) (dpkN e a)
theorem dpsN {K : PySem.W.Frag} {G G' : Hp} (e : Stays G G') : ∀ {ds : List D} {vs : List V}, DqAll K G vs ds → DqAll K G' vs ds
  | _, _, .nil => .nil
  | _, _, .cons a b => .cons (dpN e a) (dpsN e b)
theorem dpkN {K : PySem.W.Frag} {G G' : Hp} (e : Stays G G') : ∀ {ds : List (D × D)} {vs : List (Key × V)}, DqKs K G vs ds → DqKs K G' vs ds
  | _, _, .nil => .nil
  | _, _, .cons a b => .cons (dpN e a) (dpkN e b)
end
def NoTab (G : Hp) : Prop := ∀ b ps, G b ≠ some (.tbl ps)
theorem notab_upd {G : Hp} {a : Addr} {o : HO} (n : NoTab G) (h : plainO o = true) : NoTab (upd G a o) := fun b ps z => by
  by_cases e : b = a
  · subst e; rw [upd_same] at z; injection z with z; subst z; cases h
  · rw [upd_ne e] at z; exact n b ps z

def bare (H : Hp) : Hp := fun b => match H b with
  | some (.tbl _) => none
  | o => o
inductive Pt where
  | sh (d : D)
  | ow (xs : List D)
inductive Sl where
  | no
  | sh (d : D)
  | ow (xs : List D)
  | fn (f : Addr)
  | od (kvs : List (Key × D))
  | lk (a : Addr) (u : Obj) (ks : List (Key × V)) (kvs : List (Key × D))
  | tp (ps : List Pt)


structure C0 where
  H : Hp
  G : Hp
  B : List (Nat × Addr)
  bor : List Nat

inductive KsQ (K : PySem.W.Frag) (G : Hp) : List (Key × V) → List (Key × D) → Prop
  | nil : KsQ K G [] []
  | cons {k : Key} {v : V} {d : D} {ks : List (Key × V)} {kvs : List (Key × D)} : Dq K G v d → KsQ K G ks kvs → KsQ K G ((k, v) :: ks) ((k, d) :: kvs)
theorem ksS {K : PySem.W.Frag} {G G' : Hp} (e : Same G G') : ∀ {ks : List (Key × V)} {kvs : List (Key × D)}, KsQ K G ks kvs → KsQ K G' ks kvs
  | _, _, .nil => .nil
  | _, _, .cons a b => .cons (dpS e a) (ksS e b)
def PtOk (K : PySem.W.Frag) (c : C0) (G H : Hp) (v : V) : Pt → Prop
  | .sh d => Dq K G v d
  | .ow xs => ∃ a vs, v = .ref a ∧ H a = some (.lst vs) ∧ DqAll K G vs xs ∧ G a = none ∧ c.H a = none
def PtsOk (K : PySem.W.Frag) (c : C0) (G H : Hp) (vs : List V) (ps : List Pt) : Prop := vs.length = ps.length ∧ ∀ (k : Nat) (v : V) (p : Pt), vs[k]? = some v → ps[k]? = some p → PtOk K c G H v p
def OwAt (vs : List V) (ps : List Pt) (k : Nat) (b : Addr) : Prop := vs[k]? = some (.ref b) ∧ ∃ xs, ps[k]? = some (.ow xs)
def Apart (vs : List V) (ps : List Pt) : Prop := ∀ j k b, j ≠ k → OwAt vs ps j b → OwAt vs ps k b → False

def SlOk (K : PySem.W.Frag) (c : C0) (G H : Hp) (i : Nat) (o : Option (Option V)) : Sl → Prop
  | .no => True
  | .fn f => o = some (some (.ref f))
  | .sh d => ∃ v, o = some (some v) ∧ Dq K G v d
  | .ow xs => ∃ a vs, o = some (some (.ref a)) ∧ H a = some (.lst vs) ∧ DqAll K G vs xs ∧ G a = none ∧ (c.H a = none ∨ (i, a) ∈ c.B)
  | .od kvs => ∃ a ks, o = some (some (.ref a)) ∧ H a = some (.dK ks) ∧ KsQ K G ks kvs ∧ G a = none ∧ c.H a = none
  | .lk a u ks kvs => o = some (some (.ref a)) ∧ H a = some (.frz u (.dK ks)) ∧ KsQ K G ks kvs ∧ G a = none ∧ c.H a = none
  | .tp ps => ∃ a u vs, o = some (some (.ref a)) ∧ G a = some (.frz u (.tup vs)) ∧ u.dict = none ∧ PtsOk K c G H vs ps ∧ Apart vs ps

def Owns (G : Hp) (s : Sl) (o : Option (Option V)) (b : Addr) : Prop := match s with
  | .ow _ => o = some (some (.ref b))
  | .od _ => o = some (some (.ref b))
  | .lk _ _ _ _ => o = some (some (.ref b))
  | .tp ps => ∃ a u vs k, o = some (some (.ref a)) ∧ G a = some (.frz u (.tup vs)) ∧ OwAt vs ps k b
  | _ => False
theorem refI {a b : Addr} {o : Option (Option V)} (h : o = some (some (.ref a))) (h' : o = some (some (.ref b))) : a = b := by
  rw [h] at h'
  injection h' with h'; injection h' with h'; injection h'
section
variable {K : PySem.W.Frag} {c c' : C0} {G G' H H' : Hp} {i : Nat} {o : Option (Option V)} {s : Sl} {b : Addr}
theorem own_at (ok : SlOk K c G H i o s) (h : Owns G s o b) : (∃ u, H b = some u) ∧ G b = none ∧ (c.H b = none ∨ (i, b) ∈ c.B) := by
  cases s with
  | no => exact h.elim
  | sh d => exact h.elim
  | fn f => exact h.elim
  | ow xs =>
    obtain ⟨a, vs, e1, e2, _, e4, e5⟩ := ok
    cases refI e1 h
    exact ⟨⟨_, e2⟩, e4, e5⟩
  | od kvs =>
    obtain ⟨a, vs, e1, e2, _, e4, e5⟩ := ok
    cases refI e1 h
    exact ⟨⟨_, e2⟩, e4, .inl e5⟩
  | lk a u ks kvs =>
    obtain ⟨e1, e2, _, e4, e5⟩ := ok
    cases refI e1 h
    exact ⟨⟨_, e2⟩, e4, .inl e5⟩
  | tp ps =>
    obtain ⟨a, u, vs, e1, e2, _, ⟨el, ep⟩, _⟩ := ok
    obtain ⟨a', u', vs', k, f1, f2, f3, xs, f4⟩ := h
    cases refI e1 f1
    rw [e2] at f2
    injection f2 with f2; injection f2 with _ f2; injection f2 with f2
    subst f2
    obtain ⟨a2, ws, g1, g2, g3, g4, g5⟩ := ep k _ _ f3 f4
    injection g1 with g1
    subst g1
    exact ⟨⟨_, g2⟩, g4, .inl g5⟩
theorem own_kind (ok : SlOk K c G H i o s) (h : Owns G s o b) : ∃ u, H b = some u ∧ plainO u = true := by
  cases s with
  | no => exact h.elim
  | sh d => exact h.elim
  | fn f => exact h.elim
  | ow xs =>
    obtain ⟨a, vs, e1, e2, _⟩ := ok
    cases refI e1 h
    exact ⟨_, e2, rfl⟩
  | od kvs =>
    obtain ⟨a, vs, e1, e2, _⟩ := ok
    cases refI e1 h
    exact ⟨_, e2, rfl⟩
  | lk a u ks kvs =>
    obtain ⟨e1, e2, _⟩ := ok
    cases refI e1 h
    exact ⟨_, e2, rfl⟩
  | tp ps =>
    obtain ⟨a, u, vs, e1, e2, _, ⟨el, ep⟩, _⟩ := ok
    obtain ⟨a', u', vs', k, f1, f2, f3, xs, f4⟩ := h
    cases refI e1 f1
    rw [e2] at f2
    injection f2 with f2; injection f2 with _ f2; injection f2 with f2
    subst f2
    obtain ⟨a2, ws, g1, g2, g3, g4, g5⟩ := ep k _ _ f3 f4
    injection g1 with g1
    subst g1
    exact ⟨_, g2, rfl⟩
theorem own_back (g : Same G G') (ok : SlOk K c G H i o s) (h : Owns G' s o b) : Owns G s o b := by
  cases s with
  | tp ps =>
    obtain ⟨a, u, vs, e1, e2, _⟩ := ok
    obtain ⟨a', u', vs', k, f1, f2, f3⟩ := h
    cases refI e1 f1
    rw [g _ _ e2] at f2
    injection f2 with f2; injection f2 with f0 f2; injection f2 with f2
    subst f2
    exact ⟨a, u, vs, k, e1, e2, f3⟩
  | _ => exact h
theorem SlOk.move (ok : SlOk K c G H i o s) (g : Same G G') (h : ∀ b u, Owns G s o b → H b = some u → H' b = some u ∧ G' b = none ∧ (c.H b = none → c'.H b = none)) (hB : ∀ b, (i, b) ∈ c.B → (i, b) ∈ c'.B) : SlOk K c' G' H' i o s := by
  cases s with
  | no => trivial
  | sh d => obtain ⟨v, e1, e2⟩ := ok; exact ⟨v, e1, dpS g e2⟩
  | fn f => exact ok
  | ow xs =>
    obtain ⟨a, vs, e1, e2, e3, e4, e5⟩ := ok
    obtain ⟨h1, h2, h3⟩ := h a _ e1 e2
    exact ⟨a, vs, e1, h1, dpsS g e3, h2, e5.imp h3 (hB a)⟩
  | od kvs =>
    obtain ⟨a, vs, e1, e2, e3, e4, e5⟩ := ok
    obtain ⟨h1, h2, h3⟩ := h a _ e1 e2
    exact ⟨a, vs, e1, h1, ksS g e3, h2, h3 e5⟩
  | lk a u ks kvs =>
    obtain ⟨e1, e2, e3, e4, e5⟩ := ok
    obtain ⟨h1, h2, h3⟩ := h a _ e1 e2
    exact ⟨e1, h1, ksS g e3, h2, h3 e5⟩
  | tp ps =>
    obtain ⟨a, u, vs, e1, e2, e3, ⟨e4, e5⟩, e6⟩ := ok
    refine ⟨a, u, vs, e1, g _ _ e2, e3, ⟨e4, fun k v p hv hp => ?_⟩, e6⟩
    have q := e5 k v p hv hp
    cases p with
    | sh d => exact dpS g q
    | ow xs =>
      obtain ⟨a2, ws, g1, g2, g3, g4, g5⟩ := q
      subst g1
      obtain ⟨h1, h2, h3⟩ := h a2 _ ⟨a, u, vs, k, e1, e2, hv, xs, hp⟩ g2
      exact ⟨a2, ws, rfl, h1, dpsS g g3, h2, h3 g5⟩
end
structure Rel (K : PySem.W.Frag) (c : C0) (G : Hp) (σ : L2.St) (H : Hp) (ρ : List Sl) : Prop where
  sub : Same G H
  fr : ∀ a o, c.H a = some o → (∀ i, (i, a) ∉ c.B) → (∀ ps, o ≠ .tbl ps) → H a = some o
  ft : ∀ a, c.H a ≠ none → H a ≠ none
  tb : TabsK K H
  nt : NoTab G
  gh : ∀ a, c.H a ≠ none → c.G a = none → G a = none
  len : σ.length = ρ.length
  sl : ∀ (i : Nat) (s : Sl), ρ[i]? = some s → SlOk K c G H i (σ[i]?) s
  sepO : ∀ (i j : Nat) (s t : Sl) (b : Addr), i ≠ j → ρ[i]? = some s → ρ[j]? = some t → Owns G s (σ[i]?) b → Owns G t (σ[j]?) b → False
  bd : ∀ (i : Nat) (a : Addr), (i, a) ∈ c.B → σ[i]? = some (some (.ref a)) ∧ ∃ xs, ρ[i]? = some (.ow xs)
  bs : ∀ (i : Nat) (a : Addr), (i, a) ∈ c.B → i ∈ c.bor


def MineO (c : C0) (G : Hp) (σ : L2.St) (H : Hp) (ρ : List Sl) (p : Addr) (o : HO) : Prop :=
  H p = some o ∧ G p = none ∧ c.H p = none ∧ ∀ (j : Nat) (s : Sl), ρ[j]? = some s → ¬ Owns G s (σ[j]?) p
abbrev Mine (c : C0) (G : Hp) (σ : L2.St) (H : Hp) (ρ : List Sl) (a : Addr) (vs : List V) : Prop := MineO c G σ H ρ a (.lst vs)

section
variable {K : PySem.W.Frag} {c c' : C0} {G G' : Hp} {σ : L2.St} {H H' : Hp} {ρ : List Sl}
theorem Rel.live (R : Rel K c G σ H ρ) {a : Addr} (h : H a = none) : c.H a = none := by
  cases e : c.H a with
  | none => rfl
  | some o => exact absurd h (R.ft a (by rw [e]; exact Option.some_ne_none _))
theorem Rel.owAt (R : Rel K c G σ H ρ) {i : Nat} {xs : List D} (h : ρ[i]? = some (.ow xs)) :
    ∃ a vs, σ[i]? = some (some (.ref a)) ∧ H a = some (.lst vs) ∧ DqAll K G vs xs ∧ G a = none ∧ (c.H a = none ∨ (i, a) ∈ c.B) := R.sl i _ h
theorem Rel.shAt (R : Rel K c G σ H ρ) {i : Nat} {d : D} (h : ρ[i]? = some (.sh d)) : ∃ v, σ[i]? = some (some v) ∧ Dq K G v d := R.sl i _ h
theorem Rel.sep (R : Rel K c G σ H ρ) (i j : Nat) (xs ys : List D) (a : Addr) (n : i ≠ j) (h : ρ[i]? = some (.ow xs)) (h' : ρ[j]? = some (.ow ys)) (e : σ[i]? = some (some (.ref a))) (e' : σ[j]? = some (some (.ref a))) : False :=
  R.sepO i j _ _ a n h h' e e'
theorem Rel.own (R : Rel K c G σ H ρ) {i : Nat} {s : Sl} {b : Addr} (h : ρ[i]? = some s) (o : Owns G s (σ[i]?) b) : (∃ u, H b = some u) ∧ G b = none ∧ (c.H b = none ∨ (i, b) ∈ c.B) := own_at (R.sl i s h) o

theorem Rel.kind (R : Rel K c G σ H ρ) {i : Nat} {s : Sl} {b : Addr} (h : ρ[i]? = some s) (o : Owns G s (σ[i]?) b) : ∃ u, H b = some u ∧ plainO u = true := own_kind (R.sl i s h) o
theorem Rel.notab (R : Rel K c G σ H ρ) {i : Nat} {s : Sl} {b : Addr} {u : HO} (h : ρ[i]? = some s) (o : Owns G s (σ[i]?) b) (e : H b = some u) : ∀ ps, u ≠ .tbl ps := fun ps z => by
  obtain ⟨u', e1, e2⟩ := R.kind h o
  rw [e1] at e; injection e with e; rw [e, z] at e2; cases e2
theorem Rel.move (R : Rel K c G σ H ρ) (sub : Same G' H') (fr : ∀ a o, c'.H a = some o → (∀ i, (i, a) ∉ c'.B) → (∀ ps, o ≠ .tbl ps) → H' a = some o) (ft : ∀ a, c'.H a ≠ none → H' a ≠ none) (tb : TabsK K H') (nt : NoTab G') (gh : ∀ a, c'.H a ≠ none → c'.G a = none → G' a = none) (g : Same G G') (hB : c'.B = c.B) (hb : c'.bor = c.bor)
    (h : ∀ (b : Addr) (u : HO) (i : Nat) (s : Sl), ρ[i]? = some s → Owns G s (σ[i]?) b → H b = some u → H' b = some u ∧ G' b = none ∧ (c.H b = none → c'.H b = none)) : Rel K c' G' σ H' ρ :=
  ⟨sub, fr, ft, tb, nt, gh, R.len, fun i s e => (R.sl i s e).move g (fun b u ob eb => h b u i s e ob eb) fun b z => hB ▸ z,
   fun i j s t b n e1 e2 o1 o2 => R.sepO i j s t b n e1 e2 (own_back g (R.sl i s e1) o1) (own_back g (R.sl j t e2) o2), fun i a z => R.bd i a (hB ▸ z), fun i a z => hb ▸ R.bs i a (hB ▸ z)⟩

theorem Rel.extN (R : Rel K c G σ H ρ) (h1 : Stays H H') (h0 : ∀ a, H a ≠ none → H' a ≠ none) (ht : TabsK K H → TabsK K H') (h2 : Same G G') (h3 : Same G' H') (h4 : ∀ a, H a ≠ none → G a = none → G' a = none) (h5 : NoTab G') : Rel K c G' σ H' ρ :=
  R.move h3 (fun a o e q n => h1 _ _ (R.fr a o e q n) n) (fun a e => h0 a (R.ft a e)) (ht R.tb) h5 (fun a e q => h4 a (fun z => e (R.live z)) (R.gh a e q)) h2 rfl rfl fun b u i s e ob eb =>
    ⟨h1 _ _ eb (R.notab e ob eb), h4 b (by rw [eb]; simp) (R.own e ob).2.1, id⟩
theorem Rel.ext (R : Rel K c G σ H ρ) (h1 : Same H H') (h2 : Same G G') (h3 : Same G' H') (h4 : ∀ a, H a ≠ none → G a = none → G' a = none) (h5 : NoTab G') : Rel K c G' σ H' ρ :=
  R.extN (.of h1) (fun a e z => e (h1.free z)) (fun t => tabs_same t h1) h2 h3 h4 h5

theorem Rel.rewr (R : Rel K c G σ H ρ) {i : Nat} {s s' : Sl} (hs : ρ[i]? = some s) (g : Same G G') (sub : Same G' H') (nG : ∀ b, H b ≠ none → G b = none → G' b = none)
    (far : ∀ b u, ¬ Owns G s (σ[i]?) b → H b = some u → (∀ ps, u ≠ .tbl ps) → H' b = some u) (there : ∀ b, H b ≠ none → H' b ≠ none) (tb : TabsK K H → TabsK K H') (nt : NoTab G') (ok : SlOk K c G' H' i (σ[i]?) s') (od : ∀ b, Owns G' s' (σ[i]?) b → Owns G s (σ[i]?) b) (bo : (∃ xs, s = .ow xs) → ∃ ys, s' = .ow ys) : Rel K c G' σ H' (ρ.set i s') := by
  have hi : i < ρ.length := (List.getElem?_eq_some_iff.mp hs).1
  have lift : ∀ {m : Nat} {t : Sl} {b : Addr}, (ρ.set i s')[m]? = some t → Owns G' t (σ[m]?) b → ∃ t', ρ[m]? = some t' ∧ Owns G t' (σ[m]?) b := fun {m t b} e ob => by
    by_cases hm : m = i
    · subst hm
      rw [List.getElem?_set_self hi] at e
      injection e with e; subst e
      exact ⟨s, hs, od b ob⟩
    · rw [List.getElem?_set_ne (Ne.symm hm)] at e
      exact ⟨t, e, own_back g (R.sl m t e) ob⟩
  refine ⟨sub, fun a o e q n => ?_, fun a e z => ?_, tb R.tb, nt, fun a e q => nG a (fun z => e (R.live z)) (R.gh a e q), by simpa using R.len, fun j t e => ?_, fun j k t u b n e1 e2 o1 o2 => ?_, fun j a z => ?_, R.bs⟩
  · refine far a o (fun ob => ?_) (R.fr a o e q n) n
    rcases (R.own hs ob).2.2 with z | z
    · rw [z] at e; cases e
    · exact q i z
  · exact there a (R.ft a e) z
  · by_cases hj : j = i
    · subst hj
      rw [List.getElem?_set_self hi] at e
      injection e with e; subst e
      exact ok
    · rw [List.getElem?_set_ne (Ne.symm hj)] at e
      exact (R.sl j t e).move g (fun b u ob eb => ⟨far b u (fun oi => R.sepO j i _ _ b hj e hs ob oi) eb (R.notab e ob eb), nG b (by rw [eb]; simp) (R.own e ob).2.1, id⟩) fun _ z => z
  · obtain ⟨t', f1, f2⟩ := lift e1 o1
    obtain ⟨u', f3, f4⟩ := lift e2 o2
    exact R.sepO j k t' u' b n f1 f3 f2 f4
  · obtain ⟨f1, xs, f2⟩ := R.bd j a z
    refine ⟨f1, ?_⟩
    by_cases hj : j = i
    · subst hj
      rw [hs] at f2
      injection f2 with f2
      obtain ⟨ys, ey⟩ := bo ⟨xs, f2⟩
      subst ey
      exact ⟨ys, by rw [List.getElem?_set_self hi]⟩
    · exact ⟨xs, by rw [List.getElem?_set_ne (Ne.symm hj)]; exact f2⟩

theorem Rel.change (R : Rel K c G σ H ρ) {i : Nat} {xs ys : List D} {a : Addr} {ws : List V} (h : ρ[i]? = some (.ow xs)) (ha : σ[i]? = some (some (.ref a))) (hw : DqAll K G ws ys) :
    Rel K c G σ (upd H a (.lst ws)) (ρ.set i (.ow ys)) := by
  obtain ⟨b, vs, e1, e2, e3, e4, e5⟩ := R.owAt h
  cases refI ha e1
  refine R.rewr h (Same.refl _) (fun b o e => by rw [upd_ne (fun z => by subst z; rw [e4] at e; cases e)]; exact R.sub _ _ e) (fun _ _ z => z) (fun b u n e _ => by rw [upd_ne (fun z => n (by subst z; exact ha))]; exact e) (fun _ z => upd_there z) (fun t => tabs_upd t e2 rfl) R.nt
    ⟨a, ws, ha, upd_same, hw, e4, e5⟩ (fun b z => z) fun _ => ⟨ys, rfl⟩

theorem Rel.put (R : Rel K c G σ H ρ) {i : Nat} {o : Option V} {s : Sl} (hB : ∀ a, (i, a) ∉ c.B) (ok : SlOk K c G H i (some o) s) (fresh : ∀ j t b, j ≠ i → ρ[j]? = some t → Owns G t (σ[j]?) b → Owns G s (some o) b → False) : Rel K c G (σ.set i o) H (ρ.set i s) := by
  refine ⟨R.sub, R.fr, R.ft, R.tb, R.nt, R.gh, by simpa using R.len, fun j t e => ?_, fun j k t u b n e1 e2 o1 o2 => ?_, fun j b hj => ?_, R.bs⟩
  · by_cases hj : j = i
    · subst hj
      by_cases hi : j < ρ.length
      · rw [List.getElem?_set_self hi] at e
        injection e with e; subst e
        rw [List.getElem?_set_self (by rw [R.len]; exact hi)]; exact ok
      · rw [List.getElem?_eq_none (by simp; omega)] at e; cases e
    · rw [List.getElem?_set_ne (Ne.symm hj)] at e ⊢
      exact R.sl j t e
  · have get : ∀ {m : Nat} {t : Sl}, (ρ.set i s)[m]? = some t → Owns G t ((σ.set i o)[m]?) b → (m = i ∧ Owns G s (some o) b) ∨ (m ≠ i ∧ ρ[m]? = some t ∧ Owns G t (σ[m]?) b) := fun {m t} e ob => by
      by_cases hm : m = i
      · subst hm
        by_cases hi : m < ρ.length
        · rw [List.getElem?_set_self hi] at e
          injection e with e; subst e
          rw [List.getElem?_set_self (by rw [R.len]; exact hi)] at ob
          exact .inl ⟨rfl, ob⟩
        · rw [List.getElem?_eq_none (by simp; omega)] at e; cases e
      · rw [List.getElem?_set_ne (Ne.symm hm)] at e ob
        exact .inr ⟨hm, e, ob⟩
    rcases get e1 o1 with ⟨h1, p1⟩ | ⟨h1, p1, p2⟩
    · rcases get e2 o2 with ⟨h2, _⟩ | ⟨h2, q1, q2⟩
      · exact n (h1.trans h2.symm)
      · exact fresh k u b h2 q1 q2 p1
    · rcases get e2 o2 with ⟨h2, q1⟩ | ⟨h2, q1, q2⟩
      · exact fresh j t b h1 p1 p2 q1
      · exact R.sepO j k t u b n p1 q1 p2 q2
  · have : j ≠ i := fun z => by subst z; exact hB b hj
    rw [List.getElem?_set_ne (Ne.symm this), List.getElem?_set_ne (Ne.symm this)]
    exact R.bd j b hj

theorem Rel.store (R : Rel K c G σ H ρ) {i : Nat} {v : V} {d : D} (hB : ∀ a, (i, a) ∉ c.B) (hd : Dq K G v d) : Rel K c G (σ.set i (some v)) H (ρ.set i (.sh d)) :=
  R.put hB ⟨v, rfl, hd⟩ fun _ _ _ _ _ _ z => z.elim

theorem Rel.storeO (R : Rel K c G σ H ρ) {i : Nat} {a : Addr} {vs : List V} {xs : List D} (hB : ∀ a, (i, a) ∉ c.B) (m : Mine c G σ H ρ a vs) (hd : DqAll K G vs xs) : Rel K c G (σ.set i (some (.ref a))) H (ρ.set i (.ow xs)) :=
  R.put hB ⟨a, vs, rfl, m.1, hd, m.2.1, .inl m.2.2.1⟩ fun j t b _ e o1 o2 => by
    cases refI (rfl : some (some (V.ref a)) = _) o2
    exact m.2.2.2 j t e o1

theorem Rel.forget (R : Rel K c G σ H ρ) {i : Nat} (hB : ∀ a, (i, a) ∉ c.B) (o : Option V) : Rel K c G (σ.set i o) H (ρ.set i .no) :=
  R.put hB trivial fun _ _ _ _ _ _ z => z.elim
theorem set_back {α : Type} {l : List α} {i : Nat} {x : α} (h : l[i]? = some x) : l.set i x = l := by
  apply List.ext_getElem?
  intro j
  by_cases hj : j = i
  · subst hj
    rw [List.getElem?_set_self (List.getElem?_eq_some_iff.mp h).1, h]
  · rw [List.getElem?_set_ne (Ne.symm hj)]

theorem Rel.keep (R : Rel K c G σ H ρ) {a : Addr} {o : HO} (m : MineO c G σ H ρ a o) (hk : plainO o = true := by rfl) : Same G (upd G a o) ∧ Rel K c (upd G a o) σ H ρ := by
  obtain ⟨m1, m2, m3, m4⟩ := m
  refine ⟨same_upd m2, R.move (fun b u e => ?_) R.fr R.ft R.tb (notab_upd R.nt hk) (fun b q1 q2 => ?_) (same_upd m2) rfl rfl fun b u i s e ob eb => ⟨eb, ?_, id⟩⟩
  · by_cases hb : b = a
    · subst hb; rw [upd_same] at e; injection e with e; rw [← e]; exact m1
    · rw [upd_ne hb] at e; exact R.sub _ _ e
  · rw [upd_ne (fun z => by subst z; exact q1 m3)]; exact R.gh b q1 q2
  · rw [upd_ne (fun z => by subst z; exact m4 i s e ob)]; exact (R.own e ob).2.1

theorem Rel.others (R : Rel K c G σ H ρ) {i : Nat} {s : Sl} {b : Addr} (h : ρ[i]? = some s) (ob : Owns G s (σ[i]?) b) : ∀ (j : Nat) (t : Sl), (ρ.set i .no)[j]? = some t → ¬ Owns G t (σ[j]?) b := fun j t e oj => by
  by_cases hj : j = i
  · subst hj
    rw [List.getElem?_set_self (List.getElem?_eq_some_iff.mp h).1] at e
    injection e with e; subst e; exact oj
  · rw [List.getElem?_set_ne (Ne.symm hj)] at e
    exact R.sepO j i t s b hj e h oj ob
theorem Rel.drop (R : Rel K c G σ H ρ) {i : Nat} {s : Sl} {o : Option V} (h : ρ[i]? = some s) (e : σ[i]? = some o) (hB : ∀ a, (i, a) ∉ c.B) : Rel K c G σ H (ρ.set i .no) := by
  have := R.forget hB o
  rw [set_back e] at this
  exact this

theorem Rel.freeze (R : Rel K c G σ H ρ) {i : Nat} {xs : List D} (h : ρ[i]? = some (.ow xs)) (hB : ∀ a, (i, a) ∉ c.B) :
    ∃ a G', σ[i]? = some (some (.ref a)) ∧ Same G G' ∧ Rel K c G' σ H (ρ.set i (.sh (.list xs))) ∧ Dq K G' (.ref a) (.list xs) := by
  obtain ⟨a, vs, e1, e2, e3, e4, e5⟩ := R.owAt h
  have h0 : c.H a = none := by
    rcases e5 with z | z
    · exact z
    · exact absurd z (hB a)
  obtain ⟨s1, R1⟩ := (R.drop h e1 hB).keep (a := a) (o := .lst vs) ⟨e2, e4, h0, R.others h e1⟩
  have dp : Dq K (upd G a (.lst vs)) (.ref a) (.list xs) := .lst (sqU upd_same) (dpsS s1 e3)
  have R2 := R1.store (i := i) hB dp
  rw [set_back e1, List.set_set] at R2
  exact ⟨a, _, e1, s1, R2, dp⟩
end
end TN
set_option Elab.async false
set_option linter.all false
set_option maxRecDepth 100000
set_option maxHeartbeats 1000000
set_option autoImplicit false
namespace TN
open PySem PySem.Spec PyProof.Rows L2
structure Grow (K : PySem.W.Frag) (G H G' H' : Hp) : Prop where
  h : Stays H H'
  g : Same G G'
  s : Same G' H'
  n : ∀ a, H a ≠ none → G a = none → G' a = none
  d : ∀ a, H a ≠ none → H' a ≠ none
  t : TabsK K H → TabsK K H'
  m : NoTab G → NoTab G'
theorem Grow.of {K : PySem.W.Frag} {G H G' H' : Hp} (h : Same H H') (g : Same G G') (s : Same G' H') (n : ∀ a, H a ≠ none → G a = none → G' a = none) (m : NoTab G → NoTab G' := by exact id) : Grow K G H G' H' :=
  ⟨.of h, g, s, n, fun _ e z => e (h.free z), fun t => tabs_same t h, m⟩
theorem Grow.refl {K : PySem.W.Frag} {G H : Hp} (s : Same G H) : Grow K G H G H := .of (Same.refl _) (Same.refl _) s fun _ _ h => h
theorem Grow.trans {K : PySem.W.Frag} {G H G1 H1 G2 H2 : Hp} (a : Grow K G H G1 H1) (b : Grow K G1 H1 G2 H2) : Grow K G H G2 H2 :=
  ⟨a.h.trans b.h, a.g.trans b.g, b.s, fun x h1 h2 => b.n x (a.d x h1) (a.n x h1 h2), fun x h => b.d x (a.d x h), fun h => b.t (a.t h), fun h => b.m (a.m h)⟩
theorem Rel.grow {K : PySem.W.Frag} {c : C0} {G G' : Hp} {σ : L2.St} {H H' : Hp} {ρ : List Sl} (R : Rel K c G σ H ρ) (g : Grow K G H G' H') : Rel K c G' σ H' ρ := R.extN g.h g.d g.t g.g g.s g.n (g.m R.nt)
theorem Grow.k {K : PySem.W.Frag} {G H G' H' : Hp} (g : Grow K G H G' H') {b : Addr} {o : HO} (e : H b = some o) (n : plainO o = true := by rfl) : H' b = some o := g.h b o e fun _ z => by subst z; cases n

theorem grow_new {K : PySem.W.Frag} {G H : Hp} {p : Addr} {o : HO} (s : Same G H) (hp : H p = none) (hk : plainO o = true := by rfl) : Grow K G H (upd G p o) (upd H p o) := by
  have gp : G p = none := s.free hp
  refine .of (same_upd hp) (same_upd gp) (fun b u e => ?_) (fun a h1 h2 => ?_) fun m => notab_upd m hk
  · by_cases hb : b = p
    · subst hb; rw [upd_same] at e ⊢; exact e
    · rw [upd_ne hb] at e ⊢; exact s _ _ e
  · rw [upd_ne (fun z : a = p => h1 (by rw [z]; exact hp))]; exact h2

theorem grow_own {K : PySem.W.Frag} {G H : Hp} {p : Addr} {o : HO} (s : Same G H) (hp : H p = none) : Grow K G H G (upd H p o) :=
  .of (same_upd hp) (Same.refl _) (s.trans (same_upd hp)) fun _ _ h => h


def DpM (K : PySem.W.Frag) (G H : Hp) (v : V) (d : D) : Prop := Dq K G v d ∨ ∃ a vs ds, v = .ref a ∧ d = .list ds ∧ SqL K H a vs ∧ DqAll K G vs ds
theorem DpM.now {K : PySem.W.Frag} {G H : Hp} {v : V} {d : D} (s : Same G H) (h : DpM K G H v d) : Dq K H v d := by
  rcases h with h | ⟨a, vs, ds, rfl, rfl, h1, h2⟩
  · exact dpS s h
  · exact .lst h1 (dpsS s h2)
theorem DpM.grow {K : PySem.W.Frag} {G H G' H' : Hp} {v : V} {d : D} (g : Grow K G H G' H') (h : DpM K G H v d) : DpM K G' H' v d := by
  rcases h with h | ⟨a, vs, ds, rfl, rfl, h1, h2⟩
  · exact .inl (dpS g.g h)
  · exact .inr ⟨a, vs, ds, rfl, rfl, rdSt g.h h1, dpsS g.g h2⟩

theorem DpM.list {K : PySem.W.Frag} {G H : Hp} {v : V} {ds : List D} (s : Same G H) (h : DpM K G H v (.list ds)) : ∃ a vs, v = .ref a ∧ SqL K H a vs ∧ DqAll K G vs ds := by
  rcases h with h | ⟨a, vs, es, rfl, e, h1, h2⟩
  · cases h with
    | lst h1 h2 => exact ⟨_, _, rfl, rdS s h1, h2⟩
  · injection e with e; subst e; exact ⟨a, vs, rfl, h1, h2⟩
theorem DpM.tup {K : PySem.W.Frag} {G H : Hp} {v : V} {ds : List D} (s : Same G H) (h : DpM K G H v (.tuple ds)) : ∃ a vs, v = .ref a ∧ SqT K H a vs ∧ DqAll K G vs ds := by
  rcases h with h | ⟨a, vs, es, rfl, e, h1, h2⟩
  · cases h with
    | tup h1 h2 => exact ⟨_, _, rfl, (tupS s h1).sq, h2⟩
  · cases e
theorem DpM.tupX {K : PySem.W.Frag} {G H : Hp} {v : V} {ds : List D} (s : Same G H) (h : DpM K G H v (.tuple ds)) : ∃ a vs, v = .ref a ∧ TupX K H a vs ∧ DqAll K G vs ds := by
  rcases h with h | ⟨a, vs, es, rfl, e, h1, h2⟩
  · cases h with
    | tup h1 h2 => exact ⟨_, _, rfl, tupS s h1, h2⟩
  · cases e
theorem DpM.int {K : PySem.W.Frag} {G H : Hp} {v : V} {i : Int} (h : DpM K G H v (.int i)) : v = .int i := by
  rcases h with h | ⟨_, _, _, _, e, _⟩
  · cases h; rfl
  · cases e
theorem DpM.str {K : PySem.W.Frag} {G H : Hp} {v : V} {x : Str} (h : DpM K G H v (.str x)) : v = .str x := by
  rcases h with h | ⟨_, _, _, _, e, _⟩
  · cases h; rfl
  · cases e
theorem DpM.bl {K : PySem.W.Frag} {G H : Hp} {v : V} {b : Bool} (h : DpM K G H v (.bool b)) : v = .bl b := by
  rcases h with h | ⟨_, _, _, _, e, _⟩
  · cases h; rfl
  · cases e
theorem DpM.non {K : PySem.W.Frag} {G H : Hp} {v : V} (h : DpM K G H v .none) : v = .non := by
  rcases h with h | ⟨_, _, _, _, e, _⟩
  · cases h; rfl
  · cases e



abbrev FE := List Sl → Option D
abbrev TDE := List Sl → (D → List Sl → Prop) → Prop
abbrev TDL := List Sl → (List D → List Sl → Prop) → Prop
abbrev TDT := List Sl → (Bool → List Sl → Prop) → Prop

def LM (K : PySem.W.Frag) (bor : List Nat) (tH : TE) (f : FE) : Prop :=
  ∀ ⦃c : C0⦄ ⦃G : Hp⦄ ⦃σ : L2.St⦄ ⦃H : Hp⦄ ⦃ρ : List Sl⦄ ⦃d : D⦄ ⦃Q : VK⦄, c.bor = bor → Rel K c G σ H ρ → f ρ = some d → (∀ v G' H', Grow K G H G' H' → DpM K G' H' v d → Q v H') → tH σ H Q
def LP (K : PySem.W.Frag) (bor : List Nat) (tH : TE) (f : FE) : Prop :=
  ∀ ⦃c : C0⦄ ⦃G : Hp⦄ ⦃σ : L2.St⦄ ⦃H : Hp⦄ ⦃ρ : List Sl⦄ ⦃d : D⦄ ⦃Q : VK⦄, c.bor = bor → Rel K c G σ H ρ → f ρ = some d → (∀ v G' H', Grow K G H G' H' → Dq K G' v d → Q v H') → tH σ H Q
def LE (K : PySem.W.Frag) (bor : List Nat) (tH : TE) (t : TDE) : Prop :=
  ∀ ⦃c : C0⦄ ⦃G : Hp⦄ ⦃σ : L2.St⦄ ⦃H : Hp⦄ ⦃ρ : List Sl⦄ ⦃Qd : D → List Sl → Prop⦄ ⦃Q : VK⦄, c.bor = bor → Rel K c G σ H ρ → t ρ Qd →
    (∀ v H' G' ρ' d, Same G G' → Rel K c G' σ H' ρ' → Dq K G' v d → Qd d ρ' → Q v H') → tH σ H Q
def LL (K : PySem.W.Frag) (bor : List Nat) (tH : TE) (t : TDL) : Prop :=
  ∀ ⦃c : C0⦄ ⦃G : Hp⦄ ⦃σ : L2.St⦄ ⦃H : Hp⦄ ⦃ρ : List Sl⦄ ⦃Qd : List D → List Sl → Prop⦄ ⦃Q : VK⦄, c.bor = bor → Rel K c G σ H ρ → t ρ Qd →
    (∀ a vs H' G' ρ' ds, Same G G' → Rel K c G' σ H' ρ' → Mine c G' σ H' ρ' a vs → DqAll K G' vs ds → Qd ds ρ' → Q (.ref a) H') → tH σ H Q
def LT (K : PySem.W.Frag) (bor : List Nat) (tH : TT) (t : TDT) : Prop :=
  ∀ ⦃c : C0⦄ ⦃G : Hp⦄ ⦃σ : L2.St⦄ ⦃H : Hp⦄ ⦃ρ : List Sl⦄ ⦃Qd : Bool → List Sl → Prop⦄ ⦃Q : Bool → Hp → Prop⦄, c.bor = bor → Rel K c G σ H ρ → t ρ Qd →
    (∀ b H' G' ρ', Same G G' → Rel K c G' σ H' ρ' → Qd b ρ' → Q b H') → tH σ H Q

def LB (K : PySem.W.Frag) (bor : List Nat) (tH : TT) (f : List Sl → Option Bool) : Prop :=
  ∀ ⦃c : C0⦄ ⦃G : Hp⦄ ⦃σ : L2.St⦄ ⦃H : Hp⦄ ⦃ρ : List Sl⦄ ⦃b : Bool⦄ ⦃Q : Bool → Hp → Prop⦄, c.bor = bor → Rel K c G σ H ρ → f ρ = some b → (∀ G' H', Grow K G H G' H' → Q b H') → tH σ H Q

def dP (f : FE) : TDE := fun ρ Q => ∃ d, f ρ = some d ∧ Q d ρ
def dB (f : List Sl → Option Bool) : TDT := fun ρ Q => ∃ b, f ρ = some b ∧ Q b ρ

section
variable {K : PySem.W.Frag} {bor : List Nat} {tH ta tb : TE} {f g : FE} {A B : TDE}
theorem LP.m (h : LP K bor tH f) : LM K bor tH f := fun {_ _ _ _ _ _ _} hc R e k => h hc R e fun v G' H' g d => k v G' H' g (.inl d)
theorem LP.e (h : LP K bor tH f) : LE K bor tH (dP f) := fun {_ _ _ _ _ _ _} hc R ⟨d, e, q⟩ k => h hc R e fun v G' H' g dp => k v H' G' _ d g.g (R.grow g) dp q
def dKeep (t : TDL) : TDE := fun ρ Q => t ρ fun ds ρ' => Q (.list ds) ρ'

theorem LL.e {t : TDL} (h : LL K bor tH t) : LE K bor tH (dKeep t) := fun {_ _ _ _ _ _ _} hc R q k =>
  h hc R q fun a vs H' G' ρ' ds s R' m dp qd => by
    obtain ⟨sm, R2⟩ := R'.keep m
    exact k _ _ (upd G' a (.lst vs)) ρ' _ (s.trans sm) R2 (.lst (sqU upd_same) (dpsS sm dp)) qd


def fVar (i : Nat) : FE := fun ρ => match ρ[i]? with
  | some (.sh d) => some d
  | _ => none

def fPeek (i : Nat) : FE := fun ρ => match ρ[i]? with
  | some (.sh d) => some d
  | some (.ow xs) => some (.list xs)
  | _ => none

def dVar (i : Nat) : TDE := fun ρ Q => match ρ[i]? with
  | some (.sh d) => Q d ρ
  | some (.ow xs) => Q (.list xs) (ρ.set i (.sh (.list xs)))
  | _ => False
theorem lp_var {i : Nat} : LP K bor (tVar i) (fVar i) := fun {c G σ H ρ d Q} hc R e k => by
  unfold fVar at e
  split at e
  · rename_i d' h
    injection e with e; subst e
    obtain ⟨v, e1, e2⟩ := R.shAt h
    exact ⟨v, e1, k v G H (.refl R.sub) e2⟩
  · cases e
theorem lm_peek {i : Nat} : LM K bor (tVar i) (fPeek i) := fun {c G σ H ρ d Q} hc R e k => by
  unfold fPeek at e
  split at e
  · rename_i d' h
    injection e with e; subst e
    obtain ⟨v, e1, e2⟩ := R.shAt h
    exact ⟨v, e1, k v G H (.refl R.sub) (.inl e2)⟩
  · rename_i xs h
    injection e with e; subst e
    obtain ⟨a, vs, e1, e2, e3, e4, e5⟩ := R.owAt h
    exact ⟨_, e1, k _ G H (.refl R.sub) (.inr ⟨a, vs, xs, rfl, rfl, sqU e2, e3⟩)⟩
  · cases e
theorem le_var {i : Nat} (hi : i ∉ bor) : LE K bor (tVar i) (dVar i) := fun {c G σ H ρ Qd Q} hc R q k => by
  unfold dVar at q
  split at q
  · rename_i d h
    obtain ⟨v, e1, e2⟩ := R.shAt h
    exact ⟨v, e1, k v H G ρ d (Same.refl _) R e2 q⟩
  · rename_i xs h
    obtain ⟨a, G', e1, e2, e3, e4⟩ := R.freeze h fun a z => hi (hc ▸ R.bs _ _ z)
    exact ⟨_, e1, k _ H G' _ _ e2 e3 e4 q⟩
  · exact q.elim
def fC (d : D) : FE := fun _ => some d
theorem lp_int {i : Int} : LP K bor (tC (.int i)) (fC (.int i)) := fun {c G σ H ρ d Q} hc R e k => by
  injection e with e; subst e; exact k _ G H (.refl R.sub) (.int i)
theorem lp_str {i : Str} : LP K bor (tC (.str i)) (fC (.str i)) := fun {c G σ H ρ d Q} hc R e k => by
  injection e with e; subst e; exact k _ G H (.refl R.sub) (.str i)
theorem lp_bl {i : Bool} : LP K bor (tC (.bl i)) (fC (.bool i)) := fun {c G σ H ρ d Q} hc R e k => by
  injection e with e; subst e; exact k _ G H (.refl R.sub) (.bl i)
theorem lp_non : LP K bor (tC .non) (fC .none) := fun {c G σ H ρ d Q} hc R e k => by
  injection e with e; subst e; exact k _ G H (.refl R.sub) .non


abbrev F2 := D → D → Option D

def RB (K : PySem.W.Frag) (r : R2) (o : F2) : Prop :=
  ∀ ⦃G H : Hp⦄ ⦃v w : V⦄ ⦃d e z : D⦄ ⦃Q : VK⦄, Same G H → DpM K G H v d → DpM K G H w e → o d e = some z → (∀ u G' H', Grow K G H G' H' → Dq K G' u z → Q u H') → r v w H Q
def f2 (o : F2) (f g : FE) : FE := fun ρ => match f ρ, g ρ with
  | some d, some e => o d e
  | _, _ => none
def d2 (o : F2) (A B : TDE) : TDE := fun ρ Q => A ρ fun d ρ1 => B ρ1 fun e ρ2 => ∃ z, o d e = some z ∧ Q z ρ2
theorem lp_op {r : R2} {o : F2} (ha : LM K bor ta f) (hb : LM K bor tb g) (hr : RB K r o) : LP K bor (tOp r ta tb) (f2 o f g) := fun {c G σ H ρ d Q} hc R e k => by
  unfold f2 at e
  split at e
  · rename_i d1 d2 e1 e2
    exact ha hc R e1 fun v G1 H1 g1 p1 => hb hc (R.grow g1) e2 fun w G2 H2 g2 p2 => hr g2.s (p1.grow g2) p2 e fun u G3 H3 g3 p3 => k u G3 H3 (g1.trans (g2.trans g3)) p3
  · cases e
theorem le_op {r : R2} {o : F2} (ha : LE K bor ta A) (hb : LE K bor tb B) (hr : RB K r o) : LE K bor (tOp r ta tb) (d2 o A B) := fun {c G σ H ρ Qd Q} hc R q k =>
  ha hc R q fun v H1 G1 ρ1 d s1 R1 p1 q1 => hb hc R1 q1 fun w H2 G2 ρ2 e s2 R2 p2 ⟨z, e3, q2⟩ => hr R2.sub (.inl (dpS s2 p1)) (.inl p2) e3 fun u G3 H3 g3 p3 =>
    k u H3 G3 ρ2 z (s1.trans (s2.trans g3.g)) (R2.grow g3) p3 q2

def d2V (o : F2) (i : Nat) (B : TDE) : TDE := fun ρ Q => (fPeek i ρ).isSome = true ∧ B ρ fun e ρ2 => ∃ d z, fPeek i ρ2 = some d ∧ o d e = some z ∧ Q z ρ2
abbrev F1 := D → Option D
def RU1 (K : PySem.W.Frag) (r : V → Hp → VK → Prop) (o : F1) : Prop :=
  ∀ ⦃G H : Hp⦄ ⦃v : V⦄ ⦃d z : D⦄ ⦃Q : VK⦄, Same G H → DpM K G H v d → o d = some z → (∀ u G' H', Grow K G H G' H' → Dq K G' u z → Q u H') → r v H Q
def f1 (o : F1) (f : FE) : FE := fun ρ => match f ρ with
  | some d => o d
  | _ => none
def d1 (o : F1) (A : TDE) : TDE := fun ρ Q => A ρ fun d ρ1 => ∃ z, o d = some z ∧ Q z ρ1
theorem lp_un {r : V → Hp → VK → Prop} {o : F1} (ha : LM K bor ta f) (hr : RU1 K r o) : LP K bor (tUn r ta) (f1 o f) := fun {c G σ H ρ d Q} hc R e k => by
  unfold f1 at e
  split at e
  · rename_i d1 e1
    exact ha hc R e1 fun v G1 H1 g1 p1 => hr g1.s p1 e fun u G3 H3 g3 p3 => k u G3 H3 (g1.trans g3) p3
  · cases e
abbrev FA := List Sl → Option (List D)
abbrev TDA := List Sl → (List D → List Sl → Prop) → Prop
def LPs (K : PySem.W.Frag) (bor : List Nat) (tH : TA) (f : FA) : Prop :=
  ∀ ⦃c : C0⦄ ⦃G : Hp⦄ ⦃σ : L2.St⦄ ⦃H : Hp⦄ ⦃ρ : List Sl⦄ ⦃ds : List D⦄ ⦃Q : List V → Hp → Prop⦄, c.bor = bor → Rel K c G σ H ρ → f ρ = some ds → (∀ vs G' H', Grow K G H G' H' → DqAll K G' vs ds → Q vs H') → tH σ H Q
def LMs (K : PySem.W.Frag) (bor : List Nat) (tH : TA) (f : FA) : Prop :=
  ∀ ⦃c : C0⦄ ⦃G : Hp⦄ ⦃σ : L2.St⦄ ⦃H : Hp⦄ ⦃ρ : List Sl⦄ ⦃ds : List D⦄ ⦃Q : List V → Hp → Prop⦄, c.bor = bor → Rel K c G σ H ρ → f ρ = some ds → (∀ vs G' H', Grow K G H G' H' → Paired (DpM K G' H') vs ds → Q vs H') → tH σ H Q
def LEs (K : PySem.W.Frag) (bor : List Nat) (tH : TA) (t : TDA) : Prop :=
  ∀ ⦃c : C0⦄ ⦃G : Hp⦄ ⦃σ : L2.St⦄ ⦃H : Hp⦄ ⦃ρ : List Sl⦄ ⦃Qd : List D → List Sl → Prop⦄ ⦃Q : List V → Hp → Prop⦄, c.bor = bor → Rel K c G σ H ρ → t ρ Qd →
    (∀ vs H' G' ρ' ds, Same G G' → Rel K c G' σ H' ρ' → DqAll K G' vs ds → Qd ds ρ' → Q vs H') → tH σ H Q
def fNil : FA := fun _ => some []
def fCons (f : FE) (r : FA) : FA := fun ρ => match f ρ, r ρ with
  | some d, some ds => some (d :: ds)
  | _, _ => none
def dNil : TDA := fun ρ Q => Q [] ρ
def dCons (A : TDE) (R : TDA) : TDA := fun ρ Q => A ρ fun d ρ1 => R ρ1 fun ds ρ2 => Q (d :: ds) ρ2
theorem lms_nil : LMs K bor tNil fNil := fun {c G σ H ρ ds Q} hc R e k => by
  injection e with e; subst e; exact k _ G H (.refl R.sub) .nil
theorem lms_cons {tr : TA} {r : FA} (h : LM K bor tH f) (hr : LMs K bor tr r) : LMs K bor (tCons tH tr) (fCons f r) := fun {c G σ H ρ ds Q} hc R e k => by
  unfold fCons at e
  split at e
  · rename_i d1 ds1 e1 e2
    injection e with e; subst e
    exact h hc R e1 fun v G1 H1 g1 p1 => hr hc (R.grow g1) e2 fun vs G2 H2 g2 p2 => k _ G2 H2 (g1.trans g2) (.cons (p1.grow g2) p2)
  · cases e
theorem les_nil : LEs K bor tNil dNil := fun {c G σ H ρ Qd Q} hc R q k => k _ H G ρ _ (Same.refl _) R .nil q
theorem les_cons {tr : TA} {r : TDA} (h : LE K bor tH A) (hr : LEs K bor tr r) : LEs K bor (tCons tH tr) (dCons A r) := fun {c G σ H ρ Qd Q} hc R q k =>
  h hc R q fun v H1 G1 ρ1 d s1 R1 p1 q1 => hr hc R1 q1 fun vs H2 G2 ρ2 ds s2 R2 p2 q2 => k _ H2 G2 ρ2 _ (s1.trans s2) R2 (.cons (dpS s2 p1) p2) q2
theorem LPs.e {tr : TA} {r : FA} (h : LPs K bor tr r) : LEs K bor tr (fun ρ Q => ∃ ds, r ρ = some ds ∧ Q ds ρ) := fun {_ _ _ _ _ _ _} hc R ⟨d, e, q⟩ k => h hc R e fun v G' H' g dp => k v H' G' _ d g.g (R.grow g) dp q



def tTupX (t : TA) : TE := fun σ H Q => t σ H fun xs H1 => xs.length ≤ sizeLine ∧ ∀ (p : Addr) (o : Obj), o.dict = none → H1 p = none → Q (.ref p) (upd H1 p (.frz o (.tup xs)))
def dTup (r : TDA) : TDE := fun ρ Q => r ρ fun ds ρ1 => ds.length ≤ 100000 ∧ Q (.tuple ds) ρ1
def dLst (r : TDA) : TDL := fun ρ Q => r ρ fun ds ρ1 => ds.length ≤ 100000 ∧ Q ds ρ1
theorem le_tup {tr : TA} {r : TDA} (h : LEs K bor tr r) : LE K bor (tTupX tr) (dTup r) := fun {c G σ H ρ Qd Q} hc R q k =>
  h hc R q fun vs H1 G1 ρ1 ds s1 R1 p1 ⟨hl, q1⟩ => ⟨by rw [dps_len p1]; exact Nat.le_trans hl (by decide), fun p o hd hp => by
    have g2 := grow_new (K := K) (o := .frz o (.tup vs)) R1.sub hp
    exact k _ _ _ _ _ (s1.trans g2.g) (R1.grow g2) (.tup (.inl ⟨o, upd_same, hd⟩) (dpsS g2.g p1)) q1⟩
theorem mineO_new {c : C0} {G : Hp} {σ : L2.St} {H : Hp} {ρ : List Sl} (R : Rel K c G σ H ρ) {p : Addr} {o : HO} (hp : H p = none) : MineO c G σ (upd H p o) ρ p o :=
  ⟨upd_same, R.sub.free hp, R.live hp, fun j s e z => by
    obtain ⟨⟨u, e1⟩, _⟩ := R.own e z
    rw [hp] at e1; cases e1⟩
theorem mine_new {c : C0} {G : Hp} {σ : L2.St} {H : Hp} {ρ : List Sl} (R : Rel K c G σ H ρ) {p : Addr} {vs : List V} (hp : H p = none) : Mine c G σ (upd H p (.lst vs)) ρ p vs := mineO_new R hp
theorem ll_lst {tr : TA} {r : TDA} (h : LEs K bor tr r) : LL K bor (tLst tr) (dLst r) := fun {c G σ H ρ Qd Q} hc R q k =>
  h hc R q fun vs H1 G1 ρ1 ds s1 R1 p1 ⟨hl, q1⟩ => ⟨by rw [dps_len p1]; exact Nat.le_trans hl (by decide), fun p hp =>
    k p vs _ G1 ρ1 ds s1 (R1.grow (grow_own R1.sub hp)) (mine_new R1 hp) p1 q1⟩
end
end TN
set_option Elab.async false
set_option linter.all false
set_option maxRecDepth 100000
set_option maxHeartbeats 1000000
set_option autoImplicit false
namespace TN
open PySem PySem.Spec PyProof.Rows L2
section
variable {X : Cx}
theorem opOr {f : Value → Value → Sem Value} {r r' : R2} (h : OpR X f r) (h' : OpR X f r') : OpR X f (fun x y H Q => r x y H Q ∨ r' x y H Q) := by
  intro pins s σ H x y v u Q I rx ry q
  rcases q with q | q
  · exact h pins s σ H x y v u Q I rx ry q
  · exact h' pins s σ H x y v u Q I rx ry q
theorem rdL {K : PySem.W.Frag} {H : Hp} {a : Addr} {xs : List V} (h : SqL K H a xs) : SqL K H a xs := h

def rCatR (K : PySem.W.Frag) : R2 := fun x y H Q => ∃ l b xs zs, x = .ref l ∧ y = .ref b ∧ SqL K H l xs ∧ SqL K H b zs ∧ xs.length + zs.length ≤ sizeLine ∧ ∀ p, H p = none → Q (.ref p) (upd H p (.lst (xs ++ zs)))
theorem op_catR : OpR X (binaryOp .Add) (rCatR X.K) := by
  intro pins s σ H x y v u Q I rx ry h
  obtain ⟨l, b, xs, zs, rfl, rfl, hH, hB, hz, q⟩ := h
  cases rx
  cases ry
  obtain ⟨i1, r1, ⟨⟨c1, d1, t1, s1⟩, n1, e1, k1, f1, g1⟩, z1⟩ := I.list hH
  obtain ⟨i2, r2, ⟨⟨c2, d2, t2, s2⟩, n2, e2, k2, f2, g2⟩, z2⟩ := I.list hB
  simp only at k1 g1 k2 g2
  subst k1 g1 k2 g2
  have l1 := r1.length
  have l2 := r2.length
  refine concat_meets ⟨_, e1, rfl⟩ ⟨_, e2, rfl⟩ noFill_list_add seq_list_add PySem.F.slot_list_add PySem.F.entry_list_add (PySem.F.args_list_add_2 _ _)
    (list_addW l b i1.toArray i2.toArray n1 n2 d1 d2 s1 s2 (by simp only [List.size_toArray]; omega)) ⟨e1, e2, ?_⟩
  rw [show i1.toArray ++ i2.toArray = (i1 ++ i2).toArray by simp]
  exact ⟨.ref _, _, I.lnew (t' := s.toks) (r1.append r2) (by rw [List.length_append]; exact hz), rfl, q _ I.fresh⟩

theorem tup_laid {pins : List (Addr × Obj)} {σ : L2.St} {H : Hp} {s : Shared} {xs : List V} {its : List Value} (I : Inv X pins σ H s) (r : Vals xs its) (hz : xs.length ≤ sizeLine) :
    Inv X pins σ (upd H s.heap.objs.size (.frz { cls := .type "tuple", data := .seq its.toArray } (.tup xs))) { s with heap := s.heap.push { cls := .type "tuple", data := .seq its.toArray } } :=
  I.laid (t' := s.toks) (fun _ _ q => Heap.get?_push_of_some _ q) (Nat.le_refl _) ⟨Heap.get?_push_size _ rfl, hz, its, r, IsTup.new _ _⟩
theorem pe_tupX {es : List Expr} {t : TA} {n : Nat} {pos : Pos} (h : PA X es t) : PE X (.Tuple es n pos) (tTupX t) := by
  constructor
  intro pins s σ H Q I hq
  apply wpAny_Tuple_spliced
  apply thn (h.run pos pins s σ H _ I hq)
  rintro us s1 ⟨xs, H1, I1, r, z, q⟩
  refine ⟨by rw [← r.length]; exact z, ?_⟩
  exact ⟨.ref s1.heap.objs.size, _, tup_laid I1 r z, rfl, q _ _ rfl (I1.hok.fresh (Nat.le_refl _))⟩

def rCatX (K : PySem.W.Frag) : R2 := fun x y H Q => ∃ a b xs ys, x = .ref a ∧ y = .ref b ∧ SqT K H a xs ∧ SqT K H b ys ∧ xs.length + ys.length ≤ sizeLine ∧
  (xs = [] → Q (.ref b) H) ∧ (xs ≠ [] → ys = [] → Q (.ref a) H) ∧ (xs ≠ [] → ys ≠ [] → ∀ (p : Addr) (o : Obj), o.dict = none → H p = none → Q (.ref p) (upd H p (.frz o (.tup (xs ++ ys)))))
theorem op_catX : OpR X (binaryOp .Add) (rCatX X.K) := by
  intro pins s σ H x y v u Q I rx ry h
  obtain ⟨a, b, xs, ys, rfl, rfl, ha, hb, hz, q0, q1, q2⟩ := h
  cases rx
  cases ry
  obtain ⟨i1, r1, p1, _⟩ := I.tuple ha
  obtain ⟨i2, r2, p2, _⟩ := I.tuple hb
  by_cases hx : xs = []
  · subst hx
    cases r1
    exact cat_tup0 p1 p2 ⟨.ref b, H, I, rfl, q0 rfl⟩
  · have n1 : i1 ≠ [] := fun z => hx (r1.nil_iff.mp z)
    have l1 := r1.length
    have l2 := r2.length
    apply HT.cat_tup p1 p2 n1
    · intro z
      exact ⟨.ref a, H, I, rfl, q1 hx (r2.nil_iff.mp z)⟩
    · intro z
      have big : (xs ++ ys).length ≤ sizeLine := by rw [List.length_append]; exact hz
      exact ⟨.ref s.heap.objs.size, _, tup_laid I (r1.append r2) big, rfl, q2 hx (fun e => z (r2.nil_iff.mpr e)) _ _ rfl (I.hok.fresh (Nat.le_refl _))⟩
    · omega

def CPowB (i j : Int) : Prop := 0 ≤ j ∧ j ≤ 1000 ∧ i.natAbs < 2 ^ 1024
theorem op_powB : OpR X (binaryOp .Pow) (rI CPowB fun i j => .int (i ^ j.toNat)) := by
  intro pins s σ H x y v u Q I rx ry h
  obtain ⟨i, j, rfl, rfl, ⟨h1, h2, h3⟩, q⟩ := h
  obtain ⟨t, rfl⟩ := rx
  obtain ⟨t', rfl⟩ := ry
  refine PyProof.Rows.pow_int h1 ?_ ⟨.int _, H, I.tok _, ⟨_, rfl⟩, q⟩
  have b : Builtin.Int.intBits i ≤ 1024 := by
    have b0 : Builtin.Int.intBits i ≤ i.natAbs.log2 + 1 := by
      unfold Builtin.Int.intBits
      split <;> omega
    have b1 : i.natAbs.log2 < 1024 := PySem.Flt.log2_lt_of (by decide) h3
    omega
  have e : (2 : Int) ^ 27 = 134217728 := by decide
  rw [e]
  have : (Builtin.Int.intBits i : Int) * j ≤ 1024 * 1000 := Int.mul_le_mul (by omega) h2 h1 (by decide)
  omega
end
section
variable {K : PySem.W.Frag} {bor : List Nat}
theorem rb_I {C : Int → Int → Prop} {g : Int → Int → V} {o : F2} (h : ∀ d e z, o d e = some z → ∃ i j, d = .int i ∧ e = .int j ∧ C i j ∧ ((∃ k, g i j = .int k ∧ z = .int k) ∨ ∃ k, g i j = .bl k ∧ z = .bool k)) : RB K (rI C g) o :=
  fun {G H v w d e z Q} s p1 p2 e1 k => by
    obtain ⟨i, j, rfl, rfl, hc, hz⟩ := h d e z e1
    cases p1.int
    cases p2.int
    refine ⟨i, j, rfl, rfl, hc, ?_⟩
    rcases hz with ⟨n, e2, rfl⟩ | ⟨n, e2, rfl⟩
    · rw [e2]; exact k _ G H (.refl s) (.int n)
    · rw [e2]; exact k _ G H (.refl s) (.bl n)
theorem rb_I0 {g : Int → Int → V} {o : F2} (h : ∀ d e z, o d e = some z → ∃ i j, d = .int i ∧ e = .int j ∧ ((∃ k, g i j = .int k ∧ z = .int k) ∨ ∃ k, g i j = .bl k ∧ z = .bool k)) : RB K (rI0 g) o :=
  fun {G H v w d e z Q} s p1 p2 e1 k => by
    obtain ⟨i, j, rfl, rfl, hz⟩ := h d e z e1
    cases p1.int
    cases p2.int
    refine ⟨i, j, rfl, rfl, ?_⟩
    rcases hz with ⟨n, e2, rfl⟩ | ⟨n, e2, rfl⟩
    · rw [e2]; exact k _ G H (.refl s) (.int n)
    · rw [e2]; exact k _ G H (.refl s) (.bl n)
def oSub : F2 := fun d e => match d, e with
  | .int i, .int j => some (.int (i - j))
  | _, _ => none
theorem rb_sub : RB K (rI0 fun i j => .int (i - j)) oSub := rb_I0 fun d e z h => by
  unfold oSub at h; split at h
  · rename_i i j; injection h with h; exact ⟨i, j, rfl, rfl, .inl ⟨_, rfl, h.symm⟩⟩
  · cases h
def oMul : F2 := fun d e => match d, e with
  | .int i, .int j => if (-18446744073709551616 < i ∧ i < 18446744073709551616) ∨ (-18446744073709551616 < j ∧ j < 18446744073709551616) then some (.int (i * j)) else none
  | _, _ => none
theorem rb_mul : RB K (rI CMul fun i j => .int (i * j)) oMul := rb_I fun d e z h => by
  unfold oMul at h; split at h
  · rename_i i j
    split at h
    · rename_i hc
      injection h with h; exact ⟨i, j, rfl, rfl, by unfold CMul; simpa using hc, .inl ⟨_, rfl, h.symm⟩⟩
    · cases h
  · cases h
def oPow : F2 := fun d e => match d, e with
  | .int i, .int j => if 0 ≤ j ∧ j ≤ 1000 ∧ i.natAbs < 2 ^ 1024 then some (.int (i ^ j.toNat)) else none
  | _, _ => none
theorem rb_pow : RB K (rI CPowB fun i j => .int (i ^ j.toNat)) oPow := rb_I fun d e z h => by
  unfold oPow at h; split at h
  · rename_i i j
    split at h
    · rename_i hc
      injection h with h; exact ⟨i, j, rfl, rfl, hc, .inl ⟨_, rfl, h.symm⟩⟩
    · cases h
  · cases h
def oMod : F2 := fun d e => match d, e with
  | .int i, .int j => if 0 < j then some (.int (i % j)) else none
  | _, _ => none
theorem rb_mod : RB K (rI (fun _ j => 0 < j) fun i j => .int (i % j)) oMod := rb_I fun d e z h => by
  unfold oMod at h; split at h
  · rename_i i j
    split at h
    · rename_i hc
      injection h with h; exact ⟨i, j, rfl, rfl, hc, .inl ⟨_, rfl, h.symm⟩⟩
    · cases h
  · cases h
def oDiv : F2 := fun d e => match d, e with
  | .int i, .int j => if 0 < j ∧ j < 1073741824 then some (.int (i / j)) else none
  | _, _ => none
theorem rb_div : RB K (rI CDiv fun i j => .int (i / j)) oDiv := rb_I fun d e z h => by
  unfold oDiv at h; split at h
  · rename_i i j
    split at h
    · rename_i hc
      injection h with h; exact ⟨i, j, rfl, rfl, hc, .inl ⟨_, rfl, h.symm⟩⟩
    · cases h
  · cases h
def oNeg : F1 := fun d => match d with
  | .int i => some (.int (-i))
  | _ => none
theorem ru_neg : RU1 K (rU fun i => .int (-i)) oNeg := fun {G H v d z Q} s p e k => by
  unfold oNeg at e; split at e
  · rename_i i
    injection e with e; subst e
    cases p.int
    exact ⟨i, rfl, k _ G H (.refl s) (.int _)⟩
  · cases e


abbrev rAddU (K : PySem.W.Frag) : R2 := fun x y H Q => (rI0 fun i j => .int (i + j)) x y H Q ∨ ((fun x y H Q => ∃ i j, x = V.str i ∧ y = V.str j ∧ i.length + j.length ≤ sizeLine ∧ Q (V.str (i ++ j)) H) x y H Q ∨ (rCatR K x y H Q ∨ rCatX K x y H Q))
theorem op_addU {X : Cx} : OpR X (binaryOp .Add) (rAddU X.K) := opOr op_add (opOr op_add_str (opOr op_catR op_catX))
def oAdd : F2 := fun d e => match d, e with
  | .int i, .int j => some (.int (i + j))
  | .str a, .str b => if a.length + b.length ≤ 16777216 then some (.str (a ++ b)) else none
  | .list a, .list b => if a.length + b.length ≤ 100000 then some (.list (a ++ b)) else none
  | .tuple a, .tuple b => if a.length + b.length ≤ 100000 then some (.tuple (a ++ b)) else none
  | _, _ => none
theorem rb_add : RB K (rAddU K) oAdd := fun {G H v w d e z Q} s p1 p2 e1 k => by
  unfold oAdd at e1
  split at e1
  · rename_i i j
    injection e1 with e1; subst e1
    cases p1.int; cases p2.int
    exact .inl ⟨i, j, rfl, rfl, k _ G H (.refl s) (.int _)⟩
  · rename_i a b
    split at e1
    · rename_i hl
      injection e1 with e1; subst e1
      cases p1.str; cases p2.str
      exact .inr (.inl ⟨a, b, rfl, rfl, Nat.le_trans hl (by decide), k _ G H (.refl s) (.str _)⟩)
    · cases e1
  · rename_i a b
    split at e1
    · rename_i hl
      injection e1 with e1; subst e1
      obtain ⟨x, vs, rfl, h1, h2⟩ := p1.list s
      obtain ⟨y, ws, rfl, h3, h4⟩ := p2.list s
      refine .inr (.inr (.inl ⟨x, y, vs, ws, rfl, rfl, h1, h3, by rw [dps_len h2, dps_len h4]; exact Nat.le_trans hl (by decide), fun p hp => ?_⟩))
      have g := grow_new (K := K) (o := .lst (vs ++ ws)) s hp
      exact k _ _ _ g (.lst (sqU upd_same) (dpsS g.g (dps_app h2 h4)))
    · cases e1
  · rename_i a b
    split at e1
    · rename_i hl
      injection e1 with e1; subst e1
      obtain ⟨x, vs, rfl, h1, h2⟩ := p1.tup s
      obtain ⟨y, ws, rfl, h3, h4⟩ := p2.tup s
      refine .inr (.inr (.inr ⟨x, y, vs, ws, rfl, rfl, h1, h3, by rw [dps_len h2, dps_len h4]; exact Nat.le_trans hl (by decide), fun hv => ?_, fun hv hw => ?_, fun hv hw p o hd hp => ?_⟩))
      · subst hv
        cases h2
        rcases p2 with p2 | ⟨_, _, _, _, e, _⟩
        · exact k _ G H (.refl s) p2
        · cases e
      · subst hw
        cases h4
        rcases p1 with p1 | ⟨_, _, _, _, e, _⟩
        · rw [List.append_nil] at k; exact k _ G H (.refl s) p1
        · cases e
      · have g := grow_new (K := K) (o := .frz o (.tup (vs ++ ws))) s hp
        exact k _ _ _ g (.tup (.inl ⟨o, upd_same, hd⟩) (dpsS g.g (dps_app h2 h4)))
    · cases e1
  · cases e1


def oEq : F2 := fun d e => if SeqAt.shaped d = true ∧ SeqAt.shaped e = true then some (.bool (PyData.eqv d e)) else none
def oNe : F2 := fun d e => if SeqAt.shaped d = true ∧ SeqAt.shaped e = true then some (.bool (!PyData.eqv d e)) else none
theorem rb_eq : RB K (rEqD K) oEq := fun {G H v w d e z Q} s p1 p2 e1 k => by
  unfold oEq at e1; split at e1
  · rename_i h
    injection e1 with e1; subst e1
    exact ⟨d, e, (p1.now s).dp (noDict_shaped h.1), (p2.now s).dp (noDict_shaped h.2), h.1, h.2, k _ G H (.refl s) (.bl _)⟩
  · cases e1
theorem rb_ne : RB K (rNeD K) oNe := fun {G H v w d e z Q} s p1 p2 e1 k => by
  unfold oNe at e1; split at e1
  · rename_i h
    injection e1 with e1; subst e1
    exact ⟨d, e, (p1.now s).dp (noDict_shaped h.1), (p2.now s).dp (noDict_shaped h.2), h.1, h.2, k _ G H (.refl s) (.bl _)⟩
  · cases e1


theorem atI_dq {G : Hp} {vs : List V} {ds : List D} {i : Int} {d : D} (h : DqAll K G vs ds) (e : atI ds i = some d) : ∃ v, atI vs i = some v ∧ Dq K G v d := by
  unfold atI at e ⊢
  rw [dps_len h]
  cases q : ixN ds.length i with
  | none => rw [q] at e; cases e
  | some j =>
    rw [q] at e
    obtain ⟨v, e1, e2⟩ := dps_of h e
    exact ⟨v, e1, e2⟩
def oIx : F2 := fun d e => match d, e with
  | .list xs, .int i => atI xs i
  | .tuple xs, .int i => atI xs i
  | .str z, .int i => if z.length ≤ 100000 then (atI z.cps.toList i).map fun c => .str ⟨#[c]⟩ else none
  | _, _ => none
theorem rb_ix : RB K (rIx K) oIx := fun {G H v w d e z Q} s p1 p2 e1 k => by
  unfold oIx at e1
  split at e1
  · rename_i xs i
    obtain ⟨a, vs, rfl, h1, h2⟩ := p1.list s
    cases p2.int
    obtain ⟨u, f1, f2⟩ := atI_dq h2 e1
    exact .inl ⟨a, vs, i, u, rfl, rfl, rdL h1, f1, k _ G H (.refl s) f2⟩
  · rename_i xs i
    obtain ⟨a, vs, rfl, h1, h2⟩ := p1.tup s
    cases p2.int
    obtain ⟨u, f1, f2⟩ := atI_dq h2 e1
    exact .inr (.inl ⟨a, vs, i, u, rfl, rfl, h1, f1, k _ G H (.refl s) f2⟩)
  · rename_i x i
    split at e1
    · rename_i hl
      cases p1.str
      cases p2.int
      cases q : atI x.cps.toList i with
      | none => rw [q] at e1; cases e1
      | some c =>
        rw [q] at e1
        injection e1 with e1; subst e1
        exact .inr (.inr ⟨x, i, c, rfl, rfl, Nat.le_trans hl (by decide), q, k _ G H (.refl s) (.str _)⟩)
    · cases e1
  · cases e1
end
end TN
set_option Elab.async false
set_option linter.all false
set_option maxRecDepth 100000
set_option maxHeartbeats 1000000
set_option autoImplicit false
namespace TN
open PySem PySem.Spec PyProof.Rows L2
structure DEnds where
  nx : List Sl → Prop
  rt : Sl → List Sl → Prop
  bk : List Sl → Prop := fun _ => False
  ct : List Sl → Prop := fun _ => False
abbrev TDS := DEnds → List Sl → Prop


def RtOk (K : PySem.W.Frag) (c : C0) (G : Hp) (H : Hp) (v : V) : Sl → Prop
  | .no => False
  | .fn _ => False
  | .lk _ _ _ _ => False
  | .od kvs => ∃ a ks, v = .ref a ∧ H a = some (.dK ks) ∧ G a = none ∧ c.H a = none ∧ KsQ K G ks kvs
  | .tp ps => ∃ a u vs, v = .ref a ∧ G a = some (.frz u (.tup vs)) ∧ u.dict = none ∧ PtsOk K c G H vs ps ∧ Apart vs ps
  | .sh d => Dq K G v d
  | .ow xs => ∃ a vs, v = .ref a ∧ H a = some (.lst vs) ∧ G a = none ∧ c.H a = none ∧ DqAll K G vs xs
structure Links (K : PySem.W.Frag) (c : C0) (G : Hp) (E : DEnds) (D : Ends) : Prop where
  nx : ∀ {G' : Hp} {σ' : L2.St} {H' : Hp} {ρ' : List Sl}, Same G G' → Rel K c G' σ' H' ρ' → E.nx ρ' → D.nx σ' H'
  rt : ∀ {G' : Hp} {σ' : L2.St} {H' : Hp} {ρ' : List Sl} {v : V} {r : Sl}, Same G G' → Rel K c G' σ' H' ρ' → RtOk K c G' H' v r → E.rt r ρ' → D.rt v H'
  bk : ∀ {G' : Hp} {σ' : L2.St} {H' : Hp} {ρ' : List Sl}, Same G G' → Rel K c G' σ' H' ρ' → E.bk ρ' → D.bk σ' H'
  ct : ∀ {G' : Hp} {σ' : L2.St} {H' : Hp} {ρ' : List Sl}, Same G G' → Rel K c G' σ' H' ρ' → E.ct ρ' → D.ct σ' H'
theorem Links.mono {K : PySem.W.Frag} {c : C0} {G G' : Hp} {E : DEnds} {D : Ends} (l : Links K c G E D) (s : Same G G') : Links K c G' E D :=
  ⟨fun t => l.nx (s.trans t), fun t => l.rt (s.trans t), fun t => l.bk (s.trans t), fun t => l.ct (s.trans t)⟩
def LS (K : PySem.W.Frag) (bor : List Nat) (tH : TS) (t : TDS) : Prop :=
  ∀ ⦃c : C0⦄ ⦃G : Hp⦄ ⦃σ : L2.St⦄ ⦃H : Hp⦄ ⦃ρ : List Sl⦄ ⦃E : DEnds⦄ ⦃D : Ends⦄, c.bor = bor → Rel K c G σ H ρ → t E ρ → Links K c G E D → tH D σ H

section
variable {K : PySem.W.Frag} {bor : List Nat} {te : TE} {A B : TDE} {t u : TS} {S T : TDS}
def sSeq (S T : TDS) : TDS := fun E ρ => S { E with nx := T E } ρ
theorem ls_seq (h1 : LS K bor t S) (h2 : LS K bor u T) : LS K bor (tSeq t u) (sSeq S T) := fun {c G σ H ρ E D} hc R q l =>
  h1 (D := { D with nx := u D }) hc R q ⟨fun s R' q' => h2 hc R' q' (l.mono s), fun s => l.rt s, fun s => l.bk s, fun s => l.ct s⟩
def sNext : TDS := fun E ρ => E.nx ρ
theorem ls_next : LS K bor tNext sNext := fun {c G σ H ρ E D} hc R q l => l.nx (Same.refl _) R q
def sNever : TDS := fun _ _ => False
theorem ls_never : LS K bor tNever sNever := fun {c G σ H ρ E D} hc R q l => q.elim
def sDrop (A : TDE) : TDS := fun E ρ => A ρ fun _ ρ1 => E.nx ρ1
theorem ls_drop (h : LE K bor te A) : LS K bor (tDrop te) (sDrop A) := fun {c G σ H ρ E D} hc R q l =>
  h hc R q fun v H' G' ρ' d s R' _ q' => l.nx s R' q'
def sRet (A : TDE) : TDS := fun E ρ => A ρ fun d ρ1 => E.rt (.sh d) ρ1
theorem ls_ret (h : LE K bor te A) : LS K bor (tRet te) (sRet A) := fun {c G σ H ρ E D} hc R q l =>
  h hc R q fun v H' G' ρ' d s R' p q' => l.rt s R' (r := .sh d) p q'
def sRetL (A : TDL) : TDS := fun E ρ => A ρ fun d ρ1 => E.rt (.ow d) ρ1
theorem ls_retL {A : TDL} (h : LL K bor te A) : LS K bor (tRet te) (sRetL A) := fun {c G σ H ρ E D} hc R q l =>
  h hc R q fun a vs H' G' ρ' ds s R' m p q' => l.rt s R' (r := .ow ds) ⟨a, vs, rfl, m.1, m.2.1, m.2.2.1, p⟩ q'
def sRetN : TDS := fun E ρ => E.rt (.sh .none) ρ
def sIf (C : TDT) (S T : TDS) : TDS := fun E ρ => C ρ fun b ρ1 => (b = true → S E ρ1) ∧ (b = false → T E ρ1)
theorem ls_if {tc : TT} {C : TDT} (hc' : LT K bor tc C) (h1 : LS K bor t S) (h2 : LS K bor u T) : LS K bor (tIfS tc t u) (sIf C S T) := fun {c G σ H ρ E D} hc R q l =>
  hc' hc R q fun b H' G' ρ' s R' ⟨q1, q2⟩ => by
    cases b with
    | true => exact iteT (h1 hc R' (q1 rfl) (l.mono s))
    | false => exact iteF (h2 hc R' (q2 rfl) (l.mono s))


abbrev TDG := D → List Sl → (List Sl → Prop) → Prop
def LG (K : PySem.W.Frag) (bor : List Nat) (g : TG) (tg : TDG) : Prop :=
  ∀ ⦃c : C0⦄ ⦃G : Hp⦄ ⦃σ : L2.St⦄ ⦃H : Hp⦄ ⦃ρ : List Sl⦄ ⦃v : V⦄ ⦃d : D⦄ ⦃Qd : List Sl → Prop⦄ ⦃Q : L2.St → Hp → Prop⦄, c.bor = bor → Rel K c G σ H ρ → Dq K G v d → tg d ρ Qd →
    (∀ σ' ρ', Rel K c G σ' H ρ' → Qd ρ' → Q σ' H) → g v σ H Q
def LGs (K : PySem.W.Frag) (bor : List Nat) (g : TGs) (tg : List D → List Sl → (List Sl → Prop) → Prop) : Prop :=
  ∀ ⦃c : C0⦄ ⦃G : Hp⦄ ⦃σ : L2.St⦄ ⦃H : Hp⦄ ⦃ρ : List Sl⦄ ⦃vs : List V⦄ ⦃ds : List D⦄ ⦃Qd : List Sl → Prop⦄ ⦃Q : L2.St → Hp → Prop⦄, c.bor = bor → Rel K c G σ H ρ → DqAll K G vs ds → tg ds ρ Qd →
    (∀ σ' ρ', Rel K c G σ' H ρ' → Qd ρ' → Q σ' H) → g vs σ H Q
def tgN (i : Nat) : TDG := fun d ρ Q => Q (ρ.set i (.sh d))
theorem lg_name {i : Nat} (hi : i ∉ bor) : LG K bor (gName i) (tgN i) := fun {c G σ H ρ v d Qd Q} hc R p q k =>
  k _ _ (R.store (fun a z => hi (hc ▸ R.bs _ _ z)) p) q
def tgNil : List D → List Sl → (List Sl → Prop) → Prop := fun ds ρ Q => ds = [] ∧ Q ρ
def tgCons (g : TDG) (r : List D → List Sl → (List Sl → Prop) → Prop) : List D → List Sl → (List Sl → Prop) → Prop := fun ds ρ Q => ∃ d es, ds = d :: es ∧ g d ρ fun ρ1 => r es ρ1 Q
theorem lgs_nil : LGs K bor gNil tgNil := fun {c G σ H ρ vs ds Qd Q} hc R p ⟨e, q⟩ k => by
  subst e; cases p; exact ⟨rfl, k σ ρ R q⟩
theorem lgs_cons {g : TG} {gr : TGs} {tg : TDG} {tr : List D → List Sl → (List Sl → Prop) → Prop} (h1 : LG K bor g tg) (h2 : LGs K bor gr tr) : LGs K bor (gCons g gr) (tgCons tg tr) :=
  fun {c G σ H ρ vs ds Qd Q} hc R p ⟨d, es, e, q⟩ k => by
    subst e
    cases p with
    | cons a b => exact ⟨_, _, rfl, h1 hc R a q fun σ1 ρ1 R1 q1 => h2 hc R1 b q1 k⟩
def tgTup (n : Nat) (r : List D → List Sl → (List Sl → Prop) → Prop) : TDG := fun d ρ Q => ∃ ds, d = .tuple ds ∧ ds.length = n ∧ r ds ρ Q
theorem lg_tup {n : Nat} {gr : TGs} {tr : List D → List Sl → (List Sl → Prop) → Prop} (h : LGs K bor gr tr) : LG K bor (gTup K n gr) (tgTup n tr) := fun {c G σ H ρ v d Qd Q} hc R p ⟨ds, e, hl, q⟩ k => by
  subst e
  cases p with
  | tup s a => exact ⟨_, _, rfl, (tupS R.sub s).sq, by rw [dps_len a]; exact hl, h hc R a q k⟩
def sAsg (A : TDE) (g : TDG) : TDS := fun E ρ => A ρ fun d ρ1 => g d ρ1 E.nx
theorem ls_asg {g : TG} {tg : TDG} (h : LE K bor te A) (hg : LG K bor g tg) : LS K bor (tAsg te g) (sAsg A tg) := fun {c G σ H ρ E D} hc R q l =>
  h hc R q fun v H' G' ρ' d s R' p q' => hg hc R' p q' fun σ2 ρ2 R2 q2 => l.nx s R2 q2
def sAsgL (A : TDL) (i : Nat) : TDS := fun E ρ => A ρ fun ds ρ1 => E.nx (ρ1.set i (.ow ds))
theorem ls_asgL {i : Nat} {A : TDL} (hi : i ∉ bor) (h : LL K bor te A) : LS K bor (tAsg te (gName i)) (sAsgL A i) := fun {c G σ H ρ E D} hc R q l =>
  h hc R q fun a vs H' G' ρ' ds s R' m p q' => l.nx s (R'.storeO (fun a z => hi (hc ▸ R'.bs _ _ z)) m p) q'


def ownL (j : Nat) (ρ : List Sl) : Option (List D) := match ρ[j]? with
  | some (.ow xs) => some xs
  | _ => none

def plainAt (j : Nat) (ρ : List Sl) : Bool := match ρ[j]? with
  | some (.ow _) => false
  | some (.od _) => false
  | some (.lk _ _ _ _) => false
  | some (.tp _) => false
  | _ => true
theorem plain_at {j : Nat} {ρ : List Sl} {s : Sl} (h : plainAt j ρ = true) (e : ρ[j]? = some s) {G : Hp} {o : Option (Option V)} {b : Addr} : ¬ Owns G s o b := by
  unfold plainAt at h
  rw [e] at h
  cases s <;> first | exact id | cases h
theorem ownL_some {j : Nat} {ρ : List Sl} {xs : List D} (h : ownL j ρ = some xs) : ρ[j]? = some (.ow xs) := by
  unfold ownL at h
  split at h
  · rename_i ys e; injection h with h; subst h; exact e
  · cases h
theorem ow_val {c : C0} {G : Hp} {σ : L2.St} {H : Hp} {ρ : List Sl} {j : Nat} (R : Rel K c G σ H ρ) (h : (ownL j ρ).isSome = true) : ∃ a, σ[j]? = some (some (.ref a)) ∧ ∃ vs, H a = some (.lst vs) := by
  obtain ⟨xs, e⟩ := Option.isSome_iff_exists.mp h
  obtain ⟨a, vs, e1, e2, _⟩ := R.owAt (ownL_some e)
  exact ⟨a, e1, vs, e2⟩
theorem ow_at {c : C0} {G : Hp} {σ : L2.St} {H : Hp} {ρ : List Sl} {j : Nat} {xs : List D} {a : Addr} (R : Rel K c G σ H ρ) (h : ownL j ρ = some xs) (ha : σ[j]? = some (some (.ref a))) : ∃ vs, H a = some (.lst vs) ∧ DqAll K G vs xs := by
  obtain ⟨b, vs, e1, e2, e3, _⟩ := R.owAt (ownL_some h)
  rw [ha] at e1
  injection e1 with e1; injection e1 with e1; injection e1 with e1; subst e1
  exact ⟨vs, e2, e3⟩
theorem sz5 {n : Nat} (h : n < 100000) : n < sizeLine := Nat.lt_of_lt_of_le h (by decide)
theorem tyL {H : Hp} {a : Addr} {vs : List V} (h : H a = some (.lst vs)) : tyV K "list" (.ref a) H := .inl ⟨rfl, _, SqL.of h⟩

def dAppend (j : Nat) (A : TDE) : TDE := fun ρ Q => (ownL j ρ).isSome = true ∧ A ρ fun d ρ1 => ∃ xs, ownL j ρ1 = some xs ∧ xs.length < 100000 ∧ Q .none (ρ1.set j (.ow (xs ++ [d])))
theorem le_append {j : Nat} (h : LE K bor te A) : LE K bor (tBM K "list" rAppend (tVar j) (tCons te tNil)) (dAppend j A) := fun {c G σ H ρ Qd Q} hc R ⟨q0, q⟩ k => by
  obtain ⟨a, e1, vs0, e2⟩ := ow_val R q0
  refine ⟨_, e1, tyL e2, h hc R q fun v H1 G1 ρ1 d s R1 p1 ⟨xs, f1, f2, q1⟩ => ?_⟩
  obtain ⟨vs, f3, f4⟩ := ow_at R1 f1 e1
  refine ⟨a, vs, v, rfl, rfl, f3, sz5 (by rw [dps_len f4]; exact f2), k _ _ G1 _ .none s ?_ .non q1⟩
  exact R1.change (ownL_some f1) e1 (dps_app f4 (.cons p1 .nil))

def dInsert (j : Nat) (A B : TDE) : TDE := fun ρ Q => (ownL j ρ).isSome = true ∧ A ρ fun i ρ1 => B ρ1 fun d ρ2 => ∃ xs n, ownL j ρ2 = some xs ∧ xs.length < 100000 ∧ i = .int n ∧ 0 ≤ n ∧ n < 2 ^ 63 ∧
  Q .none (ρ2.set j (.ow (xs.take n.toNat ++ d :: xs.drop n.toNat)))
theorem dps_erase {G : Hp} : ∀ {ds : List D} {vs : List V} (k : Nat), DqAll K G vs ds → DqAll K G (vs.eraseIdx k) (ds.eraseIdx k)
  | [], _, k, h => by cases h; simpa using DqAll.nil
  | d :: ds, _, k, h => by
    cases h with
    | cons a b =>
      cases k with
      | zero => exact b
      | succ k => exact .cons a (dps_erase k b)

def dPopAt (j : Nat) (A : TDE) : TDE := fun ρ Q => (ownL j ρ).isSome = true ∧ A ρ fun i ρ1 => ∃ xs n k d, ownL j ρ1 = some xs ∧ xs.length ≤ 100000 ∧ i = .int n ∧ ixN xs.length n = some k ∧ xs[k]? = some d ∧ Q d (ρ1.set j (.ow (xs.eraseIdx k)))
theorem le_popAt {j : Nat} (h : LE K bor te A) : LE K bor (tBM K "list" rPopAt (tVar j) (tCons te tNil)) (dPopAt j A) := fun {c G σ H ρ Qd Q} hc R ⟨q0, q⟩ k => by
  obtain ⟨a, e1, vs0, e2⟩ := ow_val R q0
  refine ⟨_, e1, tyL e2, h hc R q fun v H1 G1 ρ1 d s R1 p1 ⟨xs, n, m, y, f1, f2, f0, f5, f6, q1⟩ => ?_⟩
  subst f0
  cases p1
  obtain ⟨vs, f3, f4⟩ := ow_at R1 f1 e1
  obtain ⟨g1, g2, g3, g4⟩ := ixN_seq f5
  obtain ⟨v, f7, f8⟩ := dps_of f4 f6
  refine ⟨a, vs, n, m, v, rfl, rfl, f3, by omega, by omega, by rw [dps_len f4]; exact g1, f7, k _ _ G1 _ y s ?_ f8 q1⟩
  exact R1.change (ownL_some f1) e1 (dps_erase _ f4)

def sStore (j : Nat) (A B : TDE) : TDS := fun E ρ => A ρ fun d ρ1 => (ownL j ρ1).isSome = true ∧ B ρ1 fun i ρ2 => ∃ xs n k, ownL j ρ2 = some xs ∧ i = .int n ∧ ixN xs.length n = some k ∧ E.nx (ρ2.set j (.ow (xs.set k d)))
theorem ls_store {j : Nat} {ti : TE} (h : LE K bor te A) (hi : LE K bor ti B) : LS K bor (tAsg te (gSub (tVar j) ti rSetL)) (sStore j A B) := fun {c G σ H ρ E D} hc R q l =>
  h hc R q fun v H1 G1 ρ1 d s1 R1 p1 ⟨q0, q1⟩ => by
    obtain ⟨a, e1, vs0, e2⟩ := ow_val R1 q0
    refine ⟨_, e1, hi hc R1 q1 fun w H2 G2 ρ2 i s2 R2 p2 ⟨xs, n, m, f1, f2, f3, q2⟩ => ?_⟩
    subst f2
    cases p2
    obtain ⟨vs, f5, f4⟩ := ow_at R2 f1 e1
    refine ⟨a, vs, n, m, rfl, rfl, f5, by rw [dps_len f4]; exact f3, l.nx (s1.trans s2) (R2.change (ownL_some f1) e1 (dps_set (dpS s2 p1) m f4)) q2⟩

def dReverse (j : Nat) : TDE := fun ρ Q => ∃ xs, ownL j ρ = some xs ∧ Q .none (ρ.set j (.ow xs.reverse))


def forD (g : TDG) (B : TDS) (E : DEnds) : List D → List Sl → Prop
  | [], ρ => E.nx ρ
  | d :: ds, ρ => g d ρ fun ρ1 => B { E with nx := forD g B E ds, ct := forD g B E ds, bk := E.nx } ρ1
theorem for_links {c : C0} {G0 G : Hp} {E : DEnds} {D : Ends} {W : List Sl → Prop} {N : L2.St → Hp → Prop} (l : Links K c G E D) (hN : ∀ {G' σ' H' ρ'}, Same G G' → Rel K c G' σ' H' ρ' → W ρ' → N σ' H') :
    Links K c G { E with nx := W, ct := W, bk := E.nx } { D with nx := N, ct := N, bk := D.nx } :=
  ⟨fun s R q => hN s R q, fun s => l.rt s, fun s R q => l.nx s R q, fun s R q => hN s R q⟩
def sForL (A : TDE) (g : TDG) (B : TDS) : TDS := fun E ρ => A ρ fun d ρ1 => ∃ ds, d = .list ds ∧ forD g B E ds ρ1
theorem ls_forL {tl : TE} {g : TG} {tg : TDG} (h : LE K bor tl A) (hg : LG K bor g tg) (hb : LS K bor t S) : LS K bor (tFor (iList K tl) g t) (sForL A tg S) := fun {c G σ H ρ E D} hc R q l =>
  h hc R q fun v H1 G1 ρ1 d s1 R1 p1 ⟨ds, e, q1⟩ => by
    subst e
    cases p1 with
    | @lst a xs _ h1 h2 =>
      refine ⟨a, rfl, ⟨xs, rdL (rdS R1.sub h1)⟩, for_list (K := K) (a := a) (xs := xs) (fun i σ' H' => ∃ G' ρ', Same G1 G' ∧ Rel K c G' σ' H' ρ' ∧ forD tg S E (ds.drop i) ρ') ⟨G1, ρ1, Same.refl _, R1, q1⟩ ?_ ?_ ?_⟩
      · rintro i σ' H' _ ⟨G', ρ', s, R', _⟩
        exact rdL (rdS (s.trans R'.sub) h1)
      · rintro i x σ' H' hx ⟨G', ρ', s, R', q'⟩
        obtain ⟨d, hd, p⟩ := dps_get h2 hx
        have hi : i < ds.length := (List.getElem?_eq_some_iff.mp hd).1
        have ed : ds.drop i = d :: ds.drop (i + 1) := by
          rw [List.drop_eq_getElem_cons hi]
          have := (List.getElem?_eq_some_iff.mp hd).2
          rw [this]
        rw [ed] at q'
        refine hg hc R' (dpS s p) q' fun σ2 ρ2 R2 q2 => ?_
        exact hb hc R2 q2 (for_links (G0 := G) (l.mono (s1.trans s)) fun s3 R3 q3 => ⟨_, _, s.trans s3, R3, q3⟩)
      · rintro σ' H' ⟨G', ρ', s, R', q'⟩
        rw [dps_len h2, List.drop_length] at q'
        exact l.nx (s1.trans s) R' q'
def sForT (A : TDE) (g : TDG) (B : TDS) : TDS := fun E ρ => A ρ fun d ρ1 => ∃ ds, d = .tuple ds ∧ forD g B E ds ρ1
def rangeD (lo : Int) (n : Nat) : List D := (List.range n).map fun (k : Nat) => PyData.int (lo + k)
theorem rangeD_get {lo : Int} {n i : Nat} (h : i < n) : (rangeD lo n)[i]? = some (.int (lo + i)) := by
  unfold rangeD
  rw [List.getElem?_map, List.getElem?_range h]
  rfl
theorem rangeD_drop {lo : Int} {n i : Nat} (h : i < n) : (rangeD lo n).drop i = .int (lo + i) :: (rangeD lo n).drop (i + 1) := by
  obtain ⟨hl, e⟩ := List.getElem?_eq_some_iff.mp (rangeD_get (lo := lo) h)
  rw [List.drop_eq_getElem_cons hl, e]
def sForR (A : TDA) (g : TDG) (B : TDS) : TDS := fun E ρ => A ρ fun vs ρ1 => ∃ j, vs = [.int j] ∧ j < 2 ^ 62 ∧ -(2 ^ 62) ≤ j ∧ forD g B E (rangeD 0 j.toNat) ρ1
theorem ls_forR {ta : TA} {g : TG} {tg : TDG} {A : TDA} (h : LEs K bor ta A) (hg : LG K bor g tg) (hb : LS K bor t S) : LS K bor (tFor (iRng1 ta) g t) (sForR A tg S) := fun {c G σ H ρ E D} hc R q l =>
  h hc R q fun vs H1 G1 ρ1 ds s1 R1 p1 ⟨j, e, j1, j2, q1⟩ => by
    subst e
    cases p1 with
    | cons a b =>
      cases a
      cases b
      refine ⟨j, rfl, j2, j1, for_range (lo := 0) (n := j.toNat) (fun i σ' H' => ∃ G' ρ', Same G1 G' ∧ Rel K c G' σ' H' ρ' ∧ forD tg S E ((rangeD 0 j.toNat).drop i) ρ') ⟨G1, ρ1, Same.refl _, R1, q1⟩ ?_ ?_⟩
      · rintro i σ' H' hi ⟨G', ρ', s, R', q'⟩
        rw [rangeD_drop hi] at q'
        refine hg hc R' (.int _) q' fun σ2 ρ2 R2 q2 => ?_
        exact hb hc R2 q2 (for_links (G0 := G) (l.mono (s1.trans s)) fun s3 R3 q3 => ⟨_, _, s.trans s3, R3, q3⟩)
      · rintro σ' H' ⟨G', ρ', s, R', q'⟩
        rw [List.drop_of_length_le (by unfold rangeD; simp)] at q'
        exact l.nx (s1.trans s) R' q'
def sForR2 (A : TDA) (g : TDG) (B : TDS) : TDS := fun E ρ => A ρ fun vs ρ1 => ∃ i j, vs = [.int i, .int j] ∧ (-(2 ^ 62) ≤ i ∧ i < 2 ^ 62 ∧ -(2 ^ 62) ≤ j ∧ j < 2 ^ 62) ∧ forD g B E (rangeD i (j - i).toNat) ρ1
theorem LB.g {tc : TT} {f : List Sl → Option Bool} (h : LB K bor tc f) : LT K bor tc (dB f) := fun {_ _ _ _ _ _ _} hc R ⟨b, e, q⟩ k => h hc R e fun G' H' g => k b H' G' _ g.g (R.grow g) q
def asBool (f : FE) : List Sl → Option Bool := fun ρ => match f ρ with
  | some (.bool b) => some b
  | _ => none
theorem lb_test {f : FE} (h : LM K bor te f) : LB K bor (tTest te) (asBool f) := fun {c G σ H ρ b Q} hc R e k => by
  unfold asBool at e
  split at e
  · rename_i b' e1
    injection e with e; subst e
    exact h hc R e1 fun v G' H' g p => ⟨b', p.bl, k G' H' g⟩
  · cases e
def dTest (A : TDE) : TDT := fun ρ Q => A ρ fun d ρ1 => ∃ b, d = .bool b ∧ Q b ρ1
theorem lt_test (h : LE K bor te A) : LT K bor (tTest te) (dTest A) := fun {c G σ H ρ Qd Q} hc R q k =>
  h hc R q fun v H' G' ρ' d s R' p ⟨b, e, q'⟩ => by
    subst e; cases p; exact ⟨b, rfl, k b H' G' ρ' s R' q'⟩
theorem lt_B (h : LE K bor te A) : LT K bor (tB te) (dTest A) := lt_test h
variable {tc td : TT} {C C' : TDT} {b1 b2 : List Sl → Option Bool}
def dAnd (C C' : TDT) : TDT := fun ρ Q => C ρ fun b ρ1 => (b = true → C' ρ1 Q) ∧ (b = false → Q false ρ1)
def dOr (C C' : TDT) : TDT := fun ρ Q => C ρ fun b ρ1 => (b = true → Q true ρ1) ∧ (b = false → C' ρ1 Q)
theorem lt_or (h1 : LT K bor tc C) (h2 : LT K bor td C') : LT K bor (tOr tc td) (dOr C C') := fun {c G σ H ρ Qd Q} hc R q k =>
  h1 hc R q fun b H1 G1 ρ1 s1 R1 ⟨q1, q2⟩ => by
    cases b with
    | true => exact iteT (k true H1 G1 ρ1 s1 R1 (q1 rfl))
    | false => exact iteF (h2 hc R1 (q2 rfl) fun b H2 G2 ρ2 s2 R2 q' => k b H2 G2 ρ2 (s1.trans s2) R2 q')
def dNot (C : TDT) : TDT := fun ρ Q => C ρ fun b ρ1 => Q (!b) ρ1
theorem lt_not (h1 : LT K bor tc C) : LT K bor (tNot tc) (dNot C) := fun {c G σ H ρ Qd Q} hc R q k => h1 hc R q fun b H1 G1 ρ1 s1 R1 q' => k (!b) H1 G1 ρ1 s1 R1 q'
def bAnd (f g : List Sl → Option Bool) : List Sl → Option Bool := fun ρ => match f ρ with
  | some true => g ρ
  | some false => some false
  | none => none
theorem lb_and (h1 : LB K bor tc b1) (h2 : LB K bor td b2) : LB K bor (tAnd tc td) (bAnd b1 b2) := fun {c G σ H ρ b Q} hc R e k => by
  unfold bAnd at e
  split at e
  · rename_i e1
    exact h1 hc R e1 fun G1 H1 g1 => iteT (h2 hc (R.grow g1) e fun G2 H2 g2 => k G2 H2 (g1.trans g2))
  · rename_i e1
    injection e with e; subst e
    exact h1 hc R e1 fun G1 H1 g1 => iteF (k G1 H1 g1)
  · cases e
def bOr (f g : List Sl → Option Bool) : List Sl → Option Bool := fun ρ => match f ρ with
  | some true => some true
  | some false => g ρ
  | none => none
theorem lb_or (h1 : LB K bor tc b1) (h2 : LB K bor td b2) : LB K bor (tOr tc td) (bOr b1 b2) := fun {c G σ H ρ b Q} hc R e k => by
  unfold bOr at e
  split at e
  · rename_i e1
    injection e with e; subst e
    exact h1 hc R e1 fun G1 H1 g1 => iteT (k G1 H1 g1)
  · rename_i e1
    exact h1 hc R e1 fun G1 H1 g1 => iteF (h2 hc (R.grow g1) e fun G2 H2 g2 => k G2 H2 (g1.trans g2))
  · cases e
def bNot (f : List Sl → Option Bool) : List Sl → Option Bool := fun ρ => (f ρ).map (!·)
theorem lb_not (h1 : LB K bor tc b1) : LB K bor (tNot tc) (bNot b1) := fun {c G σ H ρ b Q} hc R e k => by
  unfold bNot at e
  cases e1 : b1 ρ with
  | none => rw [e1] at e; cases e
  | some b' =>
    rw [e1] at e
    injection e with e; subst e
    exact h1 hc R e1 fun G1 H1 g1 => k G1 H1 g1

variable {ta tb : TE} {f g : FE}
def fAndV (f g : FE) : FE := fun ρ => match f ρ with
  | some (.bool true) => g ρ
  | some (.bool false) => some (.bool false)
  | _ => none
theorem lp_andV (h1 : LM K bor ta f) (h2 : LP K bor tb g) : LP K bor (tAndV ta tb) (fAndV f g) := fun {c G σ H ρ d Q} hc R e k => by
  unfold fAndV at e
  split at e
  · rename_i e1
    exact h1 hc R e1 fun v G1 H1 g1 p1 => ⟨true, p1.bl, iteT (h2 hc (R.grow g1) e fun u G2 H2 g2 p2 => k u G2 H2 (g1.trans g2) p2)⟩
  · rename_i e1
    injection e with e; subst e
    exact h1 hc R e1 fun v G1 H1 g1 p1 => ⟨false, p1.bl, iteF (k _ G1 H1 g1 (.bl _))⟩
  · cases e
def fOrV (f g : FE) : FE := fun ρ => match f ρ with
  | some (.bool true) => some (.bool true)
  | some (.bool false) => g ρ
  | _ => none
def fNotV (f : FE) : FE := fun ρ => match f ρ with
  | some (.bool b) => some (.bool (!b))
  | _ => none
def dIfE (C : TDT) (A B : TDE) : TDE := fun ρ Q => C ρ fun b ρ1 => (b = true → A ρ1 Q) ∧ (b = false → B ρ1 Q)
theorem le_ifE (h : LT K bor tc C) (h1 : LE K bor ta A) (h2 : LE K bor tb B) : LE K bor (tIf tc ta tb) (dIfE C A B) := fun {c G σ H ρ Qd Q} hc R q k =>
  h hc R q fun b H1 G1 ρ1 s1 R1 ⟨q1, q2⟩ => by
    cases b with
    | true => exact iteT (h1 hc R1 (q1 rfl) fun v H2 G2 ρ2 d s2 R2 p q' => k v H2 G2 ρ2 d (s1.trans s2) R2 p q')
    | false => exact iteF (h2 hc R1 (q2 rfl) fun v H2 G2 ρ2 d s2 R2 p q' => k v H2 G2 ρ2 d (s1.trans s2) R2 p q')
def fIfE (b : List Sl → Option Bool) (f g : FE) : FE := fun ρ => match b ρ with
  | some true => f ρ
  | some false => g ρ
  | none => none
end
end TN
set_option Elab.async false
set_option linter.all false
set_option maxRecDepth 100000
set_option maxHeartbeats 1000000
set_option autoImplicit false
namespace TN
open PySem PySem.Spec PyProof.Rows L2
structure FnG (P : Program) (w : World) (K : PySem.W.Frag) (mg : Str → Option Value) (base : Heap) (CX : CXT) (k : Nat) (f : Addr) (fd : FuncData) (ps : List Str) (sp : Sp) : Prop where
  count : ∀ vs H Q E, sp vs H Q E → vs.length = ps.length
  go : ∀ (A : Around) (outer : List Env) (s : Shared) (H : Hp) (args : Args) (us : List Value) (vs : List V) (Q : VK) (E : XK), A.guards = some [] → Room k A → Env0 P w K mg base A outer s H →
    BindsTo s fd args (ps.zip us) → Vals vs us → sp vs H Q E → codeAny (model P w) A (.call (.ref f) args) (CR CX outer P w H s Q E) s

section
variable {P : Program} {w : World} {K : PySem.W.Frag} {mg : Str → Option Value} {base : Heap} {CX : CXT} {k : Nat} {f : Addr} {fd : FuncData} {ps : List Str} {sp : Sp}
theorem FnG.up {j : Nat} (F : FnG P w K mg base CX j f fd ps sp) (h : j ≤ k) : FnG P w K mg base CX k f fd ps sp :=
  ⟨F.count, fun A o s H a us vs Q E hg hr => F.go A o s H a us vs Q E hg (hr.mono h)⟩
theorem FnG.less {sp' : Sp} (F : FnG P w K mg base CX k f fd ps sp) (h : ∀ vs H Q E, sp' vs H Q E → sp vs H Q E) : FnG P w K mg base CX k f fd ps sp' :=
  ⟨fun vs H Q E q => F.count vs H Q E (h _ _ _ _ q), fun A o s H a us vs Q E hg hr he hb hv hs => F.go A o s H a us vs Q E hg hr he hb hv (h _ _ _ _ hs)⟩

theorem fnG_body {x qual : Str} {st : Stmt} {N : List Str} (F : Fun K x qual st f fd) (S : FnScope N ps (defScope st)) (hn : ∀ vs H Q E, sp vs H Q E → vs.length = ps.length)
    (body : ∀ (cdv : Value) (A : Around) (outer : List Env) (s : Shared) (H : Hp) (vs : List V) (Q : VK) (E : XK), A.guards = some [] → Room k (A.deeper (envOfC qual (defScope st) s.heap.objs.size f cdv)) → sp vs H Q E →
      ∃ t, PSs (cxOf CX P w K mg base N qual (defScope st) f cdv A outer s H E) (defBody st) t ∧ t { nx := fun _ H' => Q .non H', rt := Q } (L2.start N vs) H) :
    FnG P w K mg base CX (k + 1) f fd ps sp := by
  obtain ⟨oc, od, kV, doc, pm, an, cdv, ct, osl, hfd, hlk, hcode⟩ := F.ex
  subst hfd
  constructor
  · exact hn
  · intro A outer s H args us vs Q E hg hr he hb hv hs
    have count := hn vs H Q E hs
    have stays : ∀ b o, base.get? b = some o → s.heap.get? b = some o := fun b o e => (he.bs b o e).1
    have hK : K.In s.heap := he.mod.kin.keeps stays
    have hlim : s.heap.NoLimit := he.mod.nolimit.keeps stays
    have kinds : ∀ y ∈ ps.zip us, (defScope st).names.lookup y.1 = some .local ∨
        ((defScope st).names.lookup y.1 = some .cell ∧ ((cellsFrom (s.heap.objs.size + 1) (defScope st).names []).lookup y.1).isSome = true) := by
      rintro ⟨y, u⟩ hy
      rcases S.par y (List.of_mem_zip hy).1 with h | h
      · exact Or.inl h
      · exact Or.inr ⟨h, PySem.W.cellsFrom_some _ _ _ (Or.inl h)⟩
    apply codeAny_call_function hr.depth (hK _ _ hlk) rfl S.co S.gen rfl (PySem.W.codeRec_of hK hcode)
    apply hb
    apply wpAny_newFunctionEnv_cells S.kind kinds
    intro env eenv s1 x1
    subst eenv
    refine And.intro (hlim.keeps x1.toInCall.keep) (codeAny_func ?_)
    obtain ⟨t, ht, hq⟩ := body cdv A outer s H vs Q E hg (hr.deeper _) hs
    have I0 := inv_start (CX := CX) (E := E) (mg := mg) (K := K) S hr.hd he count hv x1
    apply wpAny_mono (ht.run [] s1 (L2.start N vs) H _ I0 hq)
    · intro fl s' hfl
      cases fl with
      | next =>
        obtain ⟨σ', H', J, q⟩ := hfl
        exact ⟨.non, H', J.os, J.bare, J.base, J.hok, rfl, q⟩
      | ret u =>
        obtain ⟨v, σ', H', J, rv, q⟩ := hfl
        exact ⟨v, H', J.os, J.bare, J.base, J.hok, rv, q⟩
      | brk => exact hfl.elim fun _ z => z.elim fun _ z => z.2.elim
      | cont => exact hfl.elim fun _ z => z.elim fun _ z => z.2.elim
    · exact fun e s' z => z
end
section
variable {X : Cx} {CX : CXT} {k : Nat} {f : Addr} {fd : FuncData} {ps ks : List Str} {sp : Sp} {E : XK} {x : Str} {p pos : Pos} {e : Expr} {es : List Expr} {t tk : TA} {kws : List Keyword}
theorem callG {pins : List (Addr × Obj)} {σ : L2.St} {H : Hp} {s : Shared} {Q : VK} {us : List Value} {vs : List V} {args : Args} (F : FnG X.prog X.w X.K X.mg X.base CX k f fd ps sp) (hg : X.A.guards = some []) (hr : Room k X.A) (hx : Passes CX X E)
    (I : Inv X pins σ H s) (hb : BindsTo s fd args (ps.zip us)) (r : Vals vs us) (h : sp vs H Q E) : codeAny (model X.prog X.w) X.A (.call (.ref f) args) (fun r s' => match r with
      | .ok (.ret v) => EP X pins σ Q v s'
      | .ok _ => False
      | .error e => X.xe e s') s := by
  refine codeAny_mono (F.go X.A X.stack s H args us vs Q E hg hr I.env0 hb r h) fun res s' hq => ?_
  cases res with
  | error e => exact hx pins σ H s e s' I hq
  | ok fl =>
    cases fl with
    | ret u => exact I.after hq
    | next => exact False.elim hq
    | brk => exact False.elim hq
    | cont => exact False.elim hq
theorem runG {pins : List (Addr × Obj)} {σ : L2.St} {H : Hp} {s : Shared} {Q : VK} {us : List Value} {vs : List V} (F : FnG X.prog X.w X.K X.mg X.base CX k f fd ps sp) (hg : X.A.guards = some []) (hr : Room k X.A) (hb : Binds X.K fd ps []) (hx : Passes CX X E)
    (I : Inv X pins σ H s) (r : Vals vs us) (h : sp vs H Q E) : wpAny (model X.prog X.w) X.A (call (.ref f) us) (EP X pins σ Q) X.xe s := by
  have hl : us.length = ps.length := by rw [← r.length]; exact F.count _ _ _ _ h
  have hb' := hb s us I.kIn (by simpa using hl)
  rw [List.append_nil] at hb'
  refine wpAny_call (codeAny_mono (callG F hg hr hx I hb' r h) fun res s' hq => ?_)
  cases res with
  | error e => exact hq
  | ok fl => cases fl <;> first | exact hq | exact hq.elim
theorem peG_call (F : FnG X.prog X.w X.K X.mg X.base CX k f fd ps sp) (hg : X.A.guards = some []) (hr : Room k X.A) (hgl : Gl X x) (hm : X.mg x = some (.ref f)) (hk : PySem.W.keepIn X.K (.ref f) = true) (hb : Binds X.K fd ps []) (hx : Passes CX X E)
    (ha : PA X (e :: es) t) (hdb : (x == ("__debug__" : Str)) = false := by decide) (he : starEach (e :: es) X.env = (false, eval e X.env) :: starEach es X.env := by rfl) (hpl : (backTo pos (starEach es X.env)).any (·.1) = false := by rfl) :
    PE X (.Call (.Name x p) (e :: es) [] pos) (tCall sp [] E t) := by
  constructor
  intro pins s σ H Q I h
  apply wpAny_Call_Name_kw
  apply ld_glob I hgl hm _ hdb
  apply PySem.W.callWith_K (h₀ := X.base) I.ok.mod.kin hk _ he hpl
  apply thn (ha.run pos pins s σ H _ I h)
  rintro us s1 ⟨vs, H1, I1, r, q⟩
  rw [List.append_nil] at q
  exact ⟨I1.kIn, runG F hg hr hb hx I1 r q⟩

structure KOnly (K : PySem.W.Frag) (fd : FuncData) (ps ks : List Str) (g : List Value → List Value) (gV : List V → List V) : Prop where
  to : ∀ (s : Shared) (ws : List Value), K.In s.heap → (g ws).length = ps.length → BindsTo s fd ⟨[], ks.zip ws⟩ (ps.zip (g ws))
  rel : ∀ {zs : List V} {ws : List Value}, Vals zs ws → Vals (gV zs) (g ws)
end
def sp0 (K : PySem.W.Frag) (sem : List D → (Sl → Prop) → Prop) : Sp := fun vs H Q _ => ∃ (G : Hp) (ds : List D) (Qd : Sl → Prop), TabsK K H ∧ NoTab G ∧ Same G H ∧ DqAll K G vs ds ∧ sem ds Qd ∧
  ∀ v G' H' r, Grow K G H G' H' → RtOk K ⟨H, G, [], []⟩ G' H' v r → Qd r → Q v H'

structure GrowAt (K : PySem.W.Frag) (a : Addr) (G H G' H' : Hp) : Prop where
  h : ∀ b o, b ≠ a → H b = some o → (∀ ps, o ≠ .tbl ps) → H' b = some o
  g : Same G G'
  s : Same G' H'
  n : ∀ b, H b ≠ none → G b = none → G' b = none
  d : ∀ b, H b ≠ none → H' b ≠ none
  t : TabsK K H'
  m : NoTab G'

def spB (K : PySem.W.Frag) (sem : List D → List D → (Sl → List D → Prop) → Prop) : Sp := fun vs H Q _ => ∃ (G : Hp) (a : Addr) (ws : List V) (xs : List D) (vr : List V) (ds : List D) (Qd : Sl → List D → Prop),
  vs = .ref a :: vr ∧ TabsK K H ∧ NoTab G ∧ Same G H ∧ H a = some (.lst ws) ∧ G a = none ∧ DqAll K G ws xs ∧ DqAll K G vr ds ∧ sem xs ds Qd ∧
  ∀ v G' H' r ws' xs', GrowAt K a G H G' H' → H' a = some (.lst ws') → DqAll K G' ws' xs' → RtOk K ⟨H, G, [(0, a)], [0]⟩ G' H' v r → Qd r xs' → Q v H'

section
variable {P : Program} {w : World} {K : PySem.W.Frag} {mg : Str → Option Value} {base : Heap} {k : Nat} {f : Addr} {fd : FuncData} {ps : List Str}
def start0 (n : Nat) (ds : List D) : List Sl := ds.map .sh ++ List.replicate (n - ds.length) .no
theorem rel_start {N : List Str} {G H : Hp} {vs : List V} {ds : List D} (tb : TabsK K H) (nt : NoTab G) (s : Same G H) (p : DqAll K G vs ds) : Rel K ⟨H, G, [], []⟩ G (L2.start N vs) H (start0 N.length ds) := by
  have hl := dps_len p
  have shp : ∀ (i : Nat) (sl : Sl), (start0 N.length ds)[i]? = some sl → (∃ d, ds[i]? = some d ∧ sl = .sh d) ∨ sl = .no := fun i sl e => by
    unfold start0 at e
    by_cases hi : i < ds.length
    · rw [List.getElem?_append_left (by simpa using hi), List.getElem?_map] at e
      cases q : ds[i]? with
      | none => rw [q] at e; cases e
      | some d => rw [q] at e; injection e with e; exact .inl ⟨d, rfl, e.symm⟩
    · rw [List.getElem?_append_right (by simpa using hi), List.getElem?_replicate] at e
      split at e
      · injection e with e; exact .inr e.symm
      · cases e
  refine ⟨s, fun a o e _ _ => e, fun a h => h, tb, nt, fun a _ h => h, by unfold L2.start start0; simp [hl], fun i sl e => ?_, fun i j sl sl' a _ e _ ob => ?_, fun i a h => (nomatch h), fun i a h => (nomatch h)⟩
  · rcases shp i sl e with ⟨d, e1, rfl⟩ | rfl
    · obtain ⟨v, e2, e3⟩ := dps_of p e1
      refine ⟨v, ?_, e3⟩
      unfold L2.start
      have hi : i < vs.length := (List.getElem?_eq_some_iff.mp e2).1
      rw [List.getElem?_append_left (by simpa using hi), List.getElem?_map, e2]
      rfl
    · trivial
  · rcases shp i _ e with ⟨d, e1, e2⟩ | e2 <;> (subst e2; exact ob.elim)
def begB (n : Nat) (xs : List D) (ds : List D) : List Sl := .ow xs :: (ds.map .sh ++ List.replicate (n - (ds.length + 1)) .no)
theorem rel_begB {N : List Str} {G H : Hp} {a : Addr} {ws vs : List V} {xs ds : List D} (tb : TabsK K H) (nt : NoTab G) (s : Same G H) (ha : H a = some (.lst ws)) (hg : G a = none) (px : DqAll K G ws xs) (p : DqAll K G vs ds) :
    Rel K ⟨H, G, [(0, a)], [0]⟩ G (L2.start N (.ref a :: vs)) H (begB N.length xs ds) := by
  have hl := dps_len p
  have shp : ∀ (i : Nat) (sl : Sl), (begB N.length xs ds)[i]? = some sl → (i = 0 ∧ sl = .ow xs) ∨ (∃ j d, i = j + 1 ∧ ds[j]? = some d ∧ sl = .sh d) ∨ sl = .no := fun i sl e => by
    unfold begB at e
    cases i with
    | zero => injection e with e; exact .inl ⟨rfl, e.symm⟩
    | succ i =>
      rw [List.getElem?_cons_succ] at e
      by_cases hi : i < ds.length
      · rw [List.getElem?_append_left (by simpa using hi), List.getElem?_map] at e
        cases q : ds[i]? with
        | none => rw [q] at e; cases e
        | some d => rw [q] at e; injection e with e; exact .inr (.inl ⟨i, d, rfl, q, e.symm⟩)
      · rw [List.getElem?_append_right (by simpa using hi), List.getElem?_replicate] at e
        split at e
        · injection e with e; exact .inr (.inr e.symm)
        · cases e
  have hlen : (L2.start N (.ref a :: vs)).length = (begB N.length xs ds).length := by
    unfold L2.start begB
    simp only [List.length_append, List.length_map, List.length_cons, List.length_replicate, hl]
    omega
  have h0 : (L2.start N (.ref a :: vs))[0]? = some (some (.ref a)) := rfl
  refine ⟨s, fun a o e _ _ => e, fun a h => h, tb, nt, fun a _ h => h, hlen, fun i sl e => ?_, fun i j sl sl' b hij e1 e2 o1 o2 => ?_, fun i b h => ?_, fun i b h => ?_⟩
  · rcases shp i sl e with ⟨rfl, rfl⟩ | ⟨j, d, rfl, e1, rfl⟩ | rfl
    · exact ⟨a, ws, h0, ha, px, hg, .inr (List.mem_singleton.mpr rfl)⟩
    · obtain ⟨v, e2, e3⟩ := dps_of p e1
      refine ⟨v, ?_, e3⟩
      unfold L2.start
      have hi : j < vs.length := (List.getElem?_eq_some_iff.mp e2).1
      rw [List.getElem?_append_left (by simpa using hi), List.getElem?_map, List.getElem?_cons_succ, e2]
      rfl
    · trivial
  · rcases shp i _ e1 with ⟨rfl, _⟩ | ⟨_, _, _, _, z⟩ | z
    · rcases shp j _ e2 with ⟨rfl, _⟩ | ⟨_, _, _, _, z⟩ | z
      · exact absurd rfl hij
      · subst z; exact o2.elim
      · subst z; exact o2.elim
    · subst z; exact o1.elim
    · subst z; exact o1.elim
  · have e := List.mem_singleton.mp h
    injection e with e1 e2
    subst e1; subst e2
    exact ⟨h0, xs, rfl⟩
  · have e := List.mem_singleton.mp h
    injection e with e1 e2
    subst e1
    exact List.mem_singleton.mpr rfl


theorem fn0 {x qual : Str} {st : Stmt} {N : List Str} {sem : List D → (Sl → Prop) → Prop} {t : TS} {T : TDS} (F : Fun K x qual st f fd) (S : FnScope N ps (defScope st)) (hn : ∀ ds Q, sem ds Q → ds.length = ps.length)
    (body : ∀ (cdv : Value) (A : Around) (outer : List Env) (s : Shared) (H : Hp) (E : XK), A.guards = some [] → Room k (A.deeper (envOfC qual (defScope st) s.heap.objs.size f cdv)) →
      PSs (cxOf CX0 P w K mg base N qual (defScope st) f cdv A outer s H E).nox (defBody st) t)
    (hl : LS K [] t T) (hs : ∀ ds Qd, sem ds Qd → T { nx := fun _ => Qd (.sh .none), rt := fun r _ => Qd r } (start0 N.length ds)) :
    FnG P w K mg base CX0 (k + 1) f fd ps (sp0 K sem) := by
  refine fnG_body F S (fun vs H Q E h => ?_) fun cdv A outer s H vs Q E hg hr h => ⟨t, (body cdv A outer s H E hg hr).nox, ?_⟩
  · obtain ⟨G, ds, Qd, _, _, _, p, q, _⟩ := h
    rw [dps_len p]; exact hn _ _ q
  · obtain ⟨G, ds, Qd, tb, nt, sm, p, q, fin⟩ := h
    have R := rel_start (N := N) tb nt sm p
    have grow : ∀ {G' : Hp} {σ' : L2.St} {H' : Hp} {ρ' : List Sl}, Same G G' → Rel K ⟨H, G, [], []⟩ G' σ' H' ρ' → Grow K G H G' H' := fun s' R' =>
      ⟨fun b o e => R'.fr b o e fun i z => (nomatch z), s', R'.sub, fun b h1 h2 => R'.gh b h1 h2, fun b h1 => R'.ft b h1, fun _ => R'.tb, fun _ => R'.nt⟩
    exact hl rfl R (hs ds Qd q) ⟨fun s' R' q' => fin _ _ _ (.sh .none) (grow s' R') .non q', fun s' R' ok q' => fin _ _ _ _ (grow s' R') ok q', fun _ _ z => z.elim, fun _ _ z => z.elim⟩

theorem fnB {x qual : Str} {st : Stmt} {N : List Str} {sem : List D → List D → (Sl → List D → Prop) → Prop} {t : TS} {T : TDS} (F : Fun K x qual st f fd) (S : FnScope N ps (defScope st)) (hn : ∀ xs ds Q, sem xs ds Q → ds.length + 1 = ps.length)
    (body : ∀ (cdv : Value) (A : Around) (outer : List Env) (s : Shared) (H : Hp) (E : XK), A.guards = some [] → Room k (A.deeper (envOfC qual (defScope st) s.heap.objs.size f cdv)) →
      PSs (cxOf CX0 P w K mg base N qual (defScope st) f cdv A outer s H E).nox (defBody st) t)
    (hl : LS K [0] t T) (hs : ∀ xs ds Qd, sem xs ds Qd → T { nx := fun ρ => ∃ ys, ownL 0 ρ = some ys ∧ Qd (.sh .none) ys, rt := fun r ρ => ∃ ys, ownL 0 ρ = some ys ∧ Qd r ys } (begB N.length xs ds)) :
    FnG P w K mg base CX0 (k + 1) f fd ps (spB K sem) := by
  refine fnG_body F S (fun vs H Q E h => ?_) fun cdv A outer s H vs Q E hg hr h => ⟨t, (body cdv A outer s H E hg hr).nox, ?_⟩
  · obtain ⟨G, a, ws, xs, vr, ds, Qd, e, _, _, _, _, _, _, p, q, _⟩ := h
    rw [e, List.length_cons, dps_len p]; exact hn _ _ _ q
  · obtain ⟨G, a, ws, xs, vr, ds, Qd, e, tb, nt, sm, ha, hga, px, p, q, fin⟩ := h
    subst e
    have R := rel_begB (N := N) tb nt sm ha hga px p
    have grow : ∀ {G' : Hp} {σ' : L2.St} {H' : Hp} {ρ' : List Sl}, Same G G' → Rel K ⟨H, G, [(0, a)], [0]⟩ G' σ' H' ρ' → GrowAt K a G H G' H' := fun s' R' =>
      ⟨fun b o hb e => R'.fr b o e fun i z => by
        have e := List.mem_singleton.mp z
        injection e with _ e2
        exact hb e2, s', R'.sub, fun b h1 h2 => R'.gh b h1 h2, fun b h1 => R'.ft b h1, R'.tb, R'.nt⟩
    have back : ∀ {G' : Hp} {σ' : L2.St} {H' : Hp} {ρ' : List Sl} {ys : List D}, Rel K ⟨H, G, [(0, a)], [0]⟩ G' σ' H' ρ' → ownL 0 ρ' = some ys → ∃ ws', H' a = some (.lst ws') ∧ DqAll K G' ws' ys := fun R' e => by
      obtain ⟨e1, _⟩ := R'.bd 0 a (List.mem_singleton.mpr rfl)
      exact ow_at R' e e1
    refine hl rfl R (hs xs ds Qd q) ⟨fun s' R' ⟨ys, e, q'⟩ => ?_, fun s' R' ok ⟨ys, e, q'⟩ => ?_, fun _ _ z => z.elim, fun _ _ z => z.elim⟩
    · obtain ⟨ws', h1, h2⟩ := back R' e
      exact fin _ _ _ (.sh .none) ws' ys (grow s' R') h1 h2 .non q'
    · obtain ⟨ws', h1, h2⟩ := back R' e
      exact fin _ _ _ _ ws' ys (grow s' R') h1 h2 ok q'
end
section
variable {K : PySem.W.Frag} {bor : List Nat} {ta : TA}
def dCall (sem : List D → (Sl → Prop) → Prop) (A : TDA) : TDE := fun ρ Q => A ρ fun ds ρ1 => sem ds fun r => ∃ d, r = .sh d ∧ Q d ρ1
theorem le_call {sem : List D → (Sl → Prop) → Prop} {A : TDA} {E : XK} (h : LEs K bor ta A) : LE K bor (tCall (sp0 K sem) [] E ta) (dCall sem A) := fun {c G σ H ρ Qd Q} hc R q k =>
  h hc R q fun vs H1 G1 ρ1 ds s1 R1 p q1 => by
    rw [List.append_nil]
    refine ⟨G1, ds, _, R1.tb, R1.nt, R1.sub, p, q1, fun v G' H' r g ok ⟨d, e, q2⟩ => ?_⟩
    subst e
    exact k v H' G' ρ1 d (s1.trans g.g) (R1.grow g) ok q2

def dCallL (sem : List D → (Sl → Prop) → Prop) (A : TDA) : TDL := fun ρ Q => A ρ fun ds ρ1 => sem ds fun r => ∃ xs, r = .ow xs ∧ Q xs ρ1
theorem mineO_of {c : C0} {G : Hp} {σ : L2.St} {H H' : Hp} {ρ : List Sl} (R : Rel K c G σ H ρ) {G' : Hp} {a : Addr} {o : HO} (g : Same G G') (hn : H a = none) (h1 : H' a = some o) (h2 : G' a = none) : MineO c G' σ H' ρ a o :=
  ⟨h1, h2, R.live hn, fun j s e z => by
    obtain ⟨⟨u, e1⟩, _⟩ := R.own e (own_back g (R.sl j s e) z)
    rw [hn] at e1; cases e1⟩
theorem mine_of {c : C0} {G : Hp} {σ : L2.St} {H H' : Hp} {ρ : List Sl} (R : Rel K c G σ H ρ) {G' : Hp} {a : Addr} {vs : List V} (g : Same G G') (hn : H a = none) (h1 : H' a = some (.lst vs)) (h2 : G' a = none) : Mine c G' σ H' ρ a vs := mineO_of R g hn h1 h2
theorem ll_call {sem : List D → (Sl → Prop) → Prop} {A : TDA} {E : XK} (h : LEs K bor ta A) : LL K bor (tCall (sp0 K sem) [] E ta) (dCallL sem A) := fun {c G σ H ρ Qd Q} hc R q k =>
  h hc R q fun vs H1 G1 ρ1 ds s1 R1 p q1 => by
    rw [List.append_nil]
    refine ⟨G1, ds, _, R1.tb, R1.nt, R1.sub, p, q1, fun v G' H' r g ok ⟨xs, e, q2⟩ => ?_⟩
    subst e
    obtain ⟨a, us, e1, e2, e3, e4, e5⟩ := ok
    subst e1
    exact k a us H' G' ρ1 xs (s1.trans g.g) (R1.grow g) (mine_of R1 g.g e4 e2 e3) e5 q2

theorem Rel.after {c : C0} {G G' : Hp} {σ : L2.St} {H H' : Hp} {ρ : List Sl} {j : Nat} {a : Addr} {xs xs' : List D} {ws' : List V} (R : Rel K c G σ H ρ) (h : ownL j ρ = some xs) (ha : σ[j]? = some (some (.ref a)))
    (g : GrowAt K a G H G' H') (h1 : H' a = some (.lst ws')) (h2 : DqAll K G' ws' xs') : Rel K c G' σ H' (ρ.set j (.ow xs')) := by
  have hj := ownL_some h
  obtain ⟨b, vs, e1, e2, e3, e4, e5⟩ := R.owAt hj
  cases refI ha e1
  exact R.rewr hj g.g g.s g.n (fun b u n e => g.h b u (fun z => n (by subst z; exact ha)) e) g.d (fun _ => g.t) g.m ⟨a, ws', ha, h1, h2, g.n a (by rw [e2]; simp) e4, e5⟩ (fun b z => z) fun _ => ⟨xs', rfl⟩

def dCallB (sem : List D → List D → (Sl → List D → Prop) → Prop) (j : Nat) (A : TDA) : TDE := fun ρ Q => (ownL j ρ).isSome = true ∧ A ρ fun ds ρ1 => ∃ xs, ownL j ρ1 = some xs ∧ sem xs ds fun r xs' => ∃ d, r = .sh d ∧ Q d (ρ1.set j (.ow xs'))
theorem le_callB {sem : List D → List D → (Sl → List D → Prop) → Prop} {A : TDA} {E : XK} {j : Nat} (h : LEs K bor ta A) : LE K bor (tCall (spB K sem) [] E (tCons (tVar j) ta)) (dCallB sem j A) := fun {c G σ H ρ Qd Q} hc R ⟨q0, q⟩ k => by
  obtain ⟨a, e1, vs0, e2⟩ := ow_val R q0
  refine ⟨_, e1, h hc R q fun vs H1 G1 ρ1 ds s1 R1 p ⟨xs, f1, q1⟩ => ?_⟩
  show spB K sem ((.ref a :: vs) ++ []) H1 Q E
  rw [List.append_nil]
  obtain ⟨b, ws, g1, g2, g3, g4, g5⟩ := R1.owAt (ownL_some f1)
  rw [e1] at g1
  injection g1 with g1; injection g1 with g1; injection g1 with g1; subst g1
  refine ⟨G1, a, ws, xs, vs, ds, _, rfl, R1.tb, R1.nt, R1.sub, g2, g4, g3, p, q1, fun v G' H' r ws' xs' g h1 h2 ok ⟨d, e, q2⟩ => ?_⟩
  subst e
  exact k v H' G' _ d (s1.trans g.g) (R1.after f1 e1 g h1 h2) ok q2
def dCallBL (sem : List D → List D → (Sl → List D → Prop) → Prop) (j : Nat) (A : TDA) : TDL := fun ρ Q => (ownL j ρ).isSome = true ∧ A ρ fun ds ρ1 => ∃ xs, ownL j ρ1 = some xs ∧ sem xs ds fun r xs' => ∃ ys, r = .ow ys ∧ Q ys (ρ1.set j (.ow xs'))
theorem ll_callB {sem : List D → List D → (Sl → List D → Prop) → Prop} {A : TDA} {E : XK} {j : Nat} (h : LEs K bor ta A) : LL K bor (tCall (spB K sem) [] E (tCons (tVar j) ta)) (dCallBL sem j A) := fun {c G σ H ρ Qd Q} hc R ⟨q0, q⟩ k => by
  obtain ⟨a, e1, vs0, e2⟩ := ow_val R q0
  refine ⟨_, e1, h hc R q fun vs H1 G1 ρ1 ds s1 R1 p ⟨xs, f1, q1⟩ => ?_⟩
  show spB K sem ((.ref a :: vs) ++ []) H1 Q E
  rw [List.append_nil]
  obtain ⟨b, ws, g1, g2, g3, g4, g5⟩ := R1.owAt (ownL_some f1)
  rw [e1] at g1
  injection g1 with g1; injection g1 with g1; injection g1 with g1; subst g1
  refine ⟨G1, a, ws, xs, vs, ds, _, rfl, R1.tb, R1.nt, R1.sub, g2, g4, g3, p, q1, fun v G' H' r ws' xs' g h1 h2 ok ⟨ys, e, q2⟩ => ?_⟩
  subst e
  obtain ⟨b, us, z1, z2, z3, z4, z5⟩ := ok
  subst z1
  refine k b us H' G' _ ys (s1.trans g.g) (R1.after f1 e1 g h1 h2) ⟨z2, z3, R1.live z4, fun i s e z => ?_⟩ z5 q2
  -- an owned place stood ahead of the call, the new one didn't
  have hj := ownL_some f1
  have old : ∃ t, ρ1[i]? = some t ∧ Owns G1 t (σ[i]?) b := by
    by_cases hi : i = j
    · subst hi
      rw [List.getElem?_set_self (List.getElem?_eq_some_iff.mp hj).1] at e
      injection e with e; subst e
      exact ⟨_, hj, z⟩
    · rw [List.getElem?_set_ne (Ne.symm hi)] at e
      exact ⟨s, e, own_back g.g (R1.sl i s e) z⟩
  obtain ⟨t, o1, o2⟩ := old
  obtain ⟨⟨u, o3⟩, _⟩ := R1.own o1 o2
  have z4 : H1 b = none := z4
  rw [o3] at z4; cases z4
end
end TN
set_option Elab.async false
set_option linter.all false
set_option maxRecDepth 100000
set_option maxHeartbeats 1000000
set_option autoImplicit false
namespace TN
open PySem PySem.Spec PyProof.Rows L2
section
variable {K : PySem.W.Frag} {c : C0} {G G' : Hp} {σ : L2.St} {H H' : Hp} {ρ : List Sl} {p : Addr} {ws : List V}
def C0.asideO (c : C0) (p : Addr) (o : HO) : C0 := { c with H := upd c.H p o, G := fun a => if a = p then none else c.G a }
abbrev C0.aside (c : C0) (p : Addr) (ws : List V) : C0 := c.asideO p (.lst ws)
variable {o u : HO}
theorem Rel.guardO (R : Rel K c G σ H ρ) (m : MineO c G σ H ρ p o) : Rel K (c.asideO p o) G σ H ρ := by
  obtain ⟨m1, m2, m3, m4⟩ := m
  refine R.move R.sub (fun a u e q n => ?_) (fun a h => ?_) R.tb R.nt (fun a h1 h2 => ?_) (Same.refl _) rfl rfl fun b u i s e ob eb => ⟨eb, (R.own e ob).2.1, fun z => ?_⟩
  · have e : upd c.H p o a = some u := e
    by_cases ha : a = p
    · subst ha; rw [upd_same] at e; injection e with e; rw [← e]; exact m1
    · rw [upd_ne ha] at e; exact R.fr a u e q n
  · have h : upd c.H p o a ≠ none := h
    by_cases ha : a = p
    · subst ha; rw [m1]; exact Option.some_ne_none _
    · rw [upd_ne ha] at h; exact R.ft a h
  · have h1 : upd c.H p o a ≠ none := h1
    have h2 : (if a = p then none else c.G a) = none := h2
    by_cases ha : a = p
    · subst ha; exact m2
    · rw [upd_ne ha] at h1; rw [if_neg ha] at h2; exact R.gh a h1 h2
  · show upd c.H p o b = none
    rw [upd_ne (fun z => by subst z; exact m4 i s e ob)]; exact z
theorem MineO.nb (R : Rel K c G σ H ρ) (m : MineO c G σ H ρ p o) : ∀ i, (i, p) ∉ c.B := fun i z => by
  obtain ⟨e1, xs, e2⟩ := R.bd i p z
  exact m.2.2.2 i _ e2 e1
theorem Rel.unguardO (R : Rel K (c.asideO p o) G σ H ρ) (hp : c.H p = none) (hb : ∀ i, (i, p) ∉ c.B) (hk : plainO o = true := by rfl) : Rel K c G σ H ρ ∧ MineO c G σ H ρ p o := by
  have hpH : H p = some o := R.fr p _ upd_same hb fun ps z => by subst z; cases hk
  have hpG : G p = none := R.gh p (by show upd c.H p o p ≠ none; rw [upd_same]; simp) (by show (if p = p then none else c.G p) = none; rw [if_pos rfl])
  have np : ∀ (j : Nat) (s : Sl), ρ[j]? = some s → ¬ Owns G s (σ[j]?) p := fun j s e ob => by
    rcases (R.own e ob).2.2 with z | z
    · have z : upd c.H p o p = none := z
      rw [upd_same] at z; cases z
    · exact hb j z
  refine ⟨R.move R.sub (fun a u e q n => ?_) (fun a h => ?_) R.tb R.nt (fun a h1 h2 => ?_) (Same.refl _) rfl rfl fun b u i s e ob eb => ⟨eb, (R.own e ob).2.1, fun z => ?_⟩, hpH, hpG, hp, np⟩
  · refine R.fr a u ?_ q n
    show upd c.H p o a = some u
    rw [upd_ne (fun z => by subst z; rw [hp] at e; cases e)]; exact e
  · refine R.ft a ?_
    show upd c.H p o a ≠ none
    exact upd_there h
  · have ha : a ≠ p := fun z => by subst z; exact h1 hp
    refine R.gh a ?_ ?_
    · show upd c.H p o a ≠ none
      rw [upd_ne ha]; exact h1
    · show (if a = p then none else c.G a) = none
      rw [if_neg ha]; exact h2
  · have z : upd c.H p o b = none := z
    rw [upd_ne (fun z => by subst z; exact np i s e ob)] at z; exact z

theorem Rel.pokeO (R : Rel K c G σ H ρ) (m : MineO c G σ H ρ p o) (hk : plainO o = true := by rfl) : Rel K c G σ (upd H p u) ρ ∧ MineO c G σ (upd H p u) ρ p u := by
  obtain ⟨m1, m2, m3, m4⟩ := m
  refine ⟨R.move (fun a x e => ?_) (fun a x e q n => ?_) (fun a h => upd_there (R.ft a h)) (tabs_upd R.tb m1 hk) R.nt R.gh (Same.refl _) rfl rfl fun b x i s e ob eb => ⟨?_, (R.own e ob).2.1, id⟩, upd_same, m2, m3, m4⟩
  · rw [upd_ne (fun z => by subst z; rw [m2] at e; cases e)]; exact R.sub _ _ e
  · rw [upd_ne (fun z => by subst z; rw [m3] at e; cases e)]; exact R.fr a x e q n
  · rw [upd_ne (fun z => by subst z; exact m4 i s e ob)]; exact eb
theorem Rel.guard (R : Rel K c G σ H ρ) (m : Mine c G σ H ρ p ws) : Rel K (c.aside p ws) G σ H ρ := R.guardO m
theorem Mine.nb (R : Rel K c G σ H ρ) (m : Mine c G σ H ρ p ws) : ∀ i, (i, p) ∉ c.B := MineO.nb R m
theorem Rel.unguard (R : Rel K (c.aside p ws) G σ H ρ) (hp : c.H p = none) (hb : ∀ i, (i, p) ∉ c.B) : Rel K c G σ H ρ ∧ Mine c G σ H ρ p ws := R.unguardO hp hb
theorem Rel.poke {vs : List V} (R : Rel K c G σ H ρ) (m : Mine c G σ H ρ p ws) : Rel K c G σ (upd H p (.lst vs)) ρ ∧ Mine c G σ (upd H p (.lst vs)) ρ p vs := R.pokeO m
end
theorem wipe_get (σ : L2.St) : ∀ (vs : List Nat) (i : Nat), (wipe σ vs)[i]? = if i ∈ vs then (if i < σ.length then some none else none) else σ[i]?
  | [], i => by simp [wipe]
  | v :: vs, i => by
    unfold wipe
    by_cases h : v = i
    · subst h
      rw [List.getElem?_set, wipe_length]
      simp
    · rw [List.getElem?_set_ne h, wipe_get σ vs i]
      have : i ∈ v :: vs ↔ i ∈ vs := by simp [Ne.symm h]
      by_cases hi : i ∈ vs
      · rw [if_pos hi, if_pos (this.mpr hi)]
      · rw [if_neg hi, if_neg (fun z => hi (this.mp z))]
theorem wipe_same {σ : L2.St} {vs : List Nat} {j : Nat} {x : V} (hj : j ∈ vs) : wipe ((wipe σ vs).set j (some x)) vs = wipe σ vs := by
  apply List.ext_getElem?
  intro i
  rw [wipe_get, wipe_get, List.length_set, wipe_length]
  by_cases hi : i ∈ vs
  · rw [if_pos hi, if_pos hi]
  · rw [if_neg hi, if_neg hi, List.getElem?_set_ne (fun z => by subst z; exact hi hj), wipe_get, if_neg hi]
def wipeD (ρ : List Sl) : List Nat → List Sl
  | [] => ρ
  | v :: vs => (wipeD ρ vs).set v .no
def backD (ρ ρ2 : List Sl) : List Nat → List Sl
  | [] => ρ2
  | v :: vs => (backD ρ ρ2 vs).set v (ρ.getD v .no)
theorem backD_len (ρ ρ2 : List Sl) : ∀ vs, (backD ρ ρ2 vs).length = ρ2.length
  | [] => rfl
  | v :: vs => by unfold backD; rw [List.length_set, backD_len ρ ρ2 vs]
theorem backD_get (ρ ρ2 : List Sl) : ∀ (vs : List Nat) (i : Nat), (backD ρ ρ2 vs)[i]? = if i ∈ vs then (if i < ρ2.length then some (ρ.getD i .no) else none) else ρ2[i]?
  | [], i => by simp [backD]
  | v :: vs, i => by
    unfold backD
    by_cases h : v = i
    · subst h
      rw [List.getElem?_set, backD_len]
      simp
    · rw [List.getElem?_set_ne h, backD_get ρ ρ2 vs i]
      have : i ∈ v :: vs ↔ i ∈ vs := by simp [Ne.symm h]
      by_cases hi : i ∈ vs
      · rw [if_pos hi, if_pos (this.mpr hi)]
      · rw [if_neg hi, if_neg (fun z => hi (this.mp z))]
section
variable {K : PySem.W.Frag} {bor : List Nat} {c : C0} {G G' : Hp} {σ σ2 : L2.St} {H H' : Hp} {ρ ρ2 : List Sl}
theorem Rel.wiped (R : Rel K c G σ H ρ) : ∀ {vs : List Nat}, (∀ v ∈ vs, v ∉ c.bor) → Rel K c G (wipe σ vs) H (wipeD ρ vs)
  | [], _ => R
  | v :: vs, h => (Rel.wiped R (vs := vs) fun v' hv => h v' (List.mem_cons_of_mem _ hv)).forget (fun a z => h v List.mem_cons_self (R.bs _ _ z)) none

theorem Rel.unwiped {vs : List Nat} (R : Rel K c G σ H ρ) (R2 : Rel K c G' σ2 H' ρ2) (s : Same G G') (hw : wipe σ2 vs = wipe σ vs) (hn : (vs.all fun v => plainAt v ρ) = true) (hb : ∀ v ∈ vs, v ∉ c.bor) : Rel K c G' σ H' (backD ρ ρ2 vs) := by
  have hl : ρ2.length = ρ.length := by
    have := congrArg List.length hw
    rw [wipe_length, wipe_length, R2.len, R.len] at this
    exact this
  have hσ : ∀ i, i ∉ vs → σ2[i]? = σ[i]? := fun i hi => by
    have := congrArg (fun l => l[i]?) hw
    simp only [wipe_get, if_neg hi] at this
    exact this
  have now : ∀ (i : Nat) (sl : Sl) (b : Addr) (o : Option (Option V)), (backD ρ ρ2 vs)[i]? = some sl → Owns G' sl o b → i ∉ vs ∧ ρ2[i]? = some sl := fun i sl b o e ob => by
    rw [backD_get] at e
    by_cases hi : i ∈ vs
    · rw [if_pos hi] at e
      split at e
      · injection e with e
        have q := List.all_eq_true.mp hn i hi
        rw [List.getD_eq_getElem?_getD] at e
        cases q2 : ρ[i]? with
        | none => rw [q2] at e; subst e; exact ob.elim
        | some s => rw [q2] at e; have e : s = sl := e; subst e; exact absurd ob (plain_at q q2)
      · cases e
    · rw [if_neg hi] at e; exact ⟨hi, e⟩
  refine ⟨R2.sub, R2.fr, R2.ft, R2.tb, R2.nt, R2.gh, by rw [backD_len, hl]; exact R.len, fun i sl e => ?_, fun i j sl sl' b hij e1 e2 o1 o2 => ?_, fun i a z => ?_, R2.bs⟩
  · rw [backD_get] at e
    by_cases hi : i ∈ vs
    · rw [if_pos hi] at e
      split at e
      · injection e with e
        have q3 := List.all_eq_true.mp hn i hi
        rw [List.getD_eq_getElem?_getD] at e
        cases q : ρ[i]? with
        | none => rw [q] at e; subst e; trivial
        | some sl' =>
          rw [q] at e
          have e : sl' = sl := e
          subst e
          have ok := R.sl i _ q
          cases sl' with
          | no => trivial
          | fn f => exact ok
          | sh d => obtain ⟨v, f1, f2⟩ := ok; exact ⟨v, f1, dpS s f2⟩
          | ow ys => obtain ⟨a, _, e1, _⟩ := ok; exact absurd (show Owns G (.ow ys) (σ[i]?) a from e1) (plain_at q3 q)
          | od ys => obtain ⟨a, _, e1, _⟩ := ok; exact absurd (show Owns G (.od ys) (σ[i]?) a from e1) (plain_at q3 q)
          | lk a u ks ys => obtain ⟨e1, _⟩ := ok; exact absurd (show Owns G (.lk a u ks ys) (σ[i]?) a from e1) (plain_at q3 q)
          | tp ys => unfold plainAt at q3; rw [q] at q3; cases q3
      · cases e
    · rw [if_neg hi] at e
      have ok := R2.sl i sl e
      rw [hσ i hi] at ok
      exact ok
  · obtain ⟨h1, f1⟩ := now i sl b _ e1 o1
    obtain ⟨h2, f2⟩ := now j sl' b _ e2 o2
    rw [← hσ i h1] at o1
    rw [← hσ j h2] at o2
    exact R2.sepO i j sl sl' b hij f1 f2 o1 o2
  · have hi : i ∉ vs := fun z2 => hb i z2 (R2.bs _ _ z)
    obtain ⟨f1, ys, f2⟩ := R2.bd i a z
    rw [hσ i hi] at f1
    exact ⟨f1, ys, by rw [backD_get, if_neg hi]; exact f2⟩
theorem mineO_back {vs : List Nat} {p : Addr} {o : HO} (m : MineO c G' σ2 H' ρ2 p o) (R : Rel K c G σ H ρ) (hw : wipe σ2 vs = wipe σ vs) (hn : (vs.all fun v => plainAt v ρ) = true) : MineO c G' σ H' (backD ρ ρ2 vs) p o := by
  refine ⟨m.1, m.2.1, m.2.2.1, fun j sl e z => ?_⟩
  rw [backD_get] at e
  by_cases hi : j ∈ vs
  · rw [if_pos hi] at e
    split at e
    · injection e with e
      have q := List.all_eq_true.mp hn j hi
      rw [List.getD_eq_getElem?_getD] at e
      cases q2 : ρ[j]? with
      | none => rw [q2] at e; subst e; exact z.elim
      | some s => rw [q2] at e; have e : s = sl := e; subst e; exact plain_at q q2 z
    · cases e
  · rw [if_neg hi] at e
    refine m.2.2.2 j sl e ?_
    have := congrArg (fun l => l[j]?) hw
    simp only [wipe_get, if_neg hi] at this
    rw [this]; exact z
theorem mine_back {vs : List Nat} {p : Addr} {ws : List V} (m : Mine c G' σ2 H' ρ2 p ws) (R : Rel K c G σ H ρ) (hw : wipe σ2 vs = wipe σ vs) (hn : (vs.all fun v => plainAt v ρ) = true) : Mine c G' σ H' (backD ρ ρ2 vs) p ws := mineO_back m R hw hn
theorem wipeD_out : ∀ (us : List Nat) {ρ : List Sl} {i : Nat}, i ∉ us → (wipeD ρ us)[i]? = ρ[i]?
  | [], _, _, _ => rfl
  | u :: us, ρ, i, hu => by
    unfold wipeD
    rw [List.getElem?_set_ne (fun z => hu (by rw [z]; exact List.mem_cons_self)), wipeD_out us fun z => hu (List.mem_cons_of_mem _ z)]
theorem wipeD_in : ∀ (us : List Nat) {ρ : List Sl} {i : Nat} {s : Sl}, i ∈ us → (wipeD ρ us)[i]? = some s → s = .no
  | [], _, _, _, hu, _ => absurd hu (List.not_mem_nil)
  | u :: us, ρ, i, s, hu, e => by
    have e : ((wipeD ρ us).set u .no)[i]? = some s := e
    by_cases h : u = i
    · subst h
      by_cases hl : u < (wipeD ρ us).length
      · rw [List.getElem?_set_self hl] at e; exact (Option.some.inj e).symm
      · rw [List.getElem?_eq_none (by rw [List.length_set]; omega)] at e; exact absurd e (by simp)
    · rw [List.getElem?_set_ne h] at e
      rcases List.mem_cons.mp hu with z | z
      · exact absurd z.symm h
      · exact wipeD_in us z e

theorem mineO_wipe {vs : List Nat} {p : Addr} {o : HO} {G : Hp} {H : Hp} (m : MineO c G σ H ρ p o) : MineO c G (wipe σ vs) H (wipeD ρ vs) p o :=
  ⟨m.1, m.2.1, m.2.2.1, fun i s e z => by
    by_cases hi : i ∈ vs
    · cases wipeD_in vs hi e; exact z
    · rw [wipeD_out vs hi] at e
      rw [wipe_get, if_neg hi] at z
      exact m.2.2.2 i s e z⟩
theorem mineO_set {p : Addr} {o : HO} {G : Hp} {H : Hp} {j : Nat} {x : Option V} {s0 : Sl} (m : MineO c G σ H ρ p o) (h : ∀ q, ¬ Owns G s0 q p) : MineO c G (σ.set j x) H (ρ.set j s0) p o :=
  ⟨m.1, m.2.1, m.2.2.1, fun i s e z => by
    by_cases hi : i = j
    · subst hi
      have hl : i < ρ.length := by
        have := (List.getElem?_eq_some_iff.mp e).1
        simpa using this
      rw [List.getElem?_set_self hl] at e
      injection e with e; subst e
      exact h _ z
    · rw [List.getElem?_set_ne (Ne.symm hi)] at e z
      exact m.2.2.2 i s e z⟩
end
def compD (j : Nat) (vs : List Nat) (C : TDT) (A : TDE) (Q : List D → List Sl → Prop) : List D → List D → List Sl → Prop
  | [], acc, ρ => Q acc ρ
  | d :: ds, acc, ρ => (vs.all fun v => plainAt v ρ) = true ∧ C ((wipeD ρ vs).set j (.sh d)) fun b ρ1 =>
      (b = true → A ρ1 fun y ρ2 => acc.length < 100000 ∧ compD j vs C A Q ds (acc ++ [y]) (backD ρ ρ2 vs)) ∧ (b = false → compD j vs C A Q ds acc (backD ρ ρ1 vs))
section
variable {K : PySem.W.Frag} {bor : List Nat} {tt : TT} {te : TE} {C : TDT} {A : TDE}
theorem comp_turn {c : C0} {G0 : Hp} {σ : L2.St} {H : Hp} {ρ : List Sl} {j : Nat} {vs : List Nat} {Qd : List D → List Sl → Prop} {d : D} {ds acc : List D} {x : V} {L : Addr} {ws : List V} {Nx : Hp → Prop}
    (hc : c.bor = bor) (hj : j ∈ vs) (hv : ∀ v ∈ vs, v ∉ bor) (ht : LT K bor tt C) (he : LE K bor te A) (R : Rel K c G0 σ H ρ) (m : Mine c G0 σ H ρ L ws) (pa : DqAll K G0 ws acc) (px : Dq K G0 x d)
    (q : compD j vs C A Qd (d :: ds) acc ρ)
    (next : ∀ G' H' ρ' acc' ws', Same G0 G' → Rel K c G' σ H' ρ' → Mine c G' σ H' ρ' L ws' → DqAll K G' ws' acc' → compD j vs C A Qd ds acc' ρ' → Nx H') :
    wipe ((wipe σ vs).set j (some x)) vs = wipe σ vs ∧ tt ((wipe σ vs).set j (some x)) H fun b H3 =>
      if b = true then te ((wipe σ vs).set j (some x)) H3 fun y H4 => ∃ acc, H4 L = some (.lst acc) ∧ acc.length < sizeLine ∧ Nx (upd H4 L (.lst (acc ++ [y]))) else Nx H3 := by
  subst hc
  have hw : wipe ((wipe σ vs).set j (some x)) vs = wipe σ vs := wipe_same hj
  refine ⟨hw, ?_⟩
  obtain ⟨hn, q⟩ := q
  have nb := m.nb R
  have Rw := R.wiped (vs := vs) hv
  have mw : Mine c G0 (wipe σ vs) H (wipeD ρ vs) L ws := mineO_wipe m
  have Rx : Rel K c G0 ((wipe σ vs).set j (some x)) H ((wipeD ρ vs).set j (.sh d)) := Rw.store (fun a z => hv j hj (R.bs _ _ z)) px
  have mx : Mine c G0 ((wipe σ vs).set j (some x)) H ((wipeD ρ vs).set j (.sh d)) L ws := mineO_set mw fun _ z => z
  have Rg := Rx.guard mx
  refine ht (c := c.aside L ws) rfl Rg q fun b H3 G3 ρ3 s3 R3 ⟨q1, q2⟩ => ?_
  cases b with
  | true =>
    refine iteT (he (c := c.aside L ws) rfl R3 (q1 rfl) fun y H4 G4 ρ4 yd s4 R4 py ⟨hz, q4⟩ => ?_)
    obtain ⟨R5, m5⟩ := R4.unguard m.2.2.1 nb
    have s04 : Same G0 G4 := s3.trans s4
    refine ⟨ws, m5.1, sz5 (by rw [dps_len pa]; exact hz), ?_⟩
    have R6 := R.unwiped R5 s04 hw hn hv
    have m6 := mine_back m5 R hw hn
    obtain ⟨R7, m7⟩ := R6.poke (vs := ws ++ [y]) m6
    exact next G4 _ _ _ _ s04 R7 m7 (dps_app (dpsS s04 pa) (.cons py .nil)) q4
  | false =>
    refine iteF ?_
    obtain ⟨R5, m5⟩ := R3.unguard m.2.2.1 nb
    have R6 := R.unwiped R5 s3 hw hn hv
    have m6 := mine_back m5 R hw hn
    exact next G3 H3 _ _ _ s3 R6 m6 (dpsS s3 pa) (q2 rfl)
def dCompL (j : Nat) (vs : List Nat) (S : TDE) (C : TDT) (A : TDE) : TDL := fun ρ Q => S ρ fun d ρ1 => ∃ ds, d = .list ds ∧ compD j vs C A Q ds [] ρ1
theorem ll_compL {tl : TE} {S : TDE} {j : Nat} {vs : List Nat} (hj : j ∈ vs) (hv : ∀ v ∈ vs, v ∉ bor) (hs : LE K bor tl S) (ht : LT K bor tt C) (he : LE K bor te A) : LL K bor (tLc (iList K tl) (gName j) tt te vs) (dCompL j vs S C A) :=
  fun {c G σ H ρ Qd Q} hc R q k => hs hc R q fun v H1 G1 ρ1 d s1 R1 p1 ⟨ds, e, q1⟩ => by
    subst e
    cases p1 with
    | @lst a xs _ h1 h2 =>
      refine ⟨a, rfl, ⟨xs, rdL (rdS R1.sub h1)⟩, fun L hL => ?_⟩
      have m0 := mine_new (vs := []) R1 hL
      have R0 := R1.grow (grow_own (o := .lst []) R1.sub hL)
      refine lc_list (K := K) (a := a) (xs := xs) (fun i H' => ∃ G' ρ' acc ws, Same G1 G' ∧ Rel K c G' σ H' ρ' ∧ Mine c G' σ H' ρ' L ws ∧ DqAll K G' ws acc ∧ compD j vs C A Qd (ds.drop i) acc ρ') ⟨G1, ρ1, [], [], Same.refl _, R0, m0, .nil, q1⟩ ?_ ?_ ?_
      · rintro i H' _ ⟨G', ρ', acc, ws, s, R', _⟩
        exact rdL (rdS (s.trans R'.sub) h1)
      · rintro i x H' hx ⟨G', ρ', acc, ws, s, R', m', pa, q'⟩
        obtain ⟨d, hd, p⟩ := dps_get h2 hx
        have hi : i < ds.length := (List.getElem?_eq_some_iff.mp hd).1
        have ed : ds.drop i = d :: ds.drop (i + 1) := by
          rw [List.drop_eq_getElem_cons hi]
          have := (List.getElem?_eq_some_iff.mp hd).2
          rw [this]
        rw [ed] at q'
        exact comp_turn hc hj hv ht he R' m' pa (dpS s p) q' fun G2 H2 ρ2 acc2 ws2 s2 R2 m2 pa2 q2 => ⟨G2, ρ2, acc2, ws2, s.trans s2, R2, m2, pa2, q2⟩
      · rintro H' ⟨G', ρ', acc, ws, s, R', m', pa, q'⟩
        rw [dps_len h2, List.drop_length] at q'
        exact k L ws H' G' ρ' acc (s1.trans s) R' m' pa q'
def dCompT (j : Nat) (vs : List Nat) (S : TDE) (C : TDT) (A : TDE) : TDL := fun ρ Q => S ρ fun d ρ1 => ∃ ds, d = .tuple ds ∧ compD j vs C A Q ds [] ρ1
theorem ll_compT {tl : TE} {S : TDE} {j : Nat} {vs : List Nat} (hj : j ∈ vs) (hv : ∀ v ∈ vs, v ∉ bor) (hs : LE K bor tl S) (ht : LT K bor tt C) (he : LE K bor te A) : LL K bor (tLc (iTup K tl) (gName j) tt te vs) (dCompT j vs S C A) :=
  fun {c G σ H ρ Qd Q} hc R q k => hs hc R q fun v H1 G1 ρ1 d s1 R1 p1 ⟨ds, e, q1⟩ => by
    subst e
    cases p1 with
    | @tup a xs _ h1 h2 =>
      refine ⟨a, rfl, ⟨xs, (tupS R1.sub h1).sq⟩, fun L hL => ?_⟩
      have m0 := mine_new (vs := []) R1 hL
      have R0 := R1.grow (grow_own (o := .lst []) R1.sub hL)
      refine lc_tup (K := K) (a := a) (xs := xs) (fun i H' => ∃ G' ρ' acc ws, Same G1 G' ∧ Rel K c G' σ H' ρ' ∧ Mine c G' σ H' ρ' L ws ∧ DqAll K G' ws acc ∧ compD j vs C A Qd (ds.drop i) acc ρ') ⟨G1, ρ1, [], [], Same.refl _, R0, m0, .nil, q1⟩ ?_ ?_ ?_
      · rintro i H' _ ⟨G', ρ', acc, ws, s, R', _⟩
        exact (tupS (s.trans R'.sub) h1).sq
      · rintro i x H' hx ⟨G', ρ', acc, ws, s, R', m', pa, q'⟩
        obtain ⟨d, hd, p⟩ := dps_get h2 hx
        have hi : i < ds.length := (List.getElem?_eq_some_iff.mp hd).1
        have ed : ds.drop i = d :: ds.drop (i + 1) := by
          rw [List.drop_eq_getElem_cons hi]
          have := (List.getElem?_eq_some_iff.mp hd).2
          rw [this]
        rw [ed] at q'
        exact comp_turn hc hj hv ht he R' m' pa (dpS s p) q' fun G2 H2 ρ2 acc2 ws2 s2 R2 m2 pa2 q2 => ⟨G2, ρ2, acc2, ws2, s.trans s2, R2, m2, pa2, q2⟩
      · rintro H' ⟨G', ρ', acc, ws, s, R', m', pa, q'⟩
        rw [dps_len h2, List.drop_length] at q'
        exact k L ws H' G' ρ' acc (s1.trans s) R' m' pa q'
def dCompR (j : Nat) (vs : List Nat) (S : TDA) (C : TDT) (A : TDE) : TDL := fun ρ Q => S ρ fun ns ρ1 => ∃ n, ns = [.int n] ∧ n < 2 ^ 62 ∧ -(2 ^ 62) ≤ n ∧ compD j vs C A Q (rangeD 0 n.toNat) [] ρ1
theorem ll_compR {ta : TA} {S : TDA} {j : Nat} {vs : List Nat} (hj : j ∈ vs) (hv : ∀ v ∈ vs, v ∉ bor) (hs : LEs K bor ta S) (ht : LT K bor tt C) (he : LE K bor te A) : LL K bor (tLc (iRng1 ta) (gName j) tt te vs) (dCompR j vs S C A) :=
  fun {c G σ H ρ Qd Q} hc R q k => hs hc R q fun us H1 G1 ρ1 ds s1 R1 p1 ⟨n, e, n1, n2, q1⟩ => by
    subst e
    cases p1 with
    | cons a b =>
      cases a
      cases b
      refine ⟨n, rfl, n2, n1, fun L hL => ?_⟩
      have m0 := mine_new (vs := []) R1 hL
      have R0 := R1.grow (grow_own (o := .lst []) R1.sub hL)
      refine lc_range (lo := 0) (n := n.toNat) (fun i H' => ∃ G' ρ' acc ws, Same G1 G' ∧ Rel K c G' σ H' ρ' ∧ Mine c G' σ H' ρ' L ws ∧ DqAll K G' ws acc ∧ compD j vs C A Qd ((rangeD 0 n.toNat).drop i) acc ρ') ⟨G1, ρ1, [], [], Same.refl _, R0, m0, .nil, q1⟩ ?_ ?_
      · rintro i H' hi ⟨G', ρ', acc, ws, s, R', m', pa, q'⟩
        rw [rangeD_drop hi] at q'
        exact comp_turn hc hj hv ht he R' m' pa (.int _) q' fun G2 H2 ρ2 acc2 ws2 s2 R2 m2 pa2 q2 => ⟨G2, ρ2, acc2, ws2, s.trans s2, R2, m2, pa2, q2⟩
      · rintro H' ⟨G', ρ', acc, ws, s, R', m', pa, q'⟩
        rw [List.drop_of_length_le (by unfold rangeD; simp)] at q'
        exact k L ws H' G' ρ' acc (s1.trans s) R' m' pa q'

def dYes : TDT := fun ρ Q => Q true ρ
theorem lt_yes : LT K bor tYes dYes := fun {c G σ H ρ Qd Q} hc R q k => k true H G ρ (Same.refl _) R q
end
end TN
set_option Elab.async false
set_option linter.all false
set_option maxRecDepth 100000
set_option maxHeartbeats 4000000
set_option autoImplicit false
namespace TN
open PySem PySem.Spec PyProof.Rows
def metS (xs : List Str) : List Str := xs.foldl (fun acc x => if x ∈ acc then acc else acc ++ [x]) []
theorem metS_add (xs : List Str) (x : Str) : metS (xs ++ [x]) = if x ∈ metS xs then metS xs else metS xs ++ [x] := by
  unfold metS; rw [List.foldl_append]; rfl
theorem metS_len (xs : List Str) : (metS xs).length ≤ xs.length := by
  have key : ∀ (ys acc : List Str), (ys.foldl (fun acc x => if x ∈ acc then acc else acc ++ [x]) acc).length ≤ acc.length + ys.length := by
    intro ys
    induction ys with
    | nil => intro acc; simp
    | cons y ys ih =>
      intro acc
      rw [List.foldl_cons]
      refine Nat.le_trans (ih _) ?_
      split <;> simp <;> omega
  have h := key xs []
  rw [List.length_nil, Nat.zero_add] at h
  exact h
section
variable {pg : Program} {wd : World} {A : Around} {R : Result → Shared → Prop} {it : Addr} {fp wr : List Addr} {gg : Array GenState → Array GenState → Prop} {n : Nat} {P : Nat → Value → Prop} {St : Nat → Shared → Prop}
theorem metLoop (W : WalksS pg wd A.in1 it fp wr gg n P St) (S : Addr) (out : S ∉ fp) (xs : List Str) (size : xs.length = n) (texts : ∀ i v, P i v → ∃ t, v = .str (xs.getD i Str.empty) t) (small : n + 1 < scanBound) :
    ∀ (left i : Nat) (s : Shared), i + left = n → St i s →
      s.heap.SetOf (PySem.strKind pg wd) S (fun k => decide (k ∈ metS (xs.take i))) (metS (xs.take i)).length →
      (∀ s', Moved (S :: wr) gg s s' → s'.heap.SetOf (PySem.strKind pg wd) S (fun k => decide (k ∈ metS xs)) (metS xs).length → R (.ok (.ret .none)) s') →
      codeAny (model pg wd) A (.builtin "set.update.loop" ⟨[.ref S, .ref it], []⟩) R s := by
  have outw : S ∉ wr := fun z => out (W.sub _ z)
  have more : ∀ b ∈ wr, b ∈ S :: wr := fun b z => List.mem_cons_of_mem _ z
  have stay : ∀ {s s' : Shared} {T : Str → Bool} {m : Nat}, Moved wr gg s s' → s.heap.SetOf (PySem.strKind pg wd) S T m → s'.heap.SetOf (PySem.strKind pg wd) S T m := by
    rintro s s' T m hm ⟨o, es, ep, tb, e, rest⟩
    exact ⟨o, es, ep, tb, hm.heap S _ outw e, rest⟩
  intro left
  induction left with
  | zero =>
    intro i s hi st hS fin
    have hi : i = n := hi
    rw [hi] at st hS
    rw [← size, List.take_length] at hS
    apply codeAny_builtin PyProof.Rows.F.entry_set_update_loop
    rw [Around.under_plainId PyProof.Rows.F.plain_set_update_loop _]
    show wpAny _ A.in1 (pyNext (.ref it) >>= _) _ _ s
    apply wpAny_bind
    apply W.done s _ _ st
    intro s' hm
    show wpAny _ A.in1 (ret Value.none) _ _ s'
    exact wpAny_pure (fin s' (hm.mono more) (stay hm hS))
  | succ left ih =>
    intro i s hi st hS fin
    have lt : i < n := by omega
    apply codeAny_builtin PyProof.Rows.F.entry_set_update_loop
    rw [Around.under_plainId PyProof.Rows.F.plain_set_update_loop _]
    show wpAny _ A.in1 (pyNext (.ref it) >>= _) _ _ s
    apply wpAny_bind
    apply W.item i s _ _ lt st
    intro v s' hP st' hm
    obtain ⟨t, ew⟩ := texts i v hP
    subst ew
    have hS' := stay hm hS
    have room : (metS (xs.take i)).length + 1 < scanBound := by
      have h1 := metS_len (xs.take i)
      have h2 : (xs.take i).length ≤ n := by rw [List.length_take, size]; exact Nat.min_le_right _ _
      omega
    have item : xs[i]? = some (xs.getD i Str.empty) := by
      rw [List.getD_eq_getElem?_getD, List.getElem?_eq_getElem (by omega)]; rfl
    have next : xs.take (i + 1) = xs.take i ++ [xs.getD i Str.empty] := by rw [List.take_add_one, item]; rfl
    show wpAny _ A.in1 (holding [Value.str (xs.getD i Str.empty) t] (setAdd S (.str (xs.getD i Str.empty) t)) >>= _) _ _ s'
    apply wpAny_bind
    apply wpAny_holding
    unfold setAdd
    apply wpAny_holding
    apply wpAny_bind
    apply (PySem.strKind pg wd).pyHash (k := xs.getD i Str.empty) (strKind_is _ _ _ _)
    apply wpAny_setAddHashed_of (knd := PySem.strKind pg wd) (s := { s' with toks := s'.toks + 1 }) (strKind_is _ _ _ _) rfl hS' room
    intro h' but hS2
    have hS3 : h'.SetOf (PySem.strKind pg wd) S (fun k => decide (k ∈ metS (xs.take (i + 1)))) (metS (xs.take (i + 1))).length := by
      obtain ⟨x, ex⟩ : ∃ x, x = xs.getD i Str.empty := ⟨_, rfl⟩
      rw [← ex] at hS2 next
      refine PyProof.Rows.SetOf_congr hS2 (fun k => ?_) ?_
      · rw [next, metS_add]
        by_cases hin : x ∈ metS (xs.take i)
        · rw [if_pos hin]
          by_cases ek : k = x
          · rw [ek]; simp [hin]
          · simp [ek]
        · rw [if_neg hin]
          simp [List.mem_append, List.mem_singleton]
      · rw [next, metS_add]
        by_cases hin : x ∈ metS (xs.take i)
        · rw [if_pos hin]; simp [hin]
        · rw [if_neg hin]; simp [hin]
    refine wpAny_pure ⟨plainId_quiet PyProof.Rows.F.plain_set_update_loop _, ih (i + 1) _ (by omega) ?_ hS3 fun s'' hm2 hS4 => ?_⟩
    · apply W.frame _ s' _ _ st' (Nat.le_succ _)
      intro b hb o e
      rw [but.2 b (fun z : b = S => out (z ▸ hb))]
      exact e
    · refine fin s'' (Moved.trans W.gtrans ((hm.mono more).then_heap (Nat.le_succ _) ?_) hm2) hS4
      intro b o hb e
      rw [but.2 b (fun z : b = S => hb (by rw [z]; exact List.mem_cons_self))]
      exact e
end
section
variable {pg : Program} {wd : World} {A : Around} {E : Value → Shared → Prop} {s : Shared}
theorem setTexts {l : Addr} {items : Array Value} {xs : List Str} {Q : Value → Shared → Prop} (calm : A.handled = none) (tup : s.heap.IsTuple l items) (are : PyProof.Rows.StrsAre items.toList xs) (small : xs.length + 1 < scanBound)
    (fin : ∀ (h' : Heap) (tk : Nat), h'.SetOf (PySem.strKind pg wd) s.heap.objs.size (fun k => decide (k ∈ metS xs)) (metS xs).length → (∀ b o, b < s.heap.objs.size → s.heap.get? b = some o → h'.get? b = some o) →
      Q (.ref s.heap.objs.size) { s with heap := h', toks := tk }) : wpAny (model pg wd) A (call (.type "set") [.ref l]) Q E s := by
  obtain ⟨cc, tail, order⟩ := PySem.F.called_set.mro
  have made := PySem.F.called_set.made
  have below := PySem.F.called_set.sub
  have notT := PySem.F.called_set.notType
  have can := PySem.F.called_set.canCreate
  have checked := PySem.F.typeCall_set_1 (.ref l)
  apply wpAny_call
  apply codeAny_of_tree
  show wpAny _ _ (callAny (.type "set") _) _ _ _
  refine wpAny_pure ⟨Code.quiet_builtin _ (by decide +kernel), ?_⟩
  apply codeAny_builtin PySem.F.entry_type_call
  rw [Around.under_plain (weight_type_call_type "set" [.ref l] []) rfl]
  repeat (any_goals (first | assumption | wp_step))
  have new : ∀ led : Bool, (s.heap.push { cls := .type "set", dict := none, data := .set #[] 0 (.fresh 0 0 led) }).get? s.heap.objs.size = some { cls := .type "set", dict := none, data := .set #[] 0 (.fresh 0 0 led) } := fun led => Heap.get?_push_size _ rfl
  refine codeAny_mono (code_set_new_1 (.ref l) (E := E) (Q₁ := fun v s1 => ∃ led : Bool, v = .ref s.heap.objs.size ∧ s1 = { s with heap := s.heap.push { cls := .type "set", dict := none, data := .set #[] 0 (.fresh 0 0 led) } })
    fun led => ⟨led, rfl, rfl⟩) ?_
  intro r s1 hr
  match r, hr with
  | .error e, hr => exact hr
  | .ok .next, hr => exact hr.elim
  | .ok .brk, hr => exact hr.elim
  | .ok .cont, hr => exact hr.elim
  | .ok (.ret v), hr =>
    obtain ⟨led, rfl, rfl⟩ := hr
    have here := new led
    have isSet : Shared.TypeIs { s with heap := s.heap.push { cls := .type "set", dict := none, data := .set #[] 0 (.fresh 0 0 led) } } (.ref s.heap.objs.size) "set" := ⟨_, here, rfl⟩
    have initL := PySem.F.called_set.init.lookup
    have initB := PySem.F.called_set.init.bind (.ref s.heap.objs.size)
    repeat (any_goals (first | assumption | wp_step))
    refine codeAny_mono (codeAny_call_builtin (R := wants (fun v s2 => v = .none ∧ ∃ h' tk, s2 = { s with heap := h', toks := tk } ∧ h'.SetOf (PySem.strKind pg wd) s.heap.objs.size (fun k => decide (k ∈ metS xs)) (metS xs).length ∧
      (∀ b o, b < s.heap.objs.size → s.heap.get? b = some o → h'.get? b = some o)) E) PySem.F.called_set.init.plain PySem.F.entry_set_init (check_set_init_1 isSet ?_)) ?_
    · obtain ⟨⟨oc, od, odt, osl⟩, e1, e2, m, e3⟩ := tup
      simp only at e2 e3
      subst e2; subst e3
      have stands : (s.heap.push { cls := .type "set", dict := none, data := .set #[] 0 (.fresh 0 0 led) }).get? l = some { cls := .type "tuple", dict := od, data := .seq items m, slots := osl } := Heap.get?_push_of_some _ e1
      have sub1 : isSubtype (.type "tuple") (.type "set") = pure false := by rw [isSubtype_type]; kernel_rfl
      have sub2 : isSubtype (.type "tuple") (.type "frozenset") = pure false := by rw [isSubtype_type]; kernel_rfl
      have notD : (Value.type "tuple" == Value.type "dict") = false := by decide
      have tup1 : (s.heap.push { cls := .type "set", dict := none, data := .set #[] 0 (.fresh 0 0 led) }).IsTuple l items := ⟨_, stands, rfl, m, rfl⟩
      unfold Builtin.«set.__init__» noKeywords Builtin.Frozenset.updateFrom
      generalize hPI : pyIter = PI
      wp_walk
      subst hPI
      apply wpAny_pyIter_tuple tup1
      apply wpAny_bind
      apply wpAny_runValue
      have lsz : l < s.heap.objs.size := Heap.lt_size e1
      have calm3 : A.in1.in1.in1.handled = none := by simp [calm]
      have apart : l ≠ (s.heap.push { cls := .type "set", dict := none, data := .set #[] 0 (.fresh 0 0 led) }).objs.size := by
        rw [Heap.size_push]; exact Nat.ne_of_lt (Nat.lt_succ_of_lt lsz)
      have outS : s.heap.objs.size ∉ [(s.heap.push { cls := .type "set", dict := none, data := .set #[] 0 (.fresh 0 0 led) }).objs.size, l] := by
        rw [Heap.size_push]
        intro z
        rcases List.mem_cons.mp z with z | z
        · exact Nat.ne_of_lt (Nat.lt_succ_self _) z
        · rw [List.mem_singleton] at z
          exact Nat.ne_of_gt lsz z
      have size : xs.length = items.size := by
        have := PyProof.Rows.StrsAre.len_eq are
        rw [Array.length_toList] at this
        exact this.symm
      have texts : ∀ (i : Nat) (v : Value), items[i]? = some v → ∃ t, v = .str (xs.getD i Str.empty) t := fun i v e => SS.strs_at are i v (by rw [Array.getElem?_toList]; exact e)
      refine metLoop ((Walks.tuple calm3 _ l apart items).toS) s.heap.objs.size outS xs size texts (by omega) items.size 0 _ (by omega) ⟨⟨_, Heap.get?_push_size _ rfl, rfl, rfl⟩, tup1.push _⟩ ?_ ?_
      · have at2 : ((s.heap.push { cls := .type "set", dict := none, data := .set #[] 0 (.fresh 0 0 led) }).push { cls := .type "tuple_iterator", data := .fields #[.ref l, .int 0 0] }).get? s.heap.objs.size
            = some { cls := .type "set", dict := none, data := .set #[] 0 (.fresh 0 0 led) } := Heap.get?_push_of_some _ here
        exact PyProof.Rows.SetOf_congr ((PyProof.Rows.setObjOf_fresh (knd := PySem.strKind pg wd) led).setOf at2 (by unfold scanBound; omega)) (fun _ => rfl) rfl
      · rintro ⟨h', g', d', tk', os'⟩ hm hS'
        obtain rfl : g' = s.gens := hm.gens
        obtain rfl : d' = s.drawn := hm.drawn
        obtain rfl : os' = s.os := hm.os
        show wpAny _ _ _ _ _ _
        refine wpAny_pure ?_
        show wpAny _ _ (ret Value.none) _ _ _
        refine wpAny_pure ⟨rfl, h', tk', rfl, hS', fun b o hb e => ?_⟩
        refine hm.heap b o (fun z => ?_) (Heap.get?_push_of_some _ (Heap.get?_push_of_some _ e))
        rcases List.mem_cons.mp z with z | z
        · exact Nat.ne_of_lt hb z
        · rw [List.mem_singleton, Heap.size_push] at z
          exact Nat.ne_of_lt (Nat.lt_succ_of_lt hb) z
    · intro r2 s2 hr2
      match r2, hr2 with
      | .error e, hr2 => exact hr2
      | .ok .next, hr2 => exact hr2.elim
      | .ok .brk, hr2 => exact hr2.elim
      | .ok .cont, hr2 => exact hr2.elim
      | .ok (.ret v), hr2 =>
        obtain ⟨rfl, h', tk, rfl, hS', old⟩ := hr2
        repeat (any_goals (first | assumption | wp_step))
        exact fin _ _ hS' old
end
end TN
set_option Elab.async false
set_option linter.all false
set_option maxRecDepth 100000
set_option maxHeartbeats 4000000
set_option autoImplicit false
namespace TN
open PySem PySem.Spec PyProof.Rows
section
variable {pg : Program} {wd : World} {A : Around} {E : Value → Shared → Prop} {s : Shared}
end
end TN
namespace TN
open PySem PySem.Spec PyProof.Rows L2
def leS (a b : Str) : Bool := !decide (b.cps.toList < a.cps.toList)
def sortS (xs : List Str) : List Str := xs.mergeSort leS
theorem str_ext {a b : Str} (h : a.cps.toList = b.cps.toList) : a = b := by
  obtain ⟨x⟩ := a; obtain ⟨y⟩ := b
  have : x = y := by simpa using congrArg List.toArray h
  rw [this]
theorem leS_antisymm {a b : Str} (h1 : leS a b = true) (h2 : leS b a = true) : a = b := by
  unfold leS at h1 h2
  have h1 : ¬ b.cps.toList < a.cps.toList := by simpa using h1
  have h2 : ¬ a.cps.toList < b.cps.toList := by simpa using h2
  exact str_ext (List.le_antisymm h1 h2)
theorem leS_trans (a b c : Str) (h1 : leS a b = true) (h2 : leS b c = true) : leS a c = true := by
  unfold leS at *
  have h1 : ¬ b.cps.toList < a.cps.toList := by simpa using h1
  have h2 : ¬ c.cps.toList < b.cps.toList := by simpa using h2
  have : ¬ c.cps.toList < a.cps.toList := List.le_trans (l₁ := a.cps.toList) (l₂ := b.cps.toList) (l₃ := c.cps.toList) h1 h2
  simpa using this
theorem leS_total (a b : Str) : (leS a b || leS b a) = true := by
  unfold leS
  by_cases h : b.cps.toList < a.cps.toList
  · have : ¬ a.cps.toList < b.cps.toList := fun z => List.lt_asymm h z
    simp [this]
  · simp [h]
theorem sortS_perm (xs : List Str) : (sortS xs).Perm xs := List.mergeSort_perm xs leS
end TN
set_option Elab.async false
set_option linter.all false
set_option maxRecDepth 100000
set_option maxHeartbeats 2000000
set_option autoImplicit false
namespace TN
open PySem PySem.Spec PyProof.Rows L2
section
variable {X : Cx}
theorem valsStr : ∀ {ys : List Str} {us : List Value}, Vals (ys.map V.str) us → StrsAre us ys
  | [], _, .nil => .nil
  | y :: ys, _, .cons r t => by
    obtain ⟨k, rfl⟩ := r
    exact .cons y k (valsStr t)
def tLenSetT (K : PySem.W.Frag) (ta : TE) : TE := fun σ H Q => ta σ H fun x H1 => ∃ l, ∃ xs : List Str, x = .ref l ∧ SqT K H1 l (xs.map V.str) ∧ xs.length < 4000 ∧ Q (.int (metS xs).length) H1
theorem pe_lenSetT {a : Expr} {ta : TE} {p p2 q pos : Pos} (hc : X.calm = true) (hg : Gl X "len") (hm : X.mg "len" = none) (hg2 : Gl X "set") (hm2 : X.mg "set" = none) (ha : PE X a ta)
    (na : starEach [a] X.env = (false, eval a X.env) :: starEach [] X.env := by rfl) : PE X (.Call (.Name "len" p) [.Call (.Name "set" p2) [a] [] q] [] pos) (tLenSetT X.K ta) := by
  constructor
  intro pins s σ H Q I h
  refine Call_ (ld_blt (pins := pins) (σ := σ) I hg hm PySem.boot_len ?_)
  refine PyProof.Rows.callWith_builtin1 (PyProof.Rows.args_cons ?_ rfl) rfl rfl
  refine Call_ (ld_blt (pins := pins) (σ := σ) I hg2 hm2 boot_set ?_)
  refine PyProof.Rows.callWith_type1 (PyProof.Rows.args_cons ?_ na) na rfl
  apply thn (ha.run pins s σ H _ I h)
  rintro v s1 ⟨x, H1, I1, r1, l, xs, rfl, hs, few, q1⟩
  apply PyProof.Rows.args_nil
  cases r1
  obtain ⟨its, rv, tup, hz⟩ := I1.tuple hs
  refine setTexts (I1.ok.hd hc) tup (by simpa using valsStr rv) (by unfold scanBound; omega) fun h' tk hS old => ?_
  apply PyProof.Rows.args_nil
  obtain ⟨o, es, ep, t, ho, hex, hd, _, _, _, hf, hn⟩ := hS
  have I2 : Inv X pins σ H1 { s1 with heap := h', toks := tk } := I1.kept fun b o e => old b o (Heap.lt_size e) e
  have most := metS_len xs
  refine call_len_set ho hex hd hf (by rw [hn]; omega) ⟨.int (metS xs).length, H1, I2.tok _, ⟨_, by rw [hn]⟩, q1⟩

def rListU (K : PySem.W.Frag) : List V → Hp → VK → Prop := fun xs H Q => (∃ p ys, xs = [V.ref p] ∧ (SqL K H p ys ∨ SqT K H p ys) ∧ ∀ l, H l = none → Q (.ref l) (upd H l (.lst ys))) ∨
  ∃ z : Str, xs = [V.str z] ∧ z.cps.size ≤ 100000 ∧ ∀ l, H l = none → Q (.ref l) (upd H l (.lst (z.cps.toList.map fun c => V.str ⟨#[c]⟩)))
theorem signs_vals {x : Str} : ∀ {its : List Value} {cs : List Nat}, its.length = cs.length → (∀ (i : Nat) (v : Value) (c : Nat), its[i]? = some v → cs[i]? = some c → ∃ t, v = .str ⟨#[c]⟩ t) → Vals (cs.map fun c => V.str ⟨#[c]⟩) its
  | [], [], _, _ => .nil
  | [], _ :: _, h, _ => by simp at h
  | _ :: _, [], h, _ => by simp at h
  | v :: its, c :: cs, h, k => .cons (k 0 v c rfl rfl) (signs_vals (x := x) (by simpa using h) fun i v c h1 h2 => k (i + 1) v c (by simpa using h1) (by simpa using h2))
theorem call_listU (hc : X.calm = true) : CallR X (.type "list") (rListU X.K) := by
  intro pins s σ H xs us Q I r h
  rcases h with h | ⟨z, rfl, hz, q⟩
  · exact call_list_of pins s σ H xs us Q I r h
  · obtain ⟨u, rfl, t, rfl⟩ := vals1 r
    refine PySem.call_list_str (I.ok.hd hc) z t (fun h' tk acc c old at' items => ?_) (Nat.le_trans hz (by decide))
    obtain ⟨sz, each⟩ := items
    have hv : Vals (z.cps.toList.map fun c => V.str ⟨#[c]⟩) acc.toList := by
      refine signs_vals (x := z) (by simpa using sz) fun i v c h1 h2 => ?_
      have h1 : acc[i]? = some v := by rw [← Array.getElem?_toList]; exact h1
      have h2 : z.cps[i]? = some c := by rw [← Array.getElem?_toList]; exact h2
      obtain ⟨c', t', e1, e2⟩ := each i v h1
      rw [h2] at e1
      injection e1 with e1
      exact ⟨t', by rw [e2, e1]⟩
    refine ⟨.ref s.heap.objs.size, upd H s.heap.objs.size (.lst (z.cps.toList.map fun c => V.str ⟨#[c]⟩)), I.laid (t' := tk) old (Nat.le_refl _) ⟨by simp; exact Nat.le_trans hz (by decide), acc.toList, c, hv, by simpa using at'⟩, rfl, q _ (I.hok.fresh (Nat.le_refl _))⟩

theorem call_tupleX : CallR X (.type "tuple") (fun xs H Q => ∃ p ys, xs = [.ref p] ∧ ((SqL X.K H p ys ∧ ∀ (l : Addr) (o : Obj), o.dict = none → H l = none → Q (.ref l) (upd H l (.frz o (.tup ys)))) ∨ (SqT X.K H p ys ∧ Q (.ref p) H))) := by
  intro pins s σ H xs us Q I r h
  obtain ⟨p, ys, rfl, h⟩ := h
  rcases h with ⟨hs, q⟩ | ⟨hs, q⟩
  · obtain ⟨u, rfl, ru⟩ := vals1 r
    cases ru
    obtain ⟨its, rv, pl, hz⟩ := I.list hs
    have e := rv.length
    apply call_tuple_list pl.isList
    · intro h' old
      have I1 : Inv X pins σ H { s with heap := h' } := I.kept (t' := s.toks) old
      exact ⟨.ref h'.objs.size, _, tup_laid I1 rv hz, rfl, q _ _ rfl (I1.hok.fresh (Nat.le_refl _))⟩
  · exact call_tuple_of pins s σ H _ us Q I r ⟨p, ys, rfl, .inr ⟨hs, q⟩⟩

def rRepr (K : PySem.W.Frag) : List V → Hp → VK → Prop := fun xs H Q => ∃ x d, xs = [x] ∧ Dp K H x d ∧ d.showable = true ∧ d.hasDict = false ∧ d.depth ≤ 60 ∧ d.shown.length ≤ sizeLine ∧ (∃ a, x = .ref a) ∧ Q (.str d.shown) H
theorem call_repr (hg : X.A.guards = some []) (hu : X.A.units + 64 < cLine) : CallR X (.builtin "repr") (rRepr X.K) := by
  intro pins s σ H xs us Q I r h
  obtain ⟨x, d, rfl, hd, hs, nd, dp, sz, ⟨a, rfl⟩, q⟩ := h
  obtain ⟨u, rfl, ru⟩ := vals1 r
  cases ru
  obtain ⟨as, rd⟩ := Dp.reads I d _ _ hd rfl
  refine repr_of_reads' (h₀ := s.heap) rd hs (fun z => by rw [nd] at z; cases z) hg (by omega) (fun _ _ e => e) (fun h' t tk old => ?_) sz
  exact ⟨.str d.shown, H, I.kept (t' := tk) old, ⟨_, rfl⟩, q⟩
end
abbrev OC := List D → Option D
def RC (K : PySem.W.Frag) (r : List V → Hp → VK → Prop) (o : OC) : Prop :=
  ∀ ⦃G H : Hp⦄ ⦃vs : List V⦄ ⦃ds : List D⦄ ⦃z : D⦄ ⦃Q : VK⦄, Same G H → Paired (DpM K G H) vs ds → o ds = some z → (∀ u G' H', Grow K G H G' H' → Dq K G' u z → Q u H') → r vs H Q
def RCL (K : PySem.W.Frag) (r : List V → Hp → VK → Prop) (o : List D → Option (List D)) : Prop :=
  ∀ ⦃G H : Hp⦄ ⦃vs : List V⦄ ⦃ds : List D⦄ ⦃zs : List D⦄ ⦃Q : VK⦄, Same G H → Paired (DpM K G H) vs ds → o ds = some zs → (∀ a us, H a = none → DqAll K G us zs → Q (.ref a) (upd H a (.lst us))) → r vs H Q
section
variable {K : PySem.W.Frag} {bor : List Nat} {ta : TA} {te : TE} {r : List V → Hp → VK → Prop} {o : OC}
def fCB (o : OC) (f : FA) : FE := fun ρ => match f ρ with
  | some ds => o ds
  | none => none
def dCB (o : OC) (A : TDA) : TDE := fun ρ Q => A ρ fun ds ρ1 => ∃ z, o ds = some z ∧ Q z ρ1
theorem paired_m {G H : Hp} : ∀ {vs : List V} {ds : List D}, DqAll K G vs ds → Paired (DpM K G H) vs ds
  | _, [], h => by cases h; exact .nil
  | _, d :: ds, h => by
    cases h with
    | cons a b => exact .cons (.inl a) (paired_m b)
theorem lp_cb {f : FA} (h : LMs K bor ta f) (hr : RC K r o) : LP K bor (tCB r ta) (fCB o f) := fun {c G σ H ρ d Q} hc R e k => by
  unfold fCB at e
  split at e
  · rename_i ds e1
    exact h hc R e1 fun vs G1 H1 g1 p1 => hr g1.s p1 e fun u G2 H2 g2 p2 => k u G2 H2 (g1.trans g2) p2
  · cases e
theorem le_cb {A : TDA} (h : LEs K bor ta A) (hr : RC K r o) : LE K bor (tCB r ta) (dCB o A) := fun {c G σ H ρ Qd Q} hc R q k =>
  h hc R q fun vs H1 G1 ρ1 ds s1 R1 p1 ⟨z, e, q1⟩ => hr R1.sub (paired_m p1) e fun u G2 H2 g2 p2 => k u H2 G2 ρ1 z (s1.trans g2.g) (R1.grow g2) p2 q1
def oL (o : List D → Option (List D)) : OC := fun ds => (o ds).map .list
theorem RCL.c {o : List D → Option (List D)} (h : RCL K r o) : RC K r (oL o) := fun {G H vs ds z Q} s p e k => by
  unfold oL at e
  cases q : o ds with
  | none => rw [q] at e; cases e
  | some zs =>
    rw [q] at e
    injection e with e; subst e
    refine h s p q fun a us ha pu => ?_
    have g := grow_new (K := K) (o := .lst us) s ha
    exact k _ _ _ g (.lst (sqU upd_same) (dpsS g.g pu))
def dCBL (o : List D → Option (List D)) (A : TDA) : TDL := fun ρ Q => A ρ fun ds ρ1 => ∃ zs, o ds = some zs ∧ Q zs ρ1
def oLen : OC := fun ds => match ds with
  | [.list xs] => some (.int xs.length)
  | [.tuple xs] => some (.int xs.length)
  | [.str z] => if z.length ≤ 100000 then some (.int z.length) else none
  | _ => none
theorem rc_len : RC K (fun xs H Q => ∃ x n, xs = [x] ∧ LenV K x H n ∧ Q (.int n) H) oLen := fun {G H vs ds z Q} s p e k => by
  unfold oLen at e
  split at e
  · injection e with e; subst e
    cases p with
    | cons a b =>
      cases b
      obtain ⟨x, us, rfl, h1, h2⟩ := a.list s
      exact ⟨_, _, rfl, .inl ⟨us, rdL h1, rfl⟩, by rw [dps_len h2]; exact k _ G H (.refl s) (.int _)⟩
  · injection e with e; subst e
    cases p with
    | cons a b =>
      cases b
      obtain ⟨x, us, rfl, h1, h2⟩ := a.tup s
      exact ⟨_, _, rfl, .inr ⟨us, h1, rfl⟩, by rw [dps_len h2]; exact k _ G H (.refl s) (.int _)⟩
  · split at e
    · rename_i hl
      injection e with e; subst e
      cases p with
      | cons a b =>
        cases b
        cases a.str
        exact ⟨_, _, rfl, ⟨Nat.le_trans hl (by decide), rfl⟩, k _ G H (.refl s) (.int _)⟩
    · cases e
  · cases e
def oList : List D → Option (List D) := fun ds => match ds with
  | [.list xs] => some xs
  | [.tuple xs] => some xs
  | [.str z] => if z.cps.size ≤ 100000 then some (z.cps.toList.map fun c => .str ⟨#[c]⟩) else none
  | _ => none
theorem dq_signs {G : Hp} : ∀ cs : List Nat, DqAll K G (cs.map fun c => V.str ⟨#[c]⟩) (cs.map fun c => PyData.str ⟨#[c]⟩)
  | [] => .nil
  | _ :: cs => .cons (.str _) (dq_signs cs)
theorem rc_list : RCL K (rListU K) oList := fun {G H vs ds zs Q} s p e k => by
  unfold oList at e
  split at e
  · injection e with e; subst e
    cases p with
    | cons a b =>
      cases b
      obtain ⟨x, us, rfl, h1, h2⟩ := a.list s
      exact .inl ⟨_, us, rfl, .inl (rdL h1), fun l hl => k l us hl h2⟩
  · injection e with e; subst e
    cases p with
    | cons a b =>
      cases b
      obtain ⟨x, us, rfl, h1, h2⟩ := a.tup s
      exact .inl ⟨_, us, rfl, .inr h1, fun l hl => k l us hl h2⟩
  · split at e
    · rename_i hl
      injection e with e; subst e
      cases p with
      | cons a b =>
        cases b
        cases a.str
        exact .inr ⟨_, rfl, hl, fun l hn => k l _ hn (dq_signs _)⟩
    · cases e
  · cases e
def oTuple : OC := fun ds => match ds with
  | [.list xs] => some (.tuple xs)
  | [.tuple xs] => some (.tuple xs)
  | _ => none
abbrev rTupU (K : PySem.W.Frag) : List V → Hp → VK → Prop := fun xs H Q => ∃ p ys, xs = [.ref p] ∧ ((SqL K H p ys ∧ ∀ (l : Addr) (o : Obj), o.dict = none → H l = none → Q (.ref l) (upd H l (.frz o (.tup ys)))) ∨ (SqT K H p ys ∧ Q (.ref p) H))
theorem rc_tuple : RC K (rTupU K) oTuple := fun {G H vs ds z Q} s p e k => by
  unfold oTuple at e
  split at e
  · injection e with e; subst e
    cases p with
    | cons a b =>
      cases b
      obtain ⟨x, us, rfl, h1, h2⟩ := a.list s
      refine ⟨_, us, rfl, .inl ⟨rdL h1, fun l o hd hl => ?_⟩⟩
      have g := grow_new (K := K) (o := .frz o (.tup us)) s hl
      exact k _ _ _ g (.tup (.inl ⟨o, upd_same, hd⟩) (dpsS g.g h2))
  · injection e with e; subst e
    cases p with
    | cons a b =>
      cases b
      rcases a with a | ⟨_, _, _, _, e, _⟩
      · cases a with
        | tup h1 h2 => exact ⟨_, _, rfl, .inr ⟨(tupS s h1).sq, k _ G H (.refl s) (.tup h1 h2)⟩⟩
      · cases e
  · cases e
def oMax : OC := fun ds => match ds with
  | [.int i, .int j] => some (.int (if j > i then j else i))
  | _ => none
theorem rc_max : RC K (fun xs H Q => ∃ i j, xs = [.int i, .int j] ∧ Q (.int (if j > i then j else i)) H) oMax := fun {G H vs ds z Q} s p e k => by
  unfold oMax at e
  split at e
  · injection e with e; subst e
    cases p with
    | cons a b =>
      cases b with
      | cons b c => cases c; cases a.int; cases b.int; exact ⟨_, _, rfl, k _ G H (.refl s) (.int _)⟩
  · cases e
def oMin : OC := fun ds => match ds with
  | [.int i, .int j] => some (.int (if j < i then j else i))
  | _ => none
theorem rc_min : RC K (fun xs H Q => ∃ i j, xs = [.int i, .int j] ∧ Q (.int (if j < i then j else i)) H) oMin := fun {G H vs ds z Q} s p e k => by
  unfold oMin at e
  split at e
  · injection e with e; subst e
    cases p with
    | cons a b =>
      cases b with
      | cons b c => cases c; cases a.int; cases b.int; exact ⟨_, _, rfl, k _ G H (.refl s) (.int _)⟩
  · cases e
def oAbs : OC := fun ds => match ds with
  | [.int i] => some (.int (if i < 0 then -i else i))
  | _ => none
theorem rc_abs : RC K (fun xs H Q => ∃ i, xs = [.int i] ∧ Q (.int (if i < 0 then -i else i)) H) oAbs := fun {G H vs ds z Q} s p e k => by
  unfold oAbs at e
  split at e
  · injection e with e; subst e
    cases p with
    | cons a b => cases b; cases a.int; exact ⟨_, rfl, k _ G H (.refl s) (.int _)⟩
  · cases e

def strsOf : List D → Option (List Str)
  | [] => some []
  | .str x :: ds => (strsOf ds).map (x :: ·)
  | _ :: _ => none
theorem strsOf_is : ∀ {ds : List D} {xs : List Str}, strsOf ds = some xs → ds = xs.map PyData.str
  | [], xs, e => by injection e with e; subst e; rfl
  | d :: ds, xs, e => by
    cases d <;> first | (cases e; done) | skip
    rename_i x
    have e : (strsOf ds).map (x :: ·) = some xs := e
    cases q : strsOf ds with
    | none => rw [q] at e; cases e
    | some ys =>
      rw [q] at e
      injection e with e; subst e
      rw [strsOf_is q]; rfl
theorem strsOf_map : ∀ xs : List Str, strsOf (xs.map PyData.str) = some xs
  | [] => rfl
  | x :: xs => by
    show (strsOf (xs.map PyData.str)).map (x :: ·) = some (x :: xs)
    rw [strsOf_map xs]; rfl
theorem dq_strs {G : Hp} : ∀ {xs : List Str} {vs : List V}, DqAll K G vs (xs.map PyData.str) → vs = xs.map V.str
  | [], _, h => by cases h; rfl
  | x :: xs, _, h => by
    cases h with
    | cons a b => cases a; rw [dq_strs b]; rfl
def oLenSet : F1 := fun d => match d with
  | .tuple xs => (strsOf xs).bind fun ys => if ys.length < 4000 then some (.int (metS ys).length) else none
  | _ => none
theorem lp_lenSet {f : FE} (h : LM K bor te f) : LP K bor (tLenSetT K te) (f1 oLenSet f) := fun {c G σ H ρ d Q} hc R e k => by
  unfold f1 at e
  split at e
  · rename_i d1 e1
    unfold oLenSet at e
    split at e
    · rename_i xs
      cases q : strsOf xs with
      | none => rw [q] at e; cases e
      | some ys =>
        rw [q] at e
        have e : (if ys.length < 4000 then some (PyData.int (metS ys).length) else none) = some d := e
        split at e
        · rename_i few
          injection e with e; subst e
          rw [strsOf_is q] at e1
          refine h hc R e1 fun v G1 H1 g1 p1 => ?_
          obtain ⟨x, us, rfl, h1, h2⟩ := p1.tup g1.s
          rw [dq_strs h2] at h1
          exact ⟨x, ys, rfl, h1, few, k _ G1 H1 g1 (.int _)⟩
        · cases e
    · cases e
  · cases e

def blsOf : List D → Option (List Bool)
  | [] => some []
  | .bool x :: ds => (blsOf ds).map (x :: ·)
  | _ :: _ => none
theorem blsOf_is : ∀ {ds : List D} {xs : List Bool}, blsOf ds = some xs → ds = xs.map PyData.bool
  | [], xs, e => by injection e with e; subst e; rfl
  | d :: ds, xs, e => by
    cases d <;> first | (cases e; done) | skip
    rename_i x
    have e : (blsOf ds).map (x :: ·) = some xs := e
    cases q : blsOf ds with
    | none => rw [q] at e; cases e
    | some ys =>
      rw [q] at e
      injection e with e; subst e
      rw [blsOf_is q]; rfl
theorem dq_bls {G : Hp} : ∀ {xs : List Bool} {vs : List V}, DqAll K G vs (xs.map PyData.bool) → vs = xs.map V.bl
  | [], _, h => by cases h; rfl
  | x :: xs, _, h => by
    cases h with
    | cons a b => cases a; rw [dq_bls b]; rfl
def oAll : OC := fun ds => match ds with
  | [.list xs] => (blsOf xs).map fun bs => .bool (bs.all id)
  | _ => none
theorem rc_all : RC K (rAll K) oAll := fun {G H vs ds z Q} s p e k => by
  unfold oAll at e
  split at e
  · rename_i xs
    cases q : blsOf xs with
    | none => rw [q] at e; cases e
    | some bs =>
      rw [q] at e
      injection e with e; subst e
      cases p with
      | cons a b =>
        cases b
        rw [blsOf_is q] at a
        obtain ⟨x, us, rfl, h1, h2⟩ := a.list s
        rw [dq_bls h2] at h1
        exact ⟨x, bs, rfl, rdL h1, k _ G H (.refl s) (.bl _)⟩
  · cases e
def oRepr : OC := fun ds => match ds with
  | [.list xs] => if (PyData.list xs).showable = true ∧ (PyData.list xs).hasDict = false ∧ (PyData.list xs).depth ≤ 60 ∧ (PyData.list xs).shown.length ≤ 16777216 then some (.str (PyData.list xs).shown) else none
  | [.tuple xs] => if (PyData.tuple xs).showable = true ∧ (PyData.tuple xs).hasDict = false ∧ (PyData.tuple xs).depth ≤ 60 ∧ (PyData.tuple xs).shown.length ≤ 16777216 then some (.str (PyData.tuple xs).shown) else none
  | _ => none
theorem rc_repr : RC K (rRepr K) oRepr := fun {G H vs ds z Q} s p e k => by
  unfold oRepr at e
  split at e
  · rename_i xs
    split at e
    · rename_i h
      injection e with e; subst e
      cases p with
      | cons a b =>
        cases b
        obtain ⟨x, us, rfl, h1, h2⟩ := a.list s
        exact ⟨_, _, rfl, (Dq.lst h1 (dpsS s h2)).dp h.2.1, h.1, h.2.1, h.2.2.1, Nat.le_trans h.2.2.2 (by decide), ⟨x, rfl⟩, k _ G H (.refl s) (.str _)⟩
    · cases e
  · rename_i xs
    split at e
    · rename_i h
      injection e with e; subst e
      cases p with
      | cons a b =>
        cases b
        obtain ⟨x, us, rfl, h1, h2⟩ := a.tup s
        exact ⟨_, _, rfl, (Dp.tup h1 ((dpsS s h2).dp (by simpa only [PyData.hasDict] using h.2.1))), h.1, h.2.1, h.2.2.1, Nat.le_trans h.2.2.2 (by decide), ⟨x, rfl⟩, k _ G H (.refl s) (.str _)⟩
    · cases e
  · cases e

def tyD : D → String
  | .none => "NoneType"
  | .bool _ => "bool"
  | .int _ => "int"
  | .str _ => "str"
  | .list _ => "list"
  | .tuple _ => "tuple"
  | .dict _ => "dict"
inductive TyF (K : PySem.W.Frag) (H : Hp) : V → String → Prop where
  | base {x : V} {T : String} (h : TyB K H x T) : TyF K H x T
  | fD {a : Addr} {o : Obj} {kvs : List (Key × V)} (h : H a = some (.frz o (.dK kvs))) : TyF K H (.ref a) "dict"
theorem TyF.nb {K : PySem.W.Frag} {H : Hp} {x : V} {T : String} (t : TyF K H x T) : (Value.type T == Value.type "builtin_function_or_method") = false := by
  cases t with
  | base h => exact h.nb
  | fD h => decide +kernel
theorem TyF.is {X : Cx} {pins : List (Addr × Obj)} {σ : L2.St} {H : Hp} {s : Shared} {x : V} {u : Value} {T : String} (I : Inv X pins σ H s) (rx : RelV x u) (t : TyF X.K H x T) : s.TypeIs u T := by
  cases t with
  | base h => exact h.is I rx
  | @fD a o kvs h =>
    cases (show u = Value.ref a from rx)
    obtain ⟨_, _, _, vs, _, p⟩ := (show ObjOk X.prog X.w H s.heap a (.frz o (.dK kvs)) from I.hok a _ h)
    exact p.typeIs
def rTypF (K : PySem.W.Frag) : List V → Hp → VK → Prop := fun xs H Q => ∃ x T, xs = [x] ∧ TyF K H x T ∧ Q (.ty T) H
theorem call_typeF {X : Cx} : CallR X (.type "type") (rTypF X.K) := by
  intro pins s σ H xs us Q I r h
  obtain ⟨x, T, rfl, t, q⟩ := h
  obtain ⟨u, rfl, rx⟩ := vals1 r
  exact call_type_of (t.is I rx) t.nb ⟨.ty T, H, I, rfl, q⟩
theorem tyB {H : Hp} : ∀ {d : D} {v : V}, Dq K H v d → TyF K H v (tyD d)
  | .none, _, h => by cases h; exact .base .non
  | .bool _, _, h => by cases h; exact .base (.bl _)
  | .int _, _, h => by cases h; exact .base (.int _)
  | .str _, _, h => by cases h; exact .base (.str _)
  | .list _, _, h => by
    cases h with
    | lst s a => exact .base (.lst s)
  | .tuple _, _, h => by
    cases h with
    | tup s a => exact .base (.tup s.sq)
  | .dict _, _, h => by
    cases h with
    | dct s a => exact .fD s
abbrev rIsT : R2 := fun x y H Q => ∃ a b, x = V.ty a ∧ y = V.ty b ∧ Q (V.bl (decide (a = b))) H
theorem lp_typeIs {f : FE} {T : String} (h : LM K bor te f) : LP K bor (tOp rIsT (tCB (rTypF K) (tCons te tNil)) (tC (.ty T))) (f1 (fun d => some (.bool (decide (tyD d = T)))) f) := fun {c G σ H ρ d Q} hc R e k => by
  unfold f1 at e
  split at e
  · rename_i d1 e1
    injection e with e; subst e
    exact h hc R e1 fun v G1 H1 g1 p1 => ⟨v, tyD d1, rfl, tyB (p1.now g1.s), _, _, rfl, rfl, k _ G1 H1 g1 (.bl _)⟩
  · cases e
theorem lp_typeNot {f : FE} {T : String} (h : LM K bor te f) : LP K bor (tOp rNT (tCB (rTypF K) (tCons te tNil)) (tC (.ty T))) (f1 (fun d => some (.bool (!decide (tyD d = T)))) f) := fun {c G σ H ρ d Q} hc R e k => by
  unfold f1 at e
  split at e
  · rename_i d1 e1
    injection e with e; subst e
    exact h hc R e1 fun v G1 H1 g1 p1 => ⟨v, tyD d1, rfl, tyB (p1.now g1.s), _, _, rfl, rfl, k _ G1 H1 g1 (.bl _)⟩
  · cases e
end
end TN
set_option Elab.async false
set_option linter.all false
set_option maxRecDepth 100000
set_option maxHeartbeats 2000000
set_option autoImplicit false
namespace TN
open PySem PySem.Spec PyProof.Rows L2
structure Has (P : Program) (w : World) (K : PySem.W.Frag) (mg : Str → Option Value) (base : Heap) (name : Str) (k : Nat) (ps : List Str) (sp : Sp) : Prop where
  ex : ∃ f fd, FnG P w K mg base CX0 k f fd ps sp ∧ mg name = some (.ref f) ∧ PySem.W.keepIn K (.ref f) = true ∧ Binds K fd ps []
theorem has_of {P : Program} {w : World} {K : PySem.W.Frag} {mg : Str → Option Value} {base : Heap} {name : Str} {k : Nat} {ps : List Str} {sp : Sp} {f : Addr} {fd : FuncData} {qual : Str} {st : Stmt}
    (G : FnG P w K mg base CX0 k f fd ps sp) (m : mg name = some (.ref f)) (F : Fun K name qual st f fd)
    (h : ∀ (kV doc pm : Value) (an : Option Addr) (cdv ct : Value) (us : List Value), us.length = ps.length → bindArgs (PySem.W.fnOf name qual (defArgs st) (defBody st) (defScope st) .none kV doc pm an cdv ct) ⟨us, []⟩ = pure (ps.zip us)) :
    Has P w K mg base name k ps sp := ⟨f, fd, G, m, F.kp, F.binds h⟩
theorem Has.up {P : Program} {w : World} {K : PySem.W.Frag} {mg : Str → Option Value} {base : Heap} {name : Str} {j k : Nat} {ps : List Str} {sp : Sp} (h : Has P w K mg base name j ps sp) (le : j ≤ k) : Has P w K mg base name k ps sp := by
  obtain ⟨f, fd, a, b, c, d⟩ := h.ex
  exact ⟨f, fd, a.up le, b, c, d⟩
section
variable {X : Cx} {name : Str} {k : Nat} {ps : List Str} {sp : Sp} {p pos : Pos} {e : Expr} {es : List Expr} {t : TA}
theorem pe_has (h : Has X.prog X.w X.K X.mg X.base name k ps sp) (hg : X.A.guards = some []) (hr : Room k X.A) (hgl : Gl X name) (ha : PA X (e :: es) t) (hdb : (name == ("__debug__" : Str)) = false := by decide)
    (he : starEach (e :: es) X.env = (false, eval e X.env) :: starEach es X.env := by rfl) (hpl : (backTo pos (starEach es X.env)).any (·.1) = false := by rfl) : PE X (.Call (.Name name p) (e :: es) [] pos) (tCall sp [] E0 t) := by
  obtain ⟨f, fd, G, m, kp, b⟩ := h.ex
  exact peG_call G hg hr hgl m kp b pass0 ha hdb he hpl
end
section
variable {X : Cx} {K : PySem.W.Frag} {bor : List Nat}
abbrev rStr (c : Str → Str → Bool) : R2 := fun x y H Q => ∃ i j, x = V.str i ∧ y = V.str j ∧ Q (V.bl (c i j)) H
abbrev rU (c : Int → Int → Bool) (d : Str → Str → Bool) : R2 := fun x y H Q => (rI0 fun i j => V.bl (c i j)) x y H Q ∨ rStr d x y H Q
def oU (c : Int → Int → Bool) (d : Str → Str → Bool) : F2 := fun x y => match x, y with
  | .int i, .int j => some (.bool (c i j))
  | .str i, .str j => some (.bool (d i j))
  | _, _ => none
theorem rb_U {c : Int → Int → Bool} {d : Str → Str → Bool} : RB K (TN.rU c d) (oU c d) := fun {G H v w x y z Q} s p1 p2 e k => by
  unfold oU at e
  split at e
  · injection e with e; subst e
    cases p1.int; cases p2.int
    exact .inl ⟨_, _, rfl, rfl, k _ G H (.refl s) (.bl _)⟩
  · injection e with e; subst e
    cases p1.str; cases p2.str
    exact .inr ⟨_, _, rfl, rfl, k _ G H (.refl s) (.bl _)⟩
  · cases e
theorem op_ltU : OpR X (compareOp .Lt) (TN.rU (fun i j => decide (i < j)) (fun i j => decide (i.cps.toList < j.cps.toList))) := opOr op_lt op_lt_str
theorem op_leU : OpR X (compareOp .LtE) (TN.rU (fun i j => decide (i ≤ j)) (fun i j => !decide (j.cps.toList < i.cps.toList))) := opOr op_le op_le_str
theorem op_gtU : OpR X (compareOp .Gt) (TN.rU (fun i j => decide (j < i)) (fun i j => decide (j.cps.toList < i.cps.toList))) := opOr op_gt op_gt_str
def flatD : D → Bool
  | .list _ | .tuple _ | .dict _ => false
  | _ => true
def eqG : D → D → Bool
  | .none, .none => true
  | .bool a, .bool b => a == b
  | .bool a, .int b => (if a then 1 else 0) == b
  | .int a, .bool b => a == (if b then 1 else 0)
  | .int a, .int b => a == b
  | .str a, .str b => a == b
  | _, _ => false
def memG (d : D) (xs : List D) : Option Bool := if flatD d = true ∧ xs.all flatD = true then some (xs.any fun y => eqG y d) else none
def memD (d : D) (xs : List D) : Option Bool := match d with
  | .str x => ((strsOf xs).map fun ys => decide (x ∈ ys)).or (memG d xs)
  | _ => memG d xs
def oIn (neg : Bool) : F2 := fun d e => match e with
  | .list xs => (memD d xs).map fun b => .bool (if neg then !b else b)
  | .tuple xs => (memD d xs).map fun b => .bool (if neg then !b else b)
  | _ => none
theorem inV_strs (x : Str) : ∀ ys : List Str, inV (.str x) (ys.map V.str) = decide (x ∈ ys)
  | [] => rfl
  | y :: ys => by
    have ih := inV_strs x ys
    unfold inV at ih ⊢
    rw [List.map_cons, List.any_cons, ih]
    show (eqV (.str y) (.str x) || decide (x ∈ ys)) = decide (x ∈ y :: ys)
    have e : eqV (.str y) (.str x) = decide (x = y) := by
      show decide (y = x) = decide (x = y)
      by_cases h : x = y
      · subst h; rfl
      · simp [h, Ne.symm h]
    rw [e]
    by_cases h : x = y
    · subst h; simp
    · simp [h]
theorem flat_strs : ∀ ys : List Str, (ys.map V.str).all flatV = true
  | [] => rfl
  | y :: ys => by rw [List.map_cons, List.all_cons, flat_strs ys]; rfl

def toV : D → V
  | .none => .non
  | .bool b => .bl b
  | .int i => .int i
  | .str x => .str x
  | _ => .non
theorem flat_q {G : Hp} {v : V} {d : D} (p : Dq K G v d) (h : flatD d = true) : v = toV d := by
  cases d with
  | list _ => cases h
  | tuple _ => cases h
  | dict _ => cases h
  | none => cases p; rfl
  | bool _ => cases p; rfl
  | int _ => cases p; rfl
  | str _ => cases p; rfl
theorem flat_v {G H : Hp} {v : V} {d : D} (p : DpM K G H v d) (h : flatD d = true) : flatV v = true ∧ v = toV d := by
  have e : v = toV d := by
    rcases p with p | ⟨_, _, _, _, z, _⟩
    · exact flat_q p h
    · subst z; cases h
  refine ⟨?_, e⟩
  subst e
  cases d <;> first | rfl | cases h
theorem eqV_G {a b : D} (ha : flatD a = true) (hb : flatD b = true) : eqV (toV a) (toV b) = eqG a b := by
  cases a <;> first | (cases ha; done) | skip
  all_goals (cases b <;> first | rfl | (cases hb; done))
theorem mem_all {G H : Hp} {v : V} {d : D} (p : DpM K G H v d) (h : flatD d = true) : ∀ {xs : List D} {vs : List V}, xs.all flatD = true → DqAll K G vs xs → vs.all flatV = true ∧ inV v vs = xs.any fun y => eqG y d
  | [], _, _, hv => by cases hv; exact ⟨rfl, rfl⟩
  | x :: xs, _, hx, hv => by
    rw [List.all_cons, Bool.and_eq_true] at hx
    cases hv with
    | cons a b =>
      obtain ⟨i1, i2⟩ := mem_all p h hx.2 b
      obtain ⟨f1, f2⟩ := flat_v (H := H) (.inl a) hx.1
      refine ⟨by rw [List.all_cons, f1, i1]; rfl, ?_⟩
      unfold inV at i2 ⊢
      rw [List.any_cons, List.any_cons, i2, f2, (flat_v p h).2, eqV_G hx.1 h]
theorem rb_in {neg : Bool} : RB K (rIn K neg) (oIn neg) := fun {G H v w d e z Q} s p1 p2 h k => by
  have key : ∀ (xs : List D) (b : Bool) (vs : List V), memD d xs = some b → DqAll K G vs xs → flatV v = true ∧ vs.all flatV = true ∧ inV v vs = b := fun xs b vs hm hv => by
    have gen : ∀ b, memG d xs = some b → flatV v = true ∧ vs.all flatV = true ∧ inV v vs = b := fun b hg => by
      unfold memG at hg
      split at hg
      · rename_i hf
        injection hg with hg; subst hg
        exact ⟨(flat_v p1 hf.1).1, mem_all p1 hf.1 hf.2 hv⟩
      · cases hg
    unfold memD at hm
    split at hm
    · rename_i x
      cases q : strsOf xs with
      | none => rw [q] at hm; exact gen b hm
      | some ys =>
        rw [q] at hm
        injection hm with hm; subst hm
        rw [strsOf_is q] at hv
        rw [dq_strs hv]
        cases p1.str
        exact ⟨rfl, flat_strs ys, inV_strs x ys⟩
    · exact gen b hm
  unfold oIn at h
  split at h
  · rename_i xs
    cases q : memD d xs with
    | none => rw [q] at h; cases h
    | some b =>
      rw [q] at h
      injection h with h; subst h
      obtain ⟨a, vs, rfl, h1, h2⟩ := p2.list s
      obtain ⟨k1, k2, k3⟩ := key xs b vs q h2
      refine ⟨a, vs, rfl, .inl (rdL h1), k1, k2, ?_⟩
      rw [k3]; exact k _ G H (.refl s) (.bl _)
  · rename_i xs
    cases q : memD d xs with
    | none => rw [q] at h; cases h
    | some b =>
      rw [q] at h
      injection h with h; subst h
      obtain ⟨a, vs, rfl, h1, h2⟩ := p2.tup s
      obtain ⟨k1, k2, k3⟩ := key xs b vs q h2
      refine ⟨a, vs, rfl, .inr h1, k1, k2, ?_⟩
      rw [k3]; exact k _ G H (.refl s) (.bl _)
  · cases h

variable {ta tb tc : TE} {f g h : FE}
def fChain (o o' : F2) (f g h : FE) : FE := fun ρ => match f ρ, g ρ, h ρ with
  | some a, some b, some c => match o a b with
    | some (.bool true) => o' b c
    | some (.bool false) => some (.bool false)
    | _ => none
  | _, _, _ => none
theorem lp_chain {r r' : R2} {o o' : F2} (h1 : LM K bor ta f) (h2 : LM K bor tb g) (h3 : LM K bor tc h) (hr : RB K r o) (hr' : RB K r' o') : LP K bor (tChain r r' ta tb tc) (fChain o o' f g h) := fun {c G σ H ρ d Q} hc R e k => by
  unfold fChain at e
  split at e
  · rename_i x y z e1 e2 e3
    split at e
    · rename_i e4
      exact h1 hc R e1 fun v G1 H1 g1 p1 => h2 hc (R.grow g1) e2 fun w G2 H2 g2 p2 => hr g2.s (p1.grow g2) p2 e4 fun u G3 H3 g3 p3 => by
        cases p3
        refine ⟨true, rfl, iteT (h3 hc (R.grow (g1.trans (g2.trans g3))) e3 fun s G4 H4 g4 p4 => hr' g4.s (p2.grow (g3.trans g4)) p4 e fun t G5 H5 g5 p5 => k t G5 H5 (g1.trans (g2.trans (g3.trans (g4.trans g5)))) p5)⟩
    · rename_i e4
      injection e with e; subst e
      exact h1 hc R e1 fun v G1 H1 g1 p1 => h2 hc (R.grow g1) e2 fun w G2 H2 g2 p2 => hr g2.s (p1.grow g2) p2 e4 fun u G3 H3 g3 p3 => by
        cases p3
        exact ⟨false, rfl, iteF (k _ G3 H3 (g1.trans (g2.trans g3)) (.bl _))⟩
    · cases e
  · cases e


def rSlX (K : PySem.W.Frag) : V → Option Int → Option Int → Hp → VK → Prop := fun x lo hi H Q => ∃ a xs, x = .ref a ∧ SqT K H a xs ∧
  (HT.sIx xs.length 0 lo = 0 ∧ HT.sIx xs.length xs.length hi = xs.length → Q (.ref a) H) ∧
  (¬ (HT.sIx xs.length 0 lo = 0 ∧ HT.sIx xs.length xs.length hi = xs.length) → ∀ (p : Addr) (o : Obj), o.dict = none → H p = none → Q (.ref p) (upd H p (.frz o (.tup (cutV xs lo hi)))))
theorem sl_tupX : SlR X (rSlX X.K) := by
  intro pins s σ H x v vl vu lo hi sl Q I rx hs pl pu h
  obtain ⟨a, xs, rfl, hx, q1, q2⟩ := h
  cases rx
  obtain ⟨its, r, tup, hz⟩ := I.tuple hx
  have size : its.toArray.size = xs.length := by rw [List.size_toArray, r.length]
  refine ⟨"tuple", _, PyProof.Rows.slot_tuple_getitem.lookup, tup.typeIs, ?_⟩
  by_cases whole : HT.sIx xs.length 0 lo = 0 ∧ HT.sIx xs.length xs.length hi = xs.length
  · apply getItem_tuple_whole tup hs pl pu (by rw [size]; exact whole)
    exact ⟨.ref a, H, I, rfl, q1 whole⟩
  · apply HT.getItem_tuple_cut tup hs pl pu (by rw [size]; exact whole)
    · rw [size]
      have rc := (r.drop (HT.sIx xs.length 0 lo)).take (HT.sIx xs.length xs.length hi - HT.sIx xs.length 0 lo)
      exact ⟨.ref s.heap.objs.size, _, tup_laid I rc (Nat.le_trans (cutV_length xs lo hi) hz), rfl, q2 whole _ _ rfl (I.hok.fresh (Nat.le_refl _))⟩
    · rw [size]; exact hz
abbrev rSlU (K : PySem.W.Frag) : V → Option Int → Option Int → Hp → VK → Prop := fun x lo hi H Q => rSlL K x lo hi H Q ∨ (rSlX K x lo hi H Q ∨ rSlS x lo hi H Q)
theorem slOr {r r' : V → Option Int → Option Int → Hp → VK → Prop} (h : SlR X r) (h' : SlR X r') : SlR X (fun x lo hi H Q => r x lo hi H Q ∨ r' x lo hi H Q) := by
  intro pins s σ H x v vl vu lo hi sl Q I rx hs pl pu q
  rcases q with q | q
  · exact h pins s σ H x v vl vu lo hi sl Q I rx hs pl pu q
  · exact h' pins s σ H x v vl vu lo hi sl Q I rx hs pl pu q
theorem sl_U : SlR X (rSlU X.K) := slOr sl_list (slOr sl_tupX sl_str)
def cutD (xs : List D) (lo hi : Option Int) : List D := (xs.drop (HT.sIx xs.length 0 lo)).take (HT.sIx xs.length xs.length hi - HT.sIx xs.length 0 lo)
theorem dq_cut {G : Hp} {vs : List V} {xs : List D} (p : DqAll K G vs xs) (lo hi : Option Int) : DqAll K G (cutV vs lo hi) (cutD xs lo hi) := by
  unfold cutV cutD
  rw [dps_len p]
  exact dps_take _ (dps_drop _ p)
def oSlice (lo hi : Option Int) : F1 := fun d => match d with
  | .list xs => some (.list (cutD xs lo hi))
  | .tuple xs => some (.tuple (cutD xs lo hi))
  | .str z => if z.length ≤ 100000 then some (.str (cutS z lo hi)) else none
  | _ => none
theorem cut_whole {xs : List D} {lo hi : Option Int} (h : HT.sIx xs.length 0 lo = 0 ∧ HT.sIx xs.length xs.length hi = xs.length) : cutD xs lo hi = xs := by
  unfold cutD; rw [h.1, h.2]; simp
theorem slice_run {G H : Hp} {v : V} {d z : D} {lo hi : Option Int} {Q : VK} (s : Same G H) (p : DpM K G H v d) (e : oSlice lo hi d = some z) (k : ∀ u G' H', Grow K G H G' H' → Dq K G' u z → Q u H') : rSlU K v lo hi H Q := by
  unfold oSlice at e
  split at e
  · injection e with e; subst e
    obtain ⟨a, vs, rfl, h1, h2⟩ := p.list s
    refine .inl ⟨a, vs, rfl, rdL h1, fun l hl => ?_⟩
    have g := grow_new (K := K) (o := .lst (cutV vs lo hi)) s hl
    exact k _ _ _ g (.lst (sqU upd_same) (dpsS g.g (dq_cut h2 lo hi)))
  · injection e with e; subst e
    rename_i xs
    obtain ⟨a, vs, rfl, h1, h2⟩ := p.tup s
    have el := dps_len h2
    refine .inr (.inl ⟨a, vs, rfl, h1, fun hw => ?_, fun hw l o hd hl => ?_⟩)
    · rw [el] at hw
      rw [cut_whole hw] at k
      rcases p with p | ⟨_, _, _, _, e, _⟩
      · exact k _ G H (.refl s) p
      · cases e
    · have g := grow_new (K := K) (o := .frz o (.tup (cutV vs lo hi))) s hl
      exact k _ _ _ g (.tup (.inl ⟨o, upd_same, hd⟩) (dpsS g.g (dq_cut h2 lo hi)))
  · split at e
    · rename_i hl
      injection e with e; subst e
      cases p.str
      exact .inr (.inr ⟨_, rfl, Nat.le_trans hl (by decide), k _ G H (.refl s) (.str _)⟩)
    · cases e
  · cases e

abbrev FO := List Sl → Option (Option Int)
def LO (K : PySem.W.Frag) (bor : List Nat) (tH : TO) (f : FO) : Prop :=
  ∀ ⦃c : C0⦄ ⦃G : Hp⦄ ⦃σ : L2.St⦄ ⦃H : Hp⦄ ⦃ρ : List Sl⦄ ⦃d : Option Int⦄ ⦃Q : Option Int → Hp → Prop⦄, c.bor = bor → Rel K c G σ H ρ → f ρ = some d → (∀ G' H', Grow K G H G' H' → Q d H') → tH σ H Q
def fNo : FO := fun _ => some none
def fEnd (f : FE) : FO := fun ρ => match f ρ with
  | some (.int i) => some (some i)
  | _ => none
theorem lo_none : LO K bor tNoPart fNo := fun {c G σ H ρ d Q} hc R e k => by
  injection e with e; subst e; exact k G H (.refl R.sub)
theorem lo_some (h : LM K bor ta f) : LO K bor (tPart ta) (fEnd f) := fun {c G σ H ρ d Q} hc R e k => by
  unfold fEnd at e
  split at e
  · rename_i i e1
    injection e with e; subst e
    exact h hc R e1 fun v G1 H1 g1 p1 => ⟨i, p1.int, k G1 H1 g1⟩
  · cases e
def fSlice (f : FE) (lo hi : FO) : FE := fun ρ => match f ρ, lo ρ, hi ρ with
  | some d, some l, some h => oSlice l h d
  | _, _, _ => none
theorem lp_slice {tl th : TO} {lo hi : FO} (h : LM K bor ta f) (hl : LO K bor tl lo) (hh : LO K bor th hi) : LP K bor (tSl (rSlU K) ta tl th) (fSlice f lo hi) := fun {c G σ H ρ d Q} hc R e k => by
  unfold fSlice at e
  split at e
  · rename_i x l u e1 e2 e3
    exact h hc R e1 fun v G1 H1 g1 p1 => hl hc (R.grow g1) e2 fun G2 H2 g2 => hh hc (R.grow (g1.trans g2)) e3 fun G3 H3 g3 => slice_run g3.s (p1.grow (g2.trans g3)) e fun u G4 H4 g4 p4 => k u G4 H4 (g1.trans (g2.trans (g3.trans g4))) p4
  · cases e
def dSlice (A : TDE) (lo hi : FO) : TDE := fun ρ Q => A ρ fun d ρ1 => ∃ l h z, lo ρ1 = some l ∧ hi ρ1 = some h ∧ oSlice l h d = some z ∧ Q z ρ1
theorem le_slice {tl th : TO} {A : TDE} {lo hi : FO} (h : LE K bor ta A) (hl : LO K bor tl lo) (hh : LO K bor th hi) : LE K bor (tSl (rSlU K) ta tl th) (dSlice A lo hi) := fun {c G σ H ρ Qd Q} hc R q k =>
  h hc R q fun v H1 G1 ρ1 d s1 R1 p1 ⟨l, u, z, e1, e2, e3, q1⟩ => hl hc R1 e1 fun G2 H2 g2 => hh hc (R1.grow g2) e2 fun G3 H3 g3 => slice_run g3.s ((DpM.grow (g2.trans g3) (.inl p1))) e3 fun u G4 H4 g4 p4 =>
    k u H4 G4 ρ1 z (s1.trans ((g2.trans (g3.trans g4)).g)) (R1.grow (g2.trans (g3.trans g4))) p4 q1

theorem ls_parLL {ta1 tb1 : TE} {A B : TDL} {i j : Nat} (hi : i ∉ bor) (hj : j ∉ bor) (hij : i ≠ j) (h1 : LL K bor ta1 A) (h2 : LL K bor tb1 B) :
    LS K bor (tPar i j (tCons ta1 (tCons tb1 tNil))) (fun E ρ => A ρ fun xs ρ1 => B ρ1 fun ys ρ2 => E.nx ((ρ2.set i (.ow xs)).set j (.ow ys))) := fun {c G σ H ρ E D} hc R q l =>
  h1 hc R q fun a vs H1 G1 ρ1 xs s1 R1 m1 p1 q1 => by
    have nb := m1.nb R1
    refine h2 (c := c.aside a vs) hc (R1.guard m1) q1 fun b ws H2 G2 ρ2 ys s2 R2 m2 p2 q2 => ?_
    obtain ⟨R3, m3⟩ := R2.unguard m1.2.2.1 nb
    have hab : b ≠ a := fun z => by
      subst z
      have := m2.2.2.1
      have this : upd c.H b (.lst vs) b = none := this
      rw [upd_same] at this; cases this
    refine ⟨_, _, rfl, ?_⟩
    have R4 := R3.storeO (i := i) (fun a z => hi (hc ▸ R3.bs _ _ z)) m3 (dpsS s2 p1)
    have mb : c.H b = none := by
      have : upd c.H a (.lst vs) b = none := m2.2.2.1
      rw [upd_ne hab] at this; exact this
    have m4 : Mine c G2 (σ.set i (some (.ref a))) H2 (ρ2.set i (.ow xs)) b ws := by
      refine ⟨m2.1, m2.2.1, mb, fun k s e z => ?_⟩
      by_cases hk : k = i
      · subst hk
        have hl : k < ρ2.length := by have := (List.getElem?_eq_some_iff.mp e).1; simpa using this
        rw [List.getElem?_set_self hl] at e
        injection e with e; subst e
        rw [List.getElem?_set_self (by rw [R3.len]; exact hl)] at z
        exact hab (refI (show some (some (V.ref a)) = some (some (.ref a)) from rfl) z).symm
      · rw [List.getElem?_set_ne (Ne.symm hk)] at e z
        exact m2.2.2.2 k s e z
    exact l.nx (s1.trans s2) (R4.storeO (i := j) (fun a z => hj (hc ▸ R3.bs _ _ z)) m4 p2) q2
theorem ls_parEE {ta1 : TA} {A : TDA} {i j : Nat} (hi : i ∉ bor) (hj : j ∉ bor) (h1 : LEs K bor ta1 A) :
    LS K bor (tPar i j ta1) (fun E ρ => A ρ fun ds ρ1 => ∃ d e, ds = [d, e] ∧ E.nx ((ρ1.set i (.sh d)).set j (.sh e))) := fun {c G σ H ρ E D} hc R q l =>
  h1 hc R q fun vs H1 G1 ρ1 ds s1 R1 p1 ⟨d, e, ed, q1⟩ => by
    subst ed
    cases p1 with
    | cons a b =>
      cases b with
      | cons b c' =>
        cases c'
        refine ⟨_, _, rfl, l.nx s1 ?_ q1⟩
        exact (R1.store (fun a z => hi (hc ▸ R1.bs _ _ z)) a).store (fun a z => hj (hc ▸ R1.bs _ _ z)) b
end
end TN
set_option Elab.async false
set_option linter.all false
set_option maxRecDepth 100000
set_option maxHeartbeats 2000000
set_option autoImplicit false
namespace TN
open PySem PySem.Spec PyProof.Rows L2
def pick {α : Type} (is : List Nat) (xs : List α) : List α := is.filterMap fun i => xs[i]?
structure HasK (P : Program) (w : World) (K : PySem.W.Frag) (mg : Str → Option Value) (base : Heap) (name : Str) (k : Nat) (ps ks : List Str) (is : List Nat) (sp : Sp) : Prop where
  ex : ∃ f fd, FnG P w K mg base CX0 k f fd ps sp ∧ mg name = some (.ref f) ∧ PySem.W.keepIn K (.ref f) = true ∧ KOnly K fd ps ks (pick is) (pick is)
theorem HasK.up {P : Program} {w : World} {K : PySem.W.Frag} {mg : Str → Option Value} {base : Heap} {name : Str} {j k : Nat} {ps ks : List Str} {is : List Nat} {sp : Sp} (h : HasK P w K mg base name j ps ks is sp) (le : j ≤ k) : HasK P w K mg base name k ps ks is sp := by
  obtain ⟨f, fd, a, b, c, d⟩ := h.ex
  exact ⟨f, fd, a.up le, b, c, d⟩
section
variable {X : Cx} {name : Str} {k : Nat} {ps ks : List Str} {is : List Nat} {sp : Sp} {p pos : Pos} {kws : List Keyword} {tk : TA}
end
section
variable {K : PySem.W.Frag} {bor : List Nat} {tk : TA} {is : List Nat}
def dCallN (sem : List D → (Sl → Prop) → Prop) (is : List Nat) (A : TDA) : TDE := fun ρ Q => A ρ fun ds ρ1 => sem (pick is ds) fun r => ∃ d, r = .sh d ∧ Q d ρ1
end
end TN
set_option Elab.async false
set_option linter.all false
set_option maxRecDepth 100000
set_option maxHeartbeats 2000000
set_option autoImplicit false
namespace TN
open PySem PySem.Spec PyProof.Rows L2
section
variable {K : PySem.W.Frag} {bor : List Nat} {te : TE} {f : FE}
end
end TN
set_option Elab.async false
set_option linter.all false
set_option maxRecDepth 100000
set_option maxHeartbeats 2000000
set_option autoImplicit false
namespace TN
open PySem PySem.Spec PyProof.Rows L2
section
variable {K : PySem.W.Frag}
def intsOf : List D → Option (List Int)
  | [] => some []
  | .int x :: ds => (intsOf ds).map (x :: ·)
  | _ :: _ => none
theorem intsOf_is : ∀ {ds : List D} {xs : List Int}, intsOf ds = some xs → ds = xs.map PyData.int
  | [], xs, e => by injection e with e; subst e; rfl
  | d :: ds, xs, e => by
    cases d <;> first | (cases e; done) | skip
    rename_i x
    have e : (intsOf ds).map (x :: ·) = some xs := e
    cases q : intsOf ds with
    | none => rw [q] at e; cases e
    | some ys =>
      rw [q] at e
      injection e with e; subst e
      rw [intsOf_is q]; rfl
theorem dq_ints {G : Hp} : ∀ {xs : List Int} {vs : List V}, DqAll K G vs (xs.map PyData.int) → vs = xs.map V.int
  | [], _, h => by cases h; rfl
  | x :: xs, _, h => by
    cases h with
    | cons a b => cases a; rw [dq_ints b]; rfl
end
end TN
set_option Elab.async false
set_option linter.all false
set_option maxRecDepth 100000
set_option maxHeartbeats 2000000
set_option autoImplicit false
namespace TN
open PySem PySem.Spec PyProof.Rows L2
section
variable {K : PySem.W.Frag} {bor : List Nat} {ta tb : TE} {tc : TT} {A B : TDE} {f g : FE} {C : TDT}
def dAndV (A B : TDE) : TDE := fun ρ Q => A ρ fun d ρ1 => ∃ b, d = .bool b ∧ (b = true → B ρ1 Q) ∧ (b = false → Q (.bool false) ρ1)
theorem le_andV (h1 : LE K bor ta A) (h2 : LE K bor tb B) : LE K bor (tAndV ta tb) (dAndV A B) := fun {c G σ H ρ Qd Q} hc R q k =>
  h1 hc R q fun v H1 G1 ρ1 d s1 R1 p1 ⟨b, e, q1, q2⟩ => by
    subst e
    cases p1
    cases b with
    | true => exact ⟨true, rfl, iteT (h2 hc R1 (q1 rfl) fun v H2 G2 ρ2 d s2 R2 p q' => k v H2 G2 ρ2 d (s1.trans s2) R2 p q')⟩
    | false => exact ⟨false, rfl, iteF (k _ H1 G1 ρ1 _ s1 R1 (.bl _) (q2 rfl))⟩
def dOrV (A B : TDE) : TDE := fun ρ Q => A ρ fun d ρ1 => ∃ b, d = .bool b ∧ (b = true → Q (.bool true) ρ1) ∧ (b = false → B ρ1 Q)
def dNotV (A : TDE) : TDE := fun ρ Q => A ρ fun d ρ1 => ∃ b, d = .bool b ∧ Q (.bool (!b)) ρ1
def dIfL (C : TDT) (A B : TDL) : TDL := fun ρ Q => C ρ fun b ρ1 => (b = true → A ρ1 Q) ∧ (b = false → B ρ1 Q)
theorem ll_ifE {A B : TDL} (h : LT K bor tc C) (h1 : LL K bor ta A) (h2 : LL K bor tb B) : LL K bor (tIf tc ta tb) (dIfL C A B) := fun {c G σ H ρ Qd Q} hc R q k =>
  h hc R q fun b H1 G1 ρ1 s1 R1 ⟨q1, q2⟩ => by
    cases b with
    | true => exact iteT (h1 hc R1 (q1 rfl) fun a vs H2 G2 ρ2 d s2 R2 m p q' => k a vs H2 G2 ρ2 d (s1.trans s2) R2 m p q')
    | false => exact iteF (h2 hc R1 (q2 rfl) fun a vs H2 G2 ρ2 d s2 R2 m p q' => k a vs H2 G2 ρ2 d (s1.trans s2) R2 m p q')

def idxS (y : Str) : List Str → Option Nat
  | [] => none
  | x :: xs => if x = y then some 0 else (idxS y xs).map (· + 1)
theorem idxS_is {y : Str} : ∀ {xs : List Str} {j : Nat}, idxS y xs = some j → xs[j]? = some y ∧ ∀ m, m < j → xs[m]? ≠ some y
  | [], j, e => by cases e
  | x :: xs, j, e => by
    unfold idxS at e
    split at e
    · rename_i h
      injection e with e; subst e; subst h
      exact ⟨rfl, fun m hm => absurd hm (Nat.not_lt_zero _)⟩
    · rename_i h
      cases q : idxS y xs with
      | none => rw [q] at e; cases e
      | some i =>
        rw [q] at e
        injection e with e; subst e
        obtain ⟨h1, h2⟩ := idxS_is q
        refine ⟨h1, fun m hm => ?_⟩
        cases m with
        | zero => intro z; injection z with z; exact h z
        | succ m => exact h2 m (Nat.lt_of_succ_lt_succ hm)
def tIdx (K : PySem.W.Frag) (ta : TE) (tb : TA) : TE := fun σ H Q => ta σ H fun x H1 => ∃ p ws, x = V.ref p ∧ TupX K H1 p ws ∧
  tb σ H1 fun vs H2 => ∃ (ys : List Str) (z : Str) (j : Nat), vs = [V.str z] ∧ SqT K H2 p (ys.map V.str) ∧ ys[j]? = some z ∧ (∀ m, m < j → ys[m]? ≠ some z) ∧ Q (.int (j : Nat)) H2
def oTIdx : F2 := fun d e => match d, e with
  | .tuple xs, .str y => (strsOf xs).bind fun ys => (idxS y ys).map fun (j : Nat) => .int j
  | _, _ => none
theorem lp_tindex (h1 : LM K bor ta f) (h2 : LM K bor tb g) : LP K bor (tIdx K ta (tCons tb tNil)) (f2 oTIdx f g) := fun {c G σ H ρ d Q} hc R e k => by
  unfold f2 at e
  split at e
  · rename_i d1 d2 e1 e2
    unfold oTIdx at e
    split at e
    · rename_i xs y
      cases q : strsOf xs with
      | none => rw [q] at e; cases e
      | some ys =>
        rw [q] at e
        have e : (idxS y ys).map (fun (j : Nat) => PyData.int j) = some d := e
        cases q2 : idxS y ys with
        | none => rw [q2] at e; cases e
        | some j =>
          rw [q2] at e
          injection e with e; subst e
          rw [strsOf_is q] at e1
          obtain ⟨i1, i2⟩ := idxS_is q2
          refine h1 hc R e1 fun v G1 H1 g1 p1 => ?_
          obtain ⟨a, vs, rfl, x1, x2⟩ := p1.tupX g1.s
          refine ⟨a, vs, rfl, x1, h2 hc (R.grow g1) e2 fun w G2 H2 g2 p2 => ?_⟩
          rw [dq_strs x2] at x1
          exact ⟨ys, y, j, by rw [p2.str], (tupN g2.h x1).sq, i1, i2, k _ G2 H2 (g1.trans g2) (.int _)⟩
    · cases e
  · cases e

end
section
variable {X : Cx}
theorem pe_tidx {o e : Expr} {to ta : TE} {apos cpos : Pos} (ho : PE X o to) (ha : PE X e ta)
    (hbase : attributeBase o "index" X.env (eval o X.env) = eval o X.env := by rfl)
    (hfew : ((backTo cpos (starEach [e] X.env)).all (fun x => !x.1) && (backToKw cpos (keywordEach [] X.env)).all (fun x => x.1.isSome)
      && decide (([e] : List Expr).length + ([] : List Keyword).length + (if ([] : List Keyword).isEmpty then 0 else 1) < 30)) = true := by rfl)
    (hline : (apos.endLine == cpos.line) = true := by rfl) (hs : starEach [e] X.env = (false, eval e X.env) :: starEach [] X.env := by rfl) :
    PE X (.Call (.Attribute o "index" apos) [e] [] cpos) (tIdx X.K to (tCons ta tNil)) := by
  constructor
  intro pins s σ H Q I h
  apply wpAny_Call_method_late hbase hfew hline rfl
  apply thn (ho.run pins s σ H _ I h)
  rintro v s1 ⟨x, H1, I1, r1, p, ws, rfl, known, q1⟩
  cases r1
  have obj : ∃ ob, s1.heap.get? p = some ob ∧ ob.dict = none ∧ ob.cls = .type "tuple" := by
    rcases known with ⟨o, hu, hd⟩ | ⟨o, its, n, hk, hc, hd, _⟩
    · obtain ⟨g1, _, _, _, ob, g2, g3, _⟩ := I1.hok p _ hu
      rw [g1] at g2
      injection g2 with g2; subst g2
      exact ⟨o, g1, hd, g3⟩
    · exact ⟨o, I1.kIn p o hk, hd, hc⟩
  obtain ⟨ob, e1, e2, e3⟩ := obj
  refine ⟨"tuple", "tuple.index", PySem.F.plainAttrs_tuple, PySem.F.slot_tuple_index, PySem.F.type_tuple_index, ⟨ob, e1, e3⟩, fun a z => ?_, ?_⟩
  · injection z with z; subst z; exact ⟨ob, e1, e2⟩
  · have hA := (pa_cons ha pa_nil hs).run cpos pins s1 σ H1 _ I1 q1
    rw [hs] at hA ⊢
    refine Calls.callWith_builtin rfl (Calls.evalArgs_plain (thn hA ?_))
    rintro us s2 ⟨vs, H2, I2, r2, ys, z, j, rfl, hq, h1, h2, q2⟩
    exact mt_tup_index pins s2 σ H2 (.ref p) [.str z] (.ref p) us Q I2 rfl r2 ⟨p, ys, z, j, rfl, rfl, hq, h1, h2, q2⟩
end
end TN
set_option Elab.async false
set_option linter.all false
set_option maxRecDepth 100000
set_option maxHeartbeats 2000000
set_option autoImplicit false
namespace TN
open PySem PySem.Spec PyProof.Rows L2
section
variable {K : PySem.W.Frag} {bor : List Nat} {ta tb : TE} {f g : FE}
end
end TN
set_option Elab.async false
set_option linter.all false
set_option maxRecDepth 100000
set_option maxHeartbeats 2000000
set_option autoImplicit false
namespace TN
open PySem PySem.Spec PyProof.Rows L2
def isL (x : Str) : Prop := ∃ c : Nat, x = ⟨#[c]⟩ ∧ 97 ≤ c ∧ c ≤ 122
structure GRow (r : List Str) : Prop where
  ne : r ≠ []
  few : r.length ≤ 16
  nd : r.Nodup
  let' : ∀ x ∈ r, isL x
abbrev tupL (r : List Str) : D := .tuple (r.map PyData.str)
abbrev lstL (r : List Str) : D := .list (r.map PyData.str)
abbrev pairS (t h : List Str) : D := .tuple [TN.tupL t, TN.tupL h]
structure GPair (t h : List Str) : Prop where
  gt : GRow t
  gh : GRow h
  pm : t.Perm h

def toF (r : List Str) (p : Nat) : List Str := [r.getD p ""] ++ r.take p ++ r.drop (p + 1)
end TN
set_option Elab.async false
set_option linter.all false
set_option maxRecDepth 100000
set_option maxHeartbeats 2000000
set_option autoImplicit false
namespace TN
open PySem PySem.Spec PyProof.Rows L2
def Spl (n : Int) (xs : List D) : Prop := ∃ a b c : Int, xs = [.int a, .int b, .int c] ∧ 0 ≤ a ∧ 0 ≤ b ∧ b < 100000000000000000000000000000000000000000 ∧ 0 ≤ c ∧ c ≤ n
theorem Spl.up {n m : Int} {xs : List D} (h : Spl n xs) (le : n ≤ m) : Spl m xs := by
  obtain ⟨a, b, c, e, h1, h2, h3, h4, h5⟩ := h
  exact ⟨a, b, c, e, h1, h2, h3, h4, by omega⟩
abbrev big : Int := 1000000000000

def semWind (xs ds : List D) (Q : Sl → List D → Prop) : Prop := ∃ n w : Int, Spl n xs ∧ n ≤ big ∧ ds = [.int w] ∧ 0 < w ∧ w < 1073741824 ∧
  ∀ (r : Int) (ys : List D), 0 ≤ r → r < w → Spl (n + 1) ys → Q (.sh (.int r)) ys

structure Ltr (r : List Str) : Prop where
  nd : r.Nodup
  let' : ∀ x ∈ r, isL x

inductive Ev where
  | place (p : Nat) | name (x : Str) | lost (p : Nat) | twice (p : Nat) | as' (p q : Nat)
def Ev.d : Ev → D
  | .place p => .tuple [.str "place", .int p]
  | .name x => .tuple [.str "name", .str x]
  | .lost p => .tuple [.str "lost", .int p]
  | .twice p => .tuple [.str "twice", .int p]
  | .as' p q => .tuple [.str "as", .int p, .int q]
def Ev.kind : Ev → Str
  | .place _ => "place" | .name _ => "name" | .lost _ => "lost" | .twice _ => "twice" | .as' _ _ => "as"

def Ev.ok (r : List Str) : Ev → Prop
  | .place p | .lost p | .twice p => p < r.length
  | .name x => x ∈ r
  | .as' p q => p < r.length ∧ q < r.length ∧ p ≠ q
def words : List Str := ["place", "name", "lost", "twice", "as"]

def semLetter (ds : List D) (Q : Sl → Prop) : Prop := ∃ x, ds = [.str x] ∧ isL x ∧ Q (.sh (.bool true))
def semRow (ds : List D) (Q : Sl → Prop) : Prop := ∃ r, ds = [tupL r] ∧ GRow r ∧ Q (.sh (.bool true))
def semFront (ds : List D) (Q : Sl → Prop) : Prop := ∃ (r : List Str) (p : Nat), ds = [tupL r, .int p] ∧ p < r.length ∧ r.length ≤ 16 ∧ Q (.sh (tupL (toF r p)))

def Ev.at (r : List Str) : Ev → Nat
  | .place p | .lost p | .twice p => p
  | .name x => (idxS x r).getD 0
  | .as' p _ => p
def Ev.takes (r : List Str) : Ev → List Nat
  | .place p => [p]
  | .lost _ => []
  | .twice p => [p, p]
  | .name x => [(idxS x r).getD 0]
  | .as' _ q => [q]
def takeAll : List Str → List Nat → List Str × List Str
  | r, [] => (r, [])
  | r, p :: ps => let q := takeAll (toF r p) ps; (q.1, r.getD p "" :: q.2)
def runT : List Str → List Ev → List Str × List Str
  | r, [] => (r, [])
  | r, e :: es => let q := runT (toF r (e.at r)) es; (q.1, r.getD (e.at r) "" :: q.2)
def runH : List Str → List Ev → List Str × List Str
  | r, [] => (r, [])
  | r, e :: es => let a := takeAll r (e.takes r); let q := runH a.1 es; (q.1, a.2 ++ q.2)
end TN
set_option Elab.async false
set_option linter.all false
set_option maxRecDepth 100000
set_option maxHeartbeats 2000000
set_option autoImplicit false
namespace TN
open PySem PySem.Spec PyProof.Rows L2
theorem imp_ff {a : Prop} : (false = true → a) ↔ True := by simp
theorem imp_tf {a : Prop} : (true = false → a) ↔ True := by simp
theorem imp_tt {a : Prop} : (true = true → a) ↔ a := by simp

inductive Fine : Nat → D → Prop
  | none {k : Nat} : Fine k .none
  | int {k : Nat} (i : Int) : Fine k (.int i)
  | str {k : Nat} {x : Str} (h : x.cps.all (· < 0x110000) = true) : Fine k (.str x)
  | list {k : Nat} {xs : List D} (h : ∀ x ∈ xs, Fine k x) : Fine (k + 1) (.list xs)
  | tuple {k : Nat} {xs : List D} (h : ∀ x ∈ xs, Fine k x) : Fine (k + 1) (.tuple xs)
theorem layAll {xs : List D} (h : ∀ x ∈ xs, x.canLay0 = true) : PyData.canLayAll0 xs = true := by
  induction xs with
  | nil => rfl
  | cons x xs ih =>
    rw [PyData.canLayAll0, h x List.mem_cons_self, ih fun y hy => h y (List.mem_cons_of_mem _ hy)]; rfl
theorem depAll {xs : List D} {k : Nat} (h : ∀ x ∈ xs, x.depth ≤ k) : PyData.depthAll xs ≤ k := by
  induction xs with
  | nil => rw [PyData.depthAll]; omega
  | cons x xs ih =>
    rw [PyData.depthAll]
    have := h x List.mem_cons_self
    have := ih fun y hy => h y (List.mem_cons_of_mem _ hy)
    omega
theorem Fine.lay {k : Nat} {d : D} (h : Fine k d) : d.canLay0 = true := by
  induction h with
  | none => rfl
  | int => rfl
  | str h => rw [PyData.canLay0]; exact h
  | list h ih => rw [PyData.canLay0]; exact layAll ih
  | tuple h ih => rw [PyData.canLay0]; exact layAll ih
theorem Fine.dep {k : Nat} {d : D} (h : Fine k d) : d.depth ≤ k := by
  induction h with
  | none => simp [PyData.depth]
  | int => simp [PyData.depth]
  | str h => simp [PyData.depth]
  | list h ih => rw [PyData.depth]; exact Nat.succ_le_succ (depAll ih)
  | tuple h ih => rw [PyData.depth]; exact Nat.succ_le_succ (depAll ih)
theorem Fine.sh {k : Nat} {d : D} (h : Fine k d) (le : k ≤ 64) : SeqAt.shaped d = true := by
  unfold SeqAt.shaped; rw [h.lay, Bool.true_and]; exact decide_eq_true (Nat.le_trans h.dep le)
theorem eqvAll_iff {xs : List D} : ∀ {ys : List D}, (∀ x ∈ xs, ∀ y ∈ ys, (PyData.eqv x y = true ↔ x = y)) → (PyData.eqvAll xs ys = true ↔ xs = ys) := by
  induction xs with
  | nil =>
    intro ys h
    cases ys <;> simp [PyData.eqvAll]
  | cons x xs ih =>
    intro ys h
    cases ys with
    | nil => simp [PyData.eqvAll]
    | cons y ys =>
      rw [PyData.eqvAll, Bool.and_eq_true, h x List.mem_cons_self y List.mem_cons_self, ih fun a ha b hb => h a (List.mem_cons_of_mem _ ha) b (List.mem_cons_of_mem _ hb), List.cons.injEq]
theorem Fine.eqv {k : Nat} {d : D} (h : Fine k d) : ∀ {l : Nat} {e : D}, Fine l e → (PyData.eqv d e = true ↔ d = e) := by
  induction h with
  | none => intro l e g; cases g <;> simp [PyData.eqv]
  | int => intro l e g; cases g <;> simp [PyData.eqv]
  | str h => intro l e g; cases g <;> simp [PyData.eqv]
  | list h ih =>
    intro l e g
    cases g with
    | list g => rw [PyData.eqv, PyData.list.injEq]; exact eqvAll_iff fun x hx y hy => ih x hx (g y hy)
    | _ => simp [PyData.eqv]
  | tuple h ih =>
    intro l e g
    cases g with
    | tuple g => rw [PyData.eqv, PyData.tuple.injEq]; exact eqvAll_iff fun x hx y hy => ih x hx (g y hy)
    | _ => simp [PyData.eqv]
open Classical in
theorem oEq_is {d e : D} (h : Fine 9 d) (g : Fine 9 e) : oEq d e = some (.bool (decide (d = e))) := by
  unfold oEq
  rw [if_pos ⟨h.sh (by decide), g.sh (by decide)⟩, Bool.eq_iff_iff.mpr ((h.eqv g).trans (decide_eq_true_iff (p := d = e)).symm)]
open Classical in
theorem oNe_is {d e : D} (h : Fine 9 d) (g : Fine 9 e) : oNe d e = some (.bool (!decide (d = e))) := by
  unfold oNe
  rw [if_pos ⟨h.sh (by decide), g.sh (by decide)⟩, Bool.eq_iff_iff.mpr ((h.eqv g).trans (decide_eq_true_iff (p := d = e)).symm)]
theorem oEq_int {i j : Int} : oEq (.int i) (.int j) = some (.bool (decide (i = j))) := by
  rw [oEq_is (.int _) (.int _)]; simp
theorem oNe_int {i j : Int} : oNe (.int i) (.int j) = some (.bool (!decide (i = j))) := by
  rw [oNe_is (.int _) (.int _)]; simp
abbrev okS (x : Str) : Prop := x.cps.all (· < 0x110000) = true
theorem oEq_str {x y : Str} (h : okS x) (g : okS y) : oEq (.str x) (.str y) = some (.bool (decide (x = y))) := by
  rw [oEq_is (.str h) (.str g)]; simp
theorem oNe_str {x y : Str} (h : okS x) (g : okS y) : oNe (.str x) (.str y) = some (.bool (!decide (x = y))) := by
  rw [oNe_is (.str h) (.str g)]; simp
theorem isL.ok {x : Str} (h : isL x) : okS x := by
  obtain ⟨c, rfl, h1, h2⟩ := h
  simp [okS]; omega
theorem isL.len {x : Str} (h : isL x) : x.length = 1 := by
  obtain ⟨c, rfl, h1, h2⟩ := h; rfl
theorem fine_strs {k : Nat} {xs : List Str} (h : ∀ x ∈ xs, okS x) : ∀ d ∈ xs.map PyData.str, Fine k d := fun d hd => by
  obtain ⟨x, hx, rfl⟩ := List.mem_map.mp hd
  exact .str (h x hx)
theorem fine_lstL {k : Nat} {xs : List Str} (h : ∀ x ∈ xs, okS x) : Fine (k + 1) (lstL xs) := .list (fine_strs h)
theorem GRow.oks {r : List Str} (h : GRow r) : ∀ x ∈ r, okS x := fun x hx => (h.let' x hx).ok
theorem map_str_inj : ∀ {xs ys : List Str}, xs.map PyData.str = ys.map PyData.str ↔ xs = ys
  | [], [] => by simp
  | [], _ :: _ => by simp
  | _ :: _, [] => by simp
  | x :: xs, y :: ys => by rw [List.map_cons, List.map_cons, List.cons.injEq, PyData.str.injEq, map_str_inj, List.cons.injEq]
theorem getD_of {α : Type} {r : List α} {p : Nat} {x : α} (h : p < r.length) : r.getD p x = r[p] := by
  simp [List.getD, List.getElem?_eq_getElem h]

theorem ixN_nat {n p : Nat} (h : p < n) : ixN n (p : Int) = some p := by
  unfold ixN; rw [if_pos (by omega), if_pos (by omega), Int.toNat_natCast]
theorem atI_nat {α : Type} {xs : List α} {p : Nat} (h : p < xs.length) : atI xs (p : Int) = some xs[p] := by
  unfold atI; rw [ixN_nat h]; exact List.getElem?_eq_getElem h
theorem oIx_tupL {r : List Str} {p : Nat} (h : p < r.length) : oIx (tupL r) (.int p) = some (.str (r.getD p "")) := by
  show atI (r.map PyData.str) p = _
  rw [atI_nat (by rw [List.length_map]; exact h), List.getElem_map, getD_of h]
theorem oIx_lstL {r : List Str} {p : Nat} (h : p < r.length) : oIx (lstL r) (.int p) = some (.str (r.getD p "")) := by
  show atI (r.map PyData.str) p = _
  rw [atI_nat (by rw [List.length_map]; exact h), List.getElem_map, getD_of h]
theorem oLen_tupL {r : List Str} : oLen [tupL r] = some (.int r.length) := by
  show some (PyData.int (r.map PyData.str).length) = _; rw [List.length_map]
theorem oLen_lstL {r : List Str} : oLen [lstL r] = some (.int r.length) := by
  show some (PyData.int (r.map PyData.str).length) = _; rw [List.length_map]
theorem blsOf_rep : ∀ n : Nat, blsOf (List.replicate n (.bool true)) = some (List.replicate n true)
  | 0 => rfl
  | n + 1 => by rw [List.replicate_succ, blsOf, blsOf_rep n]; rfl
theorem oAll_rep (n : Nat) : oAll [.list (List.replicate n (.bool true))] = some (.bool true) := by
  show (blsOf _).map _ = _
  rw [blsOf_rep]; simp
theorem cut_to {xs : List D} {p : Nat} : cutD xs none (some p) = xs.take p := by
  unfold cutD; rw [HT.sIx_none, HT.sIx_nat, Nat.sub_zero, List.drop_zero]
  by_cases h : p ≤ xs.length
  · rw [Nat.min_eq_left h]
  · rw [Nat.min_eq_right (by omega), List.take_of_length_le (Nat.le_refl _), List.take_of_length_le (by omega)]
theorem cut_from {xs : List D} {p : Nat} : cutD xs (some p) none = xs.drop p := by
  unfold cutD; rw [HT.sIx_none, HT.sIx_nat]
  by_cases h : p ≤ xs.length
  · rw [Nat.min_eq_left h, List.take_of_length_le (by rw [List.length_drop]; omega)]
  · rw [Nat.min_eq_right (by omega), List.drop_eq_nil_of_le (Nat.le_refl _), List.drop_eq_nil_of_le (by omega)]; simp
theorem oSl_to {r : List Str} {p : Nat} : oSlice none (some p) (tupL r) = some (tupL (r.take p)) := by
  show some (PyData.tuple (cutD _ _ _)) = _; rw [cut_to, ← List.map_take]
theorem oSl_from {r : List Str} {p : Nat} : oSlice (some p) none (tupL r) = some (tupL (r.drop p)) := by
  show some (PyData.tuple (cutD _ _ _)) = _; rw [cut_from, ← List.map_drop]
theorem oSlL_to {r : List Str} {p : Nat} : oSlice none (some p) (lstL r) = some (lstL (r.take p)) := by
  show some (PyData.list (cutD _ _ _)) = _; rw [cut_to, ← List.map_take]
theorem oAdd_int {i j : Int} : oAdd (.int i) (.int j) = some (.int (i + j)) := rfl
theorem oSub_int {i j : Int} : oSub (.int i) (.int j) = some (.int (i - j)) := rfl
theorem oU_int {c : Int → Int → Bool} {d : Str → Str → Bool} {i j : Int} : oU c d (.int i) (.int j) = some (.bool (c i j)) := rfl
theorem oU_str {c : Int → Int → Bool} {d : Str → Str → Bool} {i j : Str} : oU c d (.str i) (.str j) = some (.bool (d i j)) := rfl
theorem oAdd_tup {a b : List Str} (h : a.length + b.length ≤ 100000) : oAdd (tupL a) (tupL b) = some (tupL (a ++ b)) := by
  show (if (a.map PyData.str).length + (b.map PyData.str).length ≤ 100000 then _ else _) = _
  rw [List.length_map, List.length_map, if_pos h, ← List.map_append]

theorem comp_all {j : Nat} {vs : List Nat} {A : TDE} {Q : List D → List Sl → Prop} {ρ0 : List Sl} (I : D → Prop) (out : D → D)
    (own : (vs.all fun v => plainAt v ρ0) = true) (back : ∀ d, backD ρ0 ((wipeD ρ0 vs).set j (.sh d)) vs = ρ0)
    (turn : ∀ d (R : D → List Sl → Prop), I d → R (out d) ((wipeD ρ0 vs).set j (.sh d)) → A ((wipeD ρ0 vs).set j (.sh d)) R) :
    ∀ (ds acc : List D), (∀ d ∈ ds, I d) → acc.length + ds.length ≤ 100000 → Q (acc ++ ds.map out) ρ0 → compD j vs dYes A Q ds acc ρ0
  | [], acc, _, _, q => by simpa [compD] using q
  | d :: ds, acc, h, few, q => by
    refine ⟨own, fun _ => ?_, fun z => by cases z⟩
    refine turn d _ (h d List.mem_cons_self) ⟨by rw [List.length_cons] at few; omega, ?_⟩
    rw [back]
    refine comp_all I out own back turn ds _ (fun e he => h e (List.mem_cons_of_mem _ he)) (by rw [List.length_append]; rw [List.length_cons] at few; simp only [List.length_cons, List.length_nil]; omega) ?_
    rw [List.append_assoc]; exact q
theorem w_eq {a : Str} (ha : okS a) : oEq (.str a) (.str a) = some (.bool true) := by rw [oEq_str ha ha, decide_eq_true rfl]
theorem w_ne {a b : Str} (ha : okS a) (hb : okS b) (h : a ≠ b) : oEq (.str a) (.str b) = some (.bool false) := by rw [oEq_str ha hb, decide_eq_false h]
theorem n_eq {a : Str} (ha : okS a) : oNe (.str a) (.str a) = some (.bool false) := by rw [oNe_str ha ha, decide_eq_true rfl]; rfl
theorem n_ne {a b : Str} (ha : okS a) (hb : okS b) (h : a ≠ b) : oNe (.str a) (.str b) = some (.bool true) := by rw [oNe_str ha hb, decide_eq_false h]; rfl
theorem w_place_place : oEq (.str (Str.ofString "place")) (.str (Str.ofString "place")) = some (.bool true) := w_eq (by decide +kernel)
theorem n_place_place : oNe (.str (Str.ofString "place")) (.str (Str.ofString "place")) = some (.bool false) := n_eq (by decide +kernel)
theorem w_place_name : oEq (.str (Str.ofString "place")) (.str (Str.ofString "name")) = some (.bool false) := w_ne (by decide +kernel) (by decide +kernel) (by decide +kernel)
theorem n_place_name : oNe (.str (Str.ofString "place")) (.str (Str.ofString "name")) = some (.bool true) := n_ne (by decide +kernel) (by decide +kernel) (by decide +kernel)
theorem w_place_lost : oEq (.str (Str.ofString "place")) (.str (Str.ofString "lost")) = some (.bool false) := w_ne (by decide +kernel) (by decide +kernel) (by decide +kernel)
theorem n_place_lost : oNe (.str (Str.ofString "place")) (.str (Str.ofString "lost")) = some (.bool true) := n_ne (by decide +kernel) (by decide +kernel) (by decide +kernel)
theorem w_place_twice : oEq (.str (Str.ofString "place")) (.str (Str.ofString "twice")) = some (.bool false) := w_ne (by decide +kernel) (by decide +kernel) (by decide +kernel)
theorem n_place_twice : oNe (.str (Str.ofString "place")) (.str (Str.ofString "twice")) = some (.bool true) := n_ne (by decide +kernel) (by decide +kernel) (by decide +kernel)
theorem w_place_as : oEq (.str (Str.ofString "place")) (.str (Str.ofString "as")) = some (.bool false) := w_ne (by decide +kernel) (by decide +kernel) (by decide +kernel)
theorem n_place_as : oNe (.str (Str.ofString "place")) (.str (Str.ofString "as")) = some (.bool true) := n_ne (by decide +kernel) (by decide +kernel) (by decide +kernel)
theorem w_name_place : oEq (.str (Str.ofString "name")) (.str (Str.ofString "place")) = some (.bool false) := w_ne (by decide +kernel) (by decide +kernel) (by decide +kernel)
theorem n_name_place : oNe (.str (Str.ofString "name")) (.str (Str.ofString "place")) = some (.bool true) := n_ne (by decide +kernel) (by decide +kernel) (by decide +kernel)
theorem w_name_name : oEq (.str (Str.ofString "name")) (.str (Str.ofString "name")) = some (.bool true) := w_eq (by decide +kernel)
theorem n_name_name : oNe (.str (Str.ofString "name")) (.str (Str.ofString "name")) = some (.bool false) := n_eq (by decide +kernel)
theorem w_name_lost : oEq (.str (Str.ofString "name")) (.str (Str.ofString "lost")) = some (.bool false) := w_ne (by decide +kernel) (by decide +kernel) (by decide +kernel)
theorem n_name_lost : oNe (.str (Str.ofString "name")) (.str (Str.ofString "lost")) = some (.bool true) := n_ne (by decide +kernel) (by decide +kernel) (by decide +kernel)
theorem w_name_twice : oEq (.str (Str.ofString "name")) (.str (Str.ofString "twice")) = some (.bool false) := w_ne (by decide +kernel) (by decide +kernel) (by decide +kernel)
theorem n_name_twice : oNe (.str (Str.ofString "name")) (.str (Str.ofString "twice")) = some (.bool true) := n_ne (by decide +kernel) (by decide +kernel) (by decide +kernel)
theorem w_name_as : oEq (.str (Str.ofString "name")) (.str (Str.ofString "as")) = some (.bool false) := w_ne (by decide +kernel) (by decide +kernel) (by decide +kernel)
theorem n_name_as : oNe (.str (Str.ofString "name")) (.str (Str.ofString "as")) = some (.bool true) := n_ne (by decide +kernel) (by decide +kernel) (by decide +kernel)
theorem w_lost_place : oEq (.str (Str.ofString "lost")) (.str (Str.ofString "place")) = some (.bool false) := w_ne (by decide +kernel) (by decide +kernel) (by decide +kernel)
theorem n_lost_place : oNe (.str (Str.ofString "lost")) (.str (Str.ofString "place")) = some (.bool true) := n_ne (by decide +kernel) (by decide +kernel) (by decide +kernel)
theorem w_lost_name : oEq (.str (Str.ofString "lost")) (.str (Str.ofString "name")) = some (.bool false) := w_ne (by decide +kernel) (by decide +kernel) (by decide +kernel)
theorem n_lost_name : oNe (.str (Str.ofString "lost")) (.str (Str.ofString "name")) = some (.bool true) := n_ne (by decide +kernel) (by decide +kernel) (by decide +kernel)
theorem w_lost_lost : oEq (.str (Str.ofString "lost")) (.str (Str.ofString "lost")) = some (.bool true) := w_eq (by decide +kernel)
theorem n_lost_lost : oNe (.str (Str.ofString "lost")) (.str (Str.ofString "lost")) = some (.bool false) := n_eq (by decide +kernel)
theorem w_lost_twice : oEq (.str (Str.ofString "lost")) (.str (Str.ofString "twice")) = some (.bool false) := w_ne (by decide +kernel) (by decide +kernel) (by decide +kernel)
theorem n_lost_twice : oNe (.str (Str.ofString "lost")) (.str (Str.ofString "twice")) = some (.bool true) := n_ne (by decide +kernel) (by decide +kernel) (by decide +kernel)
theorem w_lost_as : oEq (.str (Str.ofString "lost")) (.str (Str.ofString "as")) = some (.bool false) := w_ne (by decide +kernel) (by decide +kernel) (by decide +kernel)
theorem n_lost_as : oNe (.str (Str.ofString "lost")) (.str (Str.ofString "as")) = some (.bool true) := n_ne (by decide +kernel) (by decide +kernel) (by decide +kernel)
theorem w_twice_place : oEq (.str (Str.ofString "twice")) (.str (Str.ofString "place")) = some (.bool false) := w_ne (by decide +kernel) (by decide +kernel) (by decide +kernel)
theorem n_twice_place : oNe (.str (Str.ofString "twice")) (.str (Str.ofString "place")) = some (.bool true) := n_ne (by decide +kernel) (by decide +kernel) (by decide +kernel)
theorem w_twice_name : oEq (.str (Str.ofString "twice")) (.str (Str.ofString "name")) = some (.bool false) := w_ne (by decide +kernel) (by decide +kernel) (by decide +kernel)
theorem n_twice_name : oNe (.str (Str.ofString "twice")) (.str (Str.ofString "name")) = some (.bool true) := n_ne (by decide +kernel) (by decide +kernel) (by decide +kernel)
theorem w_twice_lost : oEq (.str (Str.ofString "twice")) (.str (Str.ofString "lost")) = some (.bool false) := w_ne (by decide +kernel) (by decide +kernel) (by decide +kernel)
theorem n_twice_lost : oNe (.str (Str.ofString "twice")) (.str (Str.ofString "lost")) = some (.bool true) := n_ne (by decide +kernel) (by decide +kernel) (by decide +kernel)
theorem w_twice_twice : oEq (.str (Str.ofString "twice")) (.str (Str.ofString "twice")) = some (.bool true) := w_eq (by decide +kernel)
theorem n_twice_twice : oNe (.str (Str.ofString "twice")) (.str (Str.ofString "twice")) = some (.bool false) := n_eq (by decide +kernel)
theorem w_twice_as : oEq (.str (Str.ofString "twice")) (.str (Str.ofString "as")) = some (.bool false) := w_ne (by decide +kernel) (by decide +kernel) (by decide +kernel)
theorem n_twice_as : oNe (.str (Str.ofString "twice")) (.str (Str.ofString "as")) = some (.bool true) := n_ne (by decide +kernel) (by decide +kernel) (by decide +kernel)
theorem w_as_place : oEq (.str (Str.ofString "as")) (.str (Str.ofString "place")) = some (.bool false) := w_ne (by decide +kernel) (by decide +kernel) (by decide +kernel)
theorem n_as_place : oNe (.str (Str.ofString "as")) (.str (Str.ofString "place")) = some (.bool true) := n_ne (by decide +kernel) (by decide +kernel) (by decide +kernel)
theorem w_as_name : oEq (.str (Str.ofString "as")) (.str (Str.ofString "name")) = some (.bool false) := w_ne (by decide +kernel) (by decide +kernel) (by decide +kernel)
theorem n_as_name : oNe (.str (Str.ofString "as")) (.str (Str.ofString "name")) = some (.bool true) := n_ne (by decide +kernel) (by decide +kernel) (by decide +kernel)
theorem w_as_lost : oEq (.str (Str.ofString "as")) (.str (Str.ofString "lost")) = some (.bool false) := w_ne (by decide +kernel) (by decide +kernel) (by decide +kernel)
theorem n_as_lost : oNe (.str (Str.ofString "as")) (.str (Str.ofString "lost")) = some (.bool true) := n_ne (by decide +kernel) (by decide +kernel) (by decide +kernel)
theorem w_as_twice : oEq (.str (Str.ofString "as")) (.str (Str.ofString "twice")) = some (.bool false) := w_ne (by decide +kernel) (by decide +kernel) (by decide +kernel)
theorem n_as_twice : oNe (.str (Str.ofString "as")) (.str (Str.ofString "twice")) = some (.bool true) := n_ne (by decide +kernel) (by decide +kernel) (by decide +kernel)
theorem w_as_as : oEq (.str (Str.ofString "as")) (.str (Str.ofString "as")) = some (.bool true) := w_eq (by decide +kernel)
theorem n_as_as : oNe (.str (Str.ofString "as")) (.str (Str.ofString "as")) = some (.bool false) := n_eq (by decide +kernel)
theorem ix0 {x : D} {xs : List D} : oIx (.tuple (x :: xs)) (.int 0) = some x := by
  show atI _ _ = _
  have := atI_nat (xs := x :: xs) (p := 0) (by simp)
  simpa using this
theorem ix1 {x y : D} {xs : List D} : oIx (.tuple (x :: y :: xs)) (.int 1) = some y := by
  show atI _ _ = _
  have := atI_nat (xs := x :: y :: xs) (p := 1) (by simp)
  simpa using this
theorem ix2 {x y z : D} {xs : List D} : oIx (.tuple (x :: y :: z :: xs)) (.int 2) = some z := by
  show atI _ _ = _
  have := atI_nat (xs := x :: y :: z :: xs) (p := 2) (by simp)
  simpa using this
theorem ixl0 {x : D} {xs : List D} : oIx (.list (x :: xs)) (.int 0) = some x := ix0
theorem ixl1 {x y : D} {xs : List D} : oIx (.list (x :: y :: xs)) (.int 1) = some y := ix1
theorem ixl2 {x y z : D} {xs : List D} : oIx (.list (x :: y :: z :: xs)) (.int 2) = some z := ix2
theorem ixm2 {x y : D} : oIx (.tuple [x, y]) (.int (-1)) = some y := rfl
theorem ixm3 {x y z : D} : oIx (.tuple [x, y, z]) (.int (-1)) = some z := rfl
theorem len2 {x y : D} : oLen [.tuple [x, y]] = some (.int 2) := rfl
theorem len3 {x y z : D} : oLen [.tuple [x, y, z]] = some (.int 3) := rfl
theorem neg1 : oNeg (.int 1) = some (.int (-1)) := rfl
theorem ty_tup {xs : List D} : tyD (.tuple xs) = "tuple" := rfl
theorem ty_lst {xs : List D} : tyD (.list xs) = "list" := rfl
theorem ty_str {xs : Str} : tyD (.str xs) = "str" := rfl
theorem ty_int {i : Int} : tyD (.int i) = "int" := rfl
theorem idxS_mem {x : Str} : ∀ {r : List Str}, x ∈ r → ∃ j, idxS x r = some j ∧ j < r.length
  | [], h => by cases h
  | y :: r, h => by
    unfold idxS
    by_cases e : y = x
    · exact ⟨0, by rw [if_pos e], by simp⟩
    · rw [if_neg e]
      rcases List.mem_cons.mp h with z | z
      · exact absurd z.symm e
      · obtain ⟨j, h1, h2⟩ := idxS_mem z
        exact ⟨j + 1, by rw [h1]; rfl, by rw [List.length_cons]; omega⟩
theorem oTIdx_of {x : Str} {r : List Str} (h : x ∈ r) : oTIdx (tupL r) (.str x) = some (.int ((idxS x r).getD 0 : Nat)) := by
  obtain ⟨j, h1, h2⟩ := idxS_mem h
  show (strsOf (r.map PyData.str)).bind _ = _
  rw [strsOf_map, Option.bind_some, h1]; rfl
theorem idx_lt {x : Str} {r : List Str} (h : x ∈ r) : (idxS x r).getD 0 < r.length := by
  obtain ⟨j, h1, h2⟩ := idxS_mem h
  rw [h1]; exact h2
theorem metS_nd {r : List Str} (h : r.Nodup) : metS r = r := by
  have key : ∀ (l acc : List Str), (acc ++ l).Nodup → l.foldl (fun acc x => if x ∈ acc then acc else acc ++ [x]) acc = acc ++ l := by
    intro l
    induction l with
    | nil => intro acc _; simp
    | cons x l ih =>
      intro acc nd
      have hx : x ∉ acc := fun z => by
        rw [List.nodup_append] at nd
        exact nd.2.2 x z x List.mem_cons_self rfl
      rw [List.foldl_cons, if_neg hx, ih (acc ++ [x]) (by rw [List.append_assoc]; exact nd), List.append_assoc]; rfl
  have := key r [] h
  simpa [metS] using this
theorem oLenSet_nd {r : List Str} (h : r.Nodup) (few : r.length < 4000) : oLenSet (tupL r) = some (.int r.length) := by
  show (strsOf (r.map PyData.str)).bind _ = _
  rw [strsOf_map, Option.bind_some, if_pos few, metS_nd h]
theorem oAll_tt {xs : List D} : oAll [.list (xs.map fun _ => PyData.bool true)] = some (.bool true) := by
  rw [List.map_const']; exact oAll_rep _
theorem oIn_strs {x : Str} {r : List Str} (h : x ∈ r) : oIn false (.str x) (tupL r) = some (.bool true) := by
  show (((strsOf (r.map PyData.str)).map fun ys => decide (x ∈ ys)).or _).map _ = _
  rw [strsOf_map]
  show some (PyData.bool (decide (x ∈ r))) = _
  rw [decide_eq_true h]
theorem GPair.len {t h : List Str} (p : GPair t h) : h.length = t.length := p.pm.length_eq.symm
theorem oPow3 {x : Int} (h0 : 0 ≤ x) (h1 : x < 1000000000000000000000000000000000000000000) : oPow (.int x) (.int 3) = some (.int (x ^ 3)) :=
  if_pos ⟨by omega, by omega, Nat.lt_of_lt_of_le (show x.natAbs < 1000000000000000000000000000000000000000000 by omega) (by decide +kernel)⟩
theorem oPow_p {x : Int} {k : Nat} {z : Int} (hk : k ≤ 1000) (h : x.natAbs < 1000000) (e : x ^ k = z) : oPow (.int x) (.int k) = some (.int z) := by
  show (if 0 ≤ (k : Int) ∧ (k : Int) ≤ 1000 ∧ x.natAbs < 2 ^ 1024 then some (PyData.int (x ^ (k : Int).toNat)) else none) = _
  rw [if_pos ⟨by omega, by omega, Nat.lt_trans h (by decide +kernel)⟩, Int.toNat_natCast, e]
theorem pw18 : oPow (.int 10) (.int 18) = some (.int 1000000000000000000) := oPow_p (k := 18) (by decide) (by decide) (by decide +kernel)
theorem oMod_p {i j : Int} (h : 0 < j) : oMod (.int i) (.int j) = some (.int (i % j)) := if_pos h
theorem oDiv_p {i j : Int} (h : 0 < j) (g : j < 1073741824) : oDiv (.int i) (.int j) = some (.int (i / j)) := if_pos ⟨h, g⟩
end TN
set_option Elab.async false
set_option linter.all false
set_option maxRecDepth 100000
set_option maxHeartbeats 2000000
set_option autoImplicit false
namespace TN
open PySem PySem.Spec PyProof.Rows L2
theorem split_at {r : List Str} {p : Nat} (h : p < r.length) : r.take p ++ ([r.getD p ""] ++ r.drop (p + 1)) = r := by
  rw [getD_of h]
  show r.take p ++ (r[p] :: r.drop (p + 1)) = r
  rw [← List.drop_eq_getElem_cons h, List.take_append_drop]
theorem toF_perm {r : List Str} {p : Nat} (h : p < r.length) : (toF r p).Perm r := by
  have e := split_at h
  unfold toF
  rw [List.append_assoc]
  refine (List.Perm.trans ?_ (List.Perm.of_eq e))
  rw [← List.append_assoc, ← List.append_assoc]
  exact List.Perm.append_right _ List.perm_append_comm
theorem toF_len {r : List Str} {p : Nat} (h : p < r.length) : (toF r p).length = r.length := (toF_perm h).length_eq
theorem Ev.ok_perm {r r' : List Str} (p : r.Perm r') {e : Ev} (h : e.ok r) : e.ok r' := by
  have l := p.length_eq
  cases e with
  | name x => exact p.mem_iff.mp h
  | as' a b => exact ⟨l ▸ h.1, l ▸ h.2.1, h.2.2⟩
  | _ q => exact (l ▸ h : q < r'.length)
theorem Ev.at_lt {r : List Str} {e : Ev} (h : e.ok r) : e.at r < r.length := by
  cases e with
  | name x => exact idx_lt h
  | as' a b => exact h.1
  | _ q => exact h
theorem Ev.takes_lt {r : List Str} {e : Ev} (h : e.ok r) : ∀ p ∈ e.takes r, p < r.length := by
  intro p hp
  cases e with
  | name x => simp [Ev.takes] at hp; subst hp; exact idx_lt h
  | as' a b => simp [Ev.takes] at hp; subst hp; exact h.2.1
  | place q => simp [Ev.takes] at hp; subst hp; exact h
  | lost q => simp [Ev.takes] at hp
  | twice q => simp [Ev.takes] at hp; subst hp; exact h
theorem Ev.takes_few {r : List Str} {e : Ev} : (e.takes r).length ≤ 2 := by
  cases e <;> simp [Ev.takes]
theorem takeAll_perm : ∀ (ps : List Nat) {r : List Str}, (∀ p ∈ ps, p < r.length) → (takeAll r ps).1.Perm r
  | [], r, _ => .refl _
  | p :: ps, r, h => by
    have h0 := h p List.mem_cons_self
    exact (takeAll_perm ps (r := toF r p) fun q hq => toF_len h0 ▸ h q (List.mem_cons_of_mem _ hq)).trans (toF_perm h0)
theorem windN {n w : Int} {xs : List D} {Q : Sl → List D → Prop} (sp : Spl n xs) (hn : n ≤ big) (w0 : 0 < w) (w1 : w < 1073741824) (q : ∀ (k : Nat) (ys : List D), (k : Int) < w → Spl (n + 1) ys → Q (.sh (.int k)) ys) : semWind xs [.int w] Q :=
  ⟨n, w, sp, hn, rfl, w0, w1, fun r ys r0 r1 sp' => by
    obtain ⟨k, rfl⟩ : ∃ k : Nat, r = k := ⟨r.toNat, by omega⟩
    exact q k ys r1 sp'⟩
abbrev SIGNS : Str := Str.ofString "abcdefghijklmnopqrstuvwxyz"
def alpha (n : Nat) : List Str := (List.range n).map fun c => (⟨#[97 + c]⟩ : Str)
theorem alpha_cut {n : Nat} (h : n ≤ 26) : ∃ z, oSlice none (some (n : Int)) (.str SIGNS) = some (.str z) ∧ oList [.str z] = some ((alpha n).map PyData.str) := by
  have key : ∀ n : Fin 27, (cutS SIGNS none (some ((n.val : Nat) : Int))).cps.toList = (List.range n.val).map (97 + ·) := by decide +kernel
  have k := key ⟨n, by omega⟩
  have few : SIGNS.length ≤ 100000 := by decide +kernel
  refine ⟨cutS SIGNS none (some (n : Int)), by show (if SIGNS.length ≤ 100000 then some (PyData.str (cutS SIGNS none (some (n : Int)))) else none) = _; rw [if_pos few], ?_⟩
  have sz : (cutS SIGNS none (some (n : Int))).cps.size ≤ 100000 := by
    rw [← Array.length_toList, k, List.length_map, List.length_range]; omega
  refine (if_pos sz).trans ?_
  rw [k, alpha, List.map_map, List.map_map]; rfl
theorem alpha_len (n : Nat) : (alpha n).length = n := by unfold alpha; rw [List.length_map, List.length_range]
theorem alpha_nd (n : Nat) : (alpha n).Nodup := by
  unfold alpha
  have hn : (List.range n).Nodup := List.nodup_range
  unfold List.Nodup at *
  rw [List.pairwise_map]
  refine hn.imp fun {a b} h z => h ?_
  injection z with z
  have : ([97 + a] : List Nat) = [97 + b] := congrArg Array.toList z
  injection this with this
  omega
theorem alpha_let {n : Nat} (h : n ≤ 26) : ∀ x ∈ alpha n, isL x := by
  intro x hx
  obtain ⟨c, hc, rfl⟩ := List.mem_map.mp hx
  have := List.mem_range.mp hc
  exact ⟨97 + c, rfl, by omega, by omega⟩
theorem GRow.perm {r r' : List Str} (h : GRow r) (p : r'.Perm r) : GRow r' where
  ne := fun z => h.ne (by subst z; exact p.nil_eq.symm)
  few := by rw [p.length_eq]; exact h.few
  nd := p.nodup_iff.mpr h.nd
  let' := fun x hx => h.let' x (p.mem_iff.mp hx)
end TN
set_option Elab.async false
set_option linter.all false
set_option maxRecDepth 100000
set_option maxHeartbeats 2000000
set_option autoImplicit false
namespace TN
open PySem PySem.Spec PyProof.Rows L2
section
variable {X : Cx} {K : PySem.W.Frag} {bor : List Nat} {ta tb te : TE} {f : FE} {A : TDL}
theorem dps_rep {G : Hp} {vs : List V} {ds : List D} (h : DqAll K G vs ds) : ∀ n : Nat, DqAll K G (List.replicate n vs).flatten (List.replicate n ds).flatten
  | 0 => .nil
  | n + 1 => by
    rw [List.replicate_succ, List.replicate_succ, List.flatten_cons, List.flatten_cons]
    exact dps_app h (dps_rep h n)
def dRep (A : TDL) (f : FE) : TDL := fun ρ Q => A ρ fun xs ρ1 => ∃ k : Int, f ρ1 = some (.int k) ∧ -(2 ^ 63) ≤ k ∧ k < 2 ^ 63 ∧ xs.length * k.toNat ≤ 100000 ∧ Q (List.replicate k.toNat xs).flatten ρ1
theorem ll_rep (h : LL K bor ta A) (hb : LM K bor tb f) : LL K bor (tOp rRep ta tb) (dRep A f) := fun {c G σ H ρ Qd Q} hc R q k =>
  h hc R q fun a vs H1 G1 ρ1 ds s1 R1 m p ⟨n, e, n1, n2, n3, q1⟩ => hb hc R1 e fun w G2 H2 g2 p2 => by
    cases p2.int
    refine ⟨a, n, vs, rfl, rfl, g2.k m.1, n1, n2, by rw [dps_len p]; exact Nat.le_trans n3 (by decide), fun x hx => ?_⟩
    have R2 := R1.grow g2
    exact k x _ _ G2 ρ1 _ (s1.trans g2.g) (R2.grow (grow_own R2.sub hx)) (mine_new R2 hx) (dps_rep (dpsS g2.g p) _) q1
end
def Ev.un : Ev → Prop
  | .name _ => False
  | _ => True
def Ev.p1 : Ev → Nat
  | .place p | .lost p | .twice p | .as' p _ => p
  | .name _ => 0
def Ev.ps2 : Ev → List Nat
  | .place p => [p]
  | .lost _ => []
  | .twice p => [p, p]
  | .as' _ q => [q]
  | .name _ => []

def semLaw (ds : List D) (Q : Sl → Prop) : Prop := ∃ ns : List Int, ds = [.list (ns.map PyData.int)] ∧ ns.length ≤ 63 ∧ Q (.sh (.bool true))
end TN
set_option Elab.async false
set_option linter.all false
set_option maxRecDepth 100000
set_option maxHeartbeats 2000000
set_option autoImplicit false
namespace TN
open PySem PySem.Spec PyProof.Rows L2
theorem runT_ok : ∀ (es : List Ev) (t : List Str), (∀ e ∈ es, e.ok t) → (runT t es).1.Perm t ∧ ∀ x ∈ (runT t es).2, x ∈ t
  | [], t, _ => ⟨.refl _, fun x hx => by cases hx⟩
  | e :: es, t, h => by
    have h0 := Ev.at_lt (h e List.mem_cons_self)
    have p := toF_perm h0
    obtain ⟨a, b⟩ := runT_ok es (toF t (e.at t)) fun x hx => Ev.ok_perm p.symm (h x (List.mem_cons_of_mem _ hx))
    refine ⟨a.trans p, fun x hx => ?_⟩
    rcases List.mem_cons.mp hx with rfl | z
    · rw [getD_of h0]; exact List.getElem_mem _
    · exact p.mem_iff.mp (b x z)
theorem takeAll_mem : ∀ (ps : List Nat) (r : List Str), (∀ p ∈ ps, p < r.length) → ∀ x ∈ (takeAll r ps).2, x ∈ r
  | [], r, _ => fun x hx => by cases hx
  | p :: ps, r, h => fun x hx => by
    have h0 := h p List.mem_cons_self
    rcases List.mem_cons.mp hx with rfl | z
    · rw [getD_of h0]; exact List.getElem_mem _
    · exact (toF_perm h0).mem_iff.mp (takeAll_mem ps (toF r p) (fun q hq => toF_len h0 ▸ h q (List.mem_cons_of_mem _ hq)) x z)
theorem runH_ok : ∀ (es : List Ev) (t : List Str), (∀ e ∈ es, e.ok t) → (runH t es).1.Perm t ∧ ∀ x ∈ (runH t es).2, x ∈ t
  | [], t, _ => ⟨.refl _, fun x hx => by cases hx⟩
  | e :: es, t, h => by
    have h0 := Ev.takes_lt (h e List.mem_cons_self)
    have p := takeAll_perm (e.takes t) h0
    obtain ⟨a, b⟩ := runH_ok es (takeAll t (e.takes t)).1 fun x hx => Ev.ok_perm p.symm (h x (List.mem_cons_of_mem _ hx))
    refine ⟨a.trans p, fun x hx => ?_⟩
    rcases List.mem_append.mp hx with z | z
    · exact takeAll_mem _ t h0 x z
    · exact p.mem_iff.mp (b x z)
theorem oNe_same {d : D} (h : Fine 9 d) : oNe d d = some (.bool false) := by rw [oNe_is h h]; simp
end TN
set_option Elab.async false
set_option linter.all false
set_option maxRecDepth 100000
set_option maxHeartbeats 4000000
set_option autoImplicit false
namespace TN
open PySem PySem.Spec PyProof.Rows
section
variable {prog : Program} {w : World} {A : Around} {E : Value → Shared → Prop} {s : Shared} {z TI TO i1 i2 S0 : Addr} {fp1 fp2 : List Addr} {n1 n2 i : Nat} {P1 P2 : Nat → Value → Prop} {St1 St2 : Nat → Heap → Prop}
theorem zipH_item {T : Addr} {f : Bool} {oT : Obj} {Q : Value → Shared → Prop} (S : ZipSep2 z TI TO i1 i2 fp1 fp2) (D1 : Draws prog w A i1 fp1 n1 P1 St1) (D2 : Draws prog w A i2 fp2 n2 P2 St2)
    (hz : IsZipHeld s.heap z TI TO T f) (hT : s.heap.get? T = some oT) (hTI : IsTupOf2 s.heap TI (.ref i1) (.ref i2)) (st1 : St1 i s.heap) (st2 : St2 i s.heap) (hlt1 : i < n1) (hlt2 : i < n2)
    (hQ : ∀ x1 x2 h' tk, P1 i x1 → P2 i x2 → IsZipHeld h' z TI TO T true → St1 (i + 1) h' → St2 (i + 1) h' → IsTupOf2 h' s.heap.objs.size x1 x2 → h'.objs.size = s.heap.objs.size + 1 →
      (∀ c o, c ≠ z → c ≠ i1 → c ≠ i2 → s.heap.get? c = some o → h'.get? c = some o) → Q (.ref s.heap.objs.size) { s with heap := h', toks := tk }) :
    wpAny (model prog w) A (Builtin.«zip.__next__» ⟨[.ref z], []⟩) (fun fin s' => ∃ v, fin = .done (.ret v) ∧ Q v s') E s := by
  obtain ⟨hp, g, d, tk0, os⟩ := s
  show wpAny _ _ (field (.ref z) 2 >>= _) _ _ _
  refine wpAny_bind (wpAny_field hz rfl (x := .bool false) rfl ?_)
  show wpAny _ _ (field (.ref z) 3 >>= _) _ _ _
  refine wpAny_bind (wpAny_field hz rfl (x := .ref TI) rfl ?_)
  refine wpAny_bind (wpAny_seqItems hTI rfl ?_)
  show wpAny _ _ (Builtin.SmallTypes.ownedTupleIsFree (.ref z) >>= _) _ _ _
  refine wpAny_bind (wpAny_tupleHeld_zip hz hT fun g0 hz0 hs0 => ?_)
  replace hs0 : Heap.SameBut z hp g0 := hs0
  simp only [Bool.false_eq_true, if_false]
  refine wpAny_bind ?_
  rw [← Array.forIn_toList]
  simp only [List.forIn_cons, List.forIn_nil]
  refine wpAny_bind (wpAny_bind (wpAny_holding ?_))
  show wpAny _ _ (Builtin.SmallTypes.nextOf (.ref i1) >>= _) _ _ ⟨g0, g, d, tk0, os⟩
  refine wpAny_bind (D1.item i _ _ _ hlt1 (D1.over st1 hs0 S.zf1) fun x1 p1 tk1 hx1 sn1 hp1 => wpAny_pure ?_)
  replace hp1 : Heap.SameBut i1 g0 p1 := hp1
  refine wpAny_pure ?_
  refine wpAny_bind (wpAny_bind (wpAny_holding ?_))
  show wpAny _ _ (Builtin.SmallTypes.nextOf (.ref i2) >>= _) _ _ ⟨p1, g, d, tk1, os⟩
  refine wpAny_bind (D2.item i _ _ _ hlt2 (D2.over (D2.over st2 hs0 S.zf2) hp1 S.sep1_2) fun x2 p2 tk2 hx2 sn2 hp2 => wpAny_pure ?_)
  replace hp2 : Heap.SameBut i2 p1 p2 := hp2
  refine wpAny_pure (wpAny_pure ?_)
  show wpAny _ _ (newTuple [x1, x2] >>= _) _ _ _
  refine wpAny_bind (wpAny_newTuple ?_)
  have hsz : p2.objs.size = hp.objs.size := by rw [hp2.1, hp1.1, hs0.1]
  have hz3 : IsZipHeld p2 z TI TO T true := hp2.extBut _ _ S.zi2 (hp1.extBut _ _ S.zi1 hz0)
  have hk : ∀ c o, c ≠ z → c ≠ i1 → c ≠ i2 → hp.get? c = some o → p2.get? c = some o := fun c o c1 c2 c3 e => hp2.extBut _ _ c3 (hp1.extBut _ _ c2 (hs0.extBut _ _ c1 e))
  refine wpAny_pure ⟨_, rfl, ?_⟩
  show Q (.ref p2.objs.size) ⟨p2.push { cls := .type "tuple", data := .seq #[x1, x2] }, g, d, tk2, os⟩
  have hp4 : IsTupOf2 (p2.push { cls := .type "tuple", data := .seq #[x1, x2] }) p2.objs.size x1 x2 := Heap.get?_push_size _ rfl
  have hz4 : (p2.push { cls := .type "tuple", data := .seq #[x1, x2] }).objs.size = p2.objs.size + 1 := Heap.size_push ..
  have up : ∀ c o, p2.get? c = some o → (p2.push { cls := .type "tuple", data := .seq #[x1, x2] }).get? c = some o := fun c o e => Heap.get?_push_of_some _ e
  rw [hsz] at hp4 hz4 ⊢
  exact hQ x1 x2 _ tk2 hx1 hx2 (up _ _ hz3) (D1.frame _ _ _ (D1.over sn1 hp2 S.sep2_1) fun b _ o e => up b o e) (D2.frame _ _ _ sn2 fun b _ o e => up b o e) hp4 hz4 fun c o c1 c2 c3 e => up _ _ (hk c o c1 c2 c3 e)
theorem zipH_end {T : Addr} {f : Bool} {oT : Obj} {Q : Fin → Shared → Prop} (S : ZipSep2 z TI TO i1 i2 fp1 fp2) (D1 : Draws prog w A i1 fp1 n1 P1 St1) (D2 : Draws prog w A i2 fp2 n2 P2 St2)
    (hz : IsZipHeld s.heap z TI TO T f) (hT : s.heap.get? T = some oT) (hTI : IsTupOf2 s.heap TI (.ref i1) (.ref i2)) (st1 : St1 i s.heap) (st2 : St2 i s.heap) (hle1 : i ≤ n1) (hle2 : i ≤ n2) (hend : i = n1 ∨ i = n2)
    (hE : ∀ h' tk e, (∀ c o, c ≠ z → c ≠ i1 → c ≠ i2 → s.heap.get? c = some o → h'.get? c = some o) → (∃ o, h'.get? e = some o ∧ o.cls = .type "StopIteration") → E (.ref e) { s with heap := h', toks := tk }) :
    wpAny (model prog w) A (Builtin.«zip.__next__» ⟨[.ref z], []⟩) Q E s := by
  obtain ⟨hp, g, d, tk0, os⟩ := s
  show wpAny _ _ (field (.ref z) 2 >>= _) _ _ _
  refine wpAny_bind (wpAny_field hz rfl (x := .bool false) rfl ?_)
  show wpAny _ _ (field (.ref z) 3 >>= _) _ _ _
  refine wpAny_bind (wpAny_field hz rfl (x := .ref TI) rfl ?_)
  refine wpAny_bind (wpAny_seqItems hTI rfl ?_)
  show wpAny _ _ (Builtin.SmallTypes.ownedTupleIsFree (.ref z) >>= _) _ _ _
  refine wpAny_bind (wpAny_tupleHeld_zip hz hT fun g0 hz0 hs0 => ?_)
  replace hs0 : Heap.SameBut z hp g0 := hs0
  simp only [Bool.false_eq_true, if_false]
  refine wpAny_bind ?_
  rw [← Array.forIn_toList]
  simp only [List.forIn_cons, List.forIn_nil]
  refine wpAny_bind (wpAny_bind (wpAny_holding ?_))
  show wpAny _ _ (Builtin.SmallTypes.nextOf (.ref i1) >>= _) _ _ ⟨g0, g, d, tk0, os⟩
  by_cases h1 : i = n1
  · subst h1
    refine wpAny_bind (D1.done _ _ _ (D1.over st1 hs0 S.zf1) fun p1 e hp1 he => ?_)
    exact hE p1 tk0 e (fun c o c1 c2 _ x => hp1 _ _ c2 (hs0.extBut _ _ c1 x)) he
  · refine wpAny_bind (D1.item i _ _ _ (by omega) (D1.over st1 hs0 S.zf1) fun x1 p1 tk1 hx1 sn1 hp1 => wpAny_pure ?_)
    replace hp1 : Heap.SameBut i1 g0 p1 := hp1
    refine wpAny_pure ?_
    have h2 : i = n2 := hend.resolve_left h1
    subst h2
    refine wpAny_bind (wpAny_bind (wpAny_holding ?_))
    show wpAny _ _ (Builtin.SmallTypes.nextOf (.ref i2) >>= _) _ _ ⟨p1, g, d, tk1, os⟩
    refine wpAny_bind (D2.done _ _ _ (D2.over (D2.over st2 hs0 S.zf2) hp1 S.sep1_2) fun p2 e hp2 he => ?_)
    exact hE p2 tk1 e (fun c o c1 c2 c3 x => hp2 _ _ c3 (hp1.extBut _ _ c2 (hs0.extBut _ _ c1 x))) he


structure ZSt (z TI TO i1 i2 S0 : Addr) (St1 St2 : Nat → Heap → Prop) (i : Nat) (h : Heap) : Prop where
  ti : IsTupOf2 h TI (.ref i1) (.ref i2)
  s1 : St1 i h
  s2 : St2 i h
  zz : (IsZip h z TI TO .none ∧ ∃ a b, IsTupOf2 h TO a b) ∨ ∃ T f oT, IsZipHeld h z TI TO T f ∧ h.get? T = some oT ∧ T ≠ z ∧ T ≠ i1 ∧ T ≠ i2 ∧ T ≠ S0
theorem ZSt.frame {h h' : Heap} (S : ZipSep2 z TI TO i1 i2 fp1 fp2) (D1 : Draws prog w A i1 fp1 n1 P1 St1) (D2 : Draws prog w A i2 fp2 n2 P2 St2) (n0 : S0 ≠ z ∧ S0 ≠ TI ∧ S0 ≠ TO ∧ S0 ∉ fp1 ∧ S0 ∉ fp2)
    (st : ZSt z TI TO i1 i2 S0 St1 St2 i h) (k : ∀ b o, b ≠ S0 → h.get? b = some o → h'.get? b = some o) : ZSt z TI TO i1 i2 S0 St1 St2 i h' where
  ti := k _ _ (Ne.symm n0.2.1) st.ti
  s1 := D1.frame _ _ _ st.s1 fun b hb o e => k b o (fun x => n0.2.2.2.1 (x ▸ hb)) e
  s2 := D2.frame _ _ _ st.s2 fun b hb o e => k b o (fun x => n0.2.2.2.2 (x ▸ hb)) e
  zz := by
    rcases st.zz with ⟨a, x, y, b⟩ | ⟨T, f, oT, a, b, c1, c2, c3, c4⟩
    · exact .inl ⟨k _ _ (Ne.symm n0.1) a, x, y, k _ _ (Ne.symm n0.2.2.1) b⟩
    · exact .inr ⟨T, f, oT, k _ _ (Ne.symm n0.1) a, k _ _ c4 b, c1, c2, c3, c4⟩
theorem zip_pull {Q : Option Value → Shared → Prop} (S : ZipSep2 z TI TO i1 i2 fp1 fp2) (D1 : Draws prog w A.in1 i1 fp1 n1 P1 St1) (D2 : Draws prog w A.in1 i2 fp2 n2 P2 St2) (hS : S0 < s.heap.objs.size)
    (st : ZSt z TI TO i1 i2 S0 St1 St2 i s.heap) (hlt1 : i < n1) (hlt2 : i < n2)
    (hQ : ∀ x1 x2 h' tk, P1 i x1 → P2 i x2 → ZSt z TI TO i1 i2 S0 St1 St2 (i + 1) h' → IsTupOf2 h' s.heap.objs.size x1 x2 → h'.objs.size = s.heap.objs.size + 1 →
      (∀ c o, c ≠ z → c ≠ TO → c ≠ i1 → c ≠ i2 → s.heap.get? c = some o → h'.get? c = some o) → Q (some (.ref s.heap.objs.size)) { s with heap := h', toks := tk }) :
    wpAny (model prog w) A (pyNext (.ref z)) Q E s := by
  obtain ⟨o1, l1⟩ := D1.live _ _ st.s1
  obtain ⟨o2, l2⟩ := D2.live _ _ st.s2
  have lt : ∀ {c o}, s.heap.get? c = some o → s.heap.objs.size ≠ c := fun e => Nat.ne_of_gt (Heap.lt_size e)
  rcases st.zz with ⟨hz, a, b, hTO⟩ | ⟨T, f, oT, hz, hT, r1, r2, r3, r4⟩
  · have hTy : s.TypeIs (.ref z) "zip" := ⟨_, hz, rfl⟩
    unfold pyNext
    refine wpAny_bind (wpAny_attempt (wpAny_callSpecial?_slot (name := Str.ofString "__next__") hTy F.slot_zip_next
      (wpAny_call_entry F.slot_zip_next hTy F.entry_zip_next
        (zipD2_next_item S D1 D2 hz st.ti hTO st.s1 st.s2 hlt1 hlt2 fun x1 x2 h' tk q1 q2 a1 a2 a3 a4 a5 a6 kk => wpAny_pure ?_) (F.args_zip_next_1 _))))
    exact hQ x1 x2 h' tk q1 q2 ⟨kk _ _ S.TIz S.TITO S.TIi1 S.TIi2 st.ti, a3, a4, .inr ⟨s.heap.objs.size, false, _, a1, a5, lt hz, lt l1, lt l2, Nat.ne_of_gt hS⟩⟩ a5 a6 kk
  · have hTy : s.TypeIs (.ref z) "zip" := ⟨_, hz, rfl⟩
    unfold pyNext
    refine wpAny_bind (wpAny_attempt (wpAny_callSpecial?_slot (name := Str.ofString "__next__") hTy F.slot_zip_next
      (wpAny_call_entry F.slot_zip_next hTy F.entry_zip_next
        (zipH_item S D1 D2 hz hT st.ti st.s1 st.s2 hlt1 hlt2 fun x1 x2 h' tk q1 q2 a1 a3 a4 a5 a6 kk => wpAny_pure ?_) (F.args_zip_next_1 _))))
    exact hQ x1 x2 h' tk q1 q2 ⟨kk _ _ S.TIz S.TIi1 S.TIi2 st.ti, a3, a4, .inr ⟨T, true, oT, a1, kk _ _ r1 r2 r3 hT, r1, r2, r3, r4⟩⟩ a5 a6 fun c o c1 _ c3 c4 e => kk c o c1 c3 c4 e
theorem zip_stop {Q : Option Value → Shared → Prop} (S : ZipSep2 z TI TO i1 i2 fp1 fp2) (D1 : Draws prog w A.in1 i1 fp1 n1 P1 St1) (D2 : Draws prog w A.in1 i2 fp2 n2 P2 St2)
    (st : ZSt z TI TO i1 i2 S0 St1 St2 i s.heap) (hle1 : i ≤ n1) (hle2 : i ≤ n2) (hend : i = n1 ∨ i = n2)
    (hQ : ∀ h' tk, (∀ c o, c ≠ z → c ≠ TO → c ≠ i1 → c ≠ i2 → s.heap.get? c = some o → h'.get? c = some o) → Q none { s with heap := h', toks := tk }) :
    wpAny (model prog w) A (pyNext (.ref z)) Q E s := by
  rcases st.zz with ⟨hz, a, b, hTO⟩ | ⟨T, f, oT, hz, hT, r1, r2, r3, r4⟩
  · have hTy : s.TypeIs (.ref z) "zip" := ⟨_, hz, rfl⟩
    unfold pyNext
    refine wpAny_bind (wpAny_attempt (wpAny_callSpecial?_slot (name := Str.ofString "__next__") hTy F.slot_zip_next
      (wpAny_call_entry F.slot_zip_next hTy F.entry_zip_next (zipD2_next_end S D1 D2 hz st.ti hTO st.s1 st.s2 hle1 hle2 hend fun h' tk e kk he => ?_) (F.args_zip_next_1 _))))
    obtain ⟨o, ho, hc⟩ := he
    refine wpAny_bind (wpAny_isInstance (T := "StopIteration") (b := true) ⟨o, ho, hc⟩ isSubtype_stop ?_)
    exact wpAny_pure (hQ _ tk kk)
  · have hTy : s.TypeIs (.ref z) "zip" := ⟨_, hz, rfl⟩
    unfold pyNext
    refine wpAny_bind (wpAny_attempt (wpAny_callSpecial?_slot (name := Str.ofString "__next__") hTy F.slot_zip_next
      (wpAny_call_entry F.slot_zip_next hTy F.entry_zip_next (zipH_end S D1 D2 hz hT st.ti st.s1 st.s2 hle1 hle2 hend fun h' tk e kk he => ?_) (F.args_zip_next_1 _))))
    obtain ⟨o, ho, hc⟩ := he
    refine wpAny_bind (wpAny_isInstance (T := "StopIteration") (b := true) ⟨o, ho, hc⟩ isSubtype_stop ?_)
    exact wpAny_pure (hQ _ tk fun c o c1 _ c3 c4 e => kk c o c1 c3 c4 e)
end
end TN
set_option Elab.async false
set_option linter.all false
set_option maxRecDepth 100000
set_option maxHeartbeats 4000000
set_option autoImplicit false
namespace TN
open PySem PySem.Spec PyProof.Rows
theorem ngt {a b N : Addr} (h : a < N) (g : N ≤ b) : b ≠ a := Nat.ne_of_gt (Nat.lt_of_lt_of_le h g)

def Got (N : Addr) (P1 P2 : Nat → Value → Prop) (i : Nat) (acc : Array Value) (h : Heap) : Prop :=
  ∃ Ts : List Addr, acc.toList = Ts.map Value.ref ∧ Ts.length = i ∧ Ts.Pairwise (· < ·) ∧ ∀ (j : Nat) (T : Addr), Ts[j]? = some T → N ≤ T ∧ T < h.objs.size ∧ ∃ x y, P1 j x ∧ P2 j y ∧ IsTupOf2 h T x y
theorem Got.nil {N : Addr} {P1 P2 : Nat → Value → Prop} {h : Heap} : Got N P1 P2 0 #[] h := ⟨[], rfl, rfl, .nil, fun j T e => by simp at e⟩
theorem Got.size {N : Addr} {P1 P2 : Nat → Value → Prop} {h : Heap} {i : Nat} {acc : Array Value} (g : Got N P1 P2 i acc h) : acc.size = i := by
  obtain ⟨Ts, e, l, _⟩ := g
  rw [← Array.length_toList, e, List.length_map, l]
theorem Got.keep {N : Addr} {P1 P2 : Nat → Value → Prop} {h h' : Heap} {i : Nat} {acc : Array Value} (g : Got N P1 P2 i acc h) (sz : h.objs.size ≤ h'.objs.size) (k : ∀ b o, N ≤ b → h.get? b = some o → h'.get? b = some o) : Got N P1 P2 i acc h' := by
  obtain ⟨Ts, e, l, pw, a⟩ := g
  refine ⟨Ts, e, l, pw, fun j T hj => ?_⟩
  obtain ⟨a1, a2, x, y, p, q, t⟩ := a j T hj
  exact ⟨a1, Nat.lt_of_lt_of_le a2 sz, x, y, p, q, k _ _ a1 t⟩
theorem Got.push {N : Addr} {P1 P2 : Nat → Value → Prop} {h h' : Heap} {i : Nat} {acc : Array Value} {x y : Value} (g : Got N P1 P2 i acc h) (hN : N ≤ h.objs.size) (sz : h'.objs.size = h.objs.size + 1) (k : ∀ b o, N ≤ b → h.get? b = some o → h'.get? b = some o)
    (p : P1 i x) (q : P2 i y) (t : IsTupOf2 h' h.objs.size x y) : Got N P1 P2 (i + 1) (acc.push (.ref h.objs.size)) h' := by
  obtain ⟨Ts, e, l, pw, a⟩ := g
  have below : ∀ T ∈ Ts, T < h.objs.size := fun T hT => by
    obtain ⟨j, hj, e⟩ := List.mem_iff_getElem.mp hT
    exact (a j T (by rw [List.getElem?_eq_getElem hj, e])).2.1
  refine ⟨Ts ++ [h.objs.size], by rw [Array.toList_push, e, List.map_append]; rfl, by rw [List.length_append, l]; rfl, ?_, fun j T hj => ?_⟩
  · refine List.pairwise_append.mpr ⟨pw, List.pairwise_singleton _ _, fun a ha b hb => ?_⟩
    rw [List.mem_singleton.mp hb]; exact below a ha
  · by_cases hi : j < Ts.length
    · rw [List.getElem?_append_left hi] at hj
      obtain ⟨a1, a2, x', y', p', q', t'⟩ := a j T hj
      exact ⟨a1, by rw [sz]; exact Nat.lt_succ_of_lt a2, x', y', p', q', k _ _ a1 t'⟩
    · rw [List.getElem?_append_right (by omega)] at hj
      have : j - Ts.length = 0 := by
        cases h0 : j - Ts.length with
        | zero => rfl
        | succ m => rw [h0] at hj; simp at hj
      rw [this] at hj
      injection hj with hj
      subst hj
      have : j = i := by omega
      subst this
      exact ⟨hN, by rw [sz]; exact Nat.lt_succ_self _, x, y, p, q, t⟩
section
variable {prog : Program} {w : World} {A : Around} {E : Value → Shared → Prop} {s : Shared} {z TI TO i1 i2 S0 N : Addr} {fp1 fp2 : List Addr} {n1 n2 n : Nat} {P1 P2 : Nat → Value → Prop} {St1 St2 : Nat → Heap → Prop}
abbrev lsAt (h : Heap) (S : Addr) (acc : Array Value) (c : Nat) : Prop := h.get? S = some { cls := .type "list", dict := none, data := .seq acc c, slots := #[] }
theorem zip_loop {R : Result → Shared → Prop} (S : ZipSep2 z TI TO i1 i2 fp1 fp2) (D1 : Draws prog w A.in1.in1 i1 fp1 n1 P1 St1) (D2 : Draws prog w A.in1.in1 i2 fp2 n2 P2 St2) (n0 : S0 ≠ z ∧ S0 ≠ TI ∧ S0 ≠ TO ∧ S0 ∉ fp1 ∧ S0 ∉ fp2)
    (big : z < N ∧ TO < N ∧ i1 < N ∧ i2 < N ∧ S0 < N) (hn : n ≤ n1 ∧ n ≤ n2 ∧ (n = n1 ∨ n = n2)) (hz : n ≤ sizeLine) (res : Value) :
    ∀ (k i : Nat) (s : Shared) (acc : Array Value) (c : Nat), n - i = k → i ≤ n → ZSt z TI TO i1 i2 S0 St1 St2 i s.heap → lsAt s.heap S0 acc c → N ≤ s.heap.objs.size → Got N P1 P2 i acc s.heap →
    (∀ h' tk acc' c', (∀ b o, b ≠ S0 → b ≠ z → b ≠ TO → b ≠ i1 → b ≠ i2 → s.heap.get? b = some o → h'.get? b = some o) → lsAt h' S0 acc' c' → Got N P1 P2 n acc' h' → R (.ok (.ret res)) { s with heap := h', toks := tk }) →
    codeAny (model prog w) A (.builtin "list.extend.loop" ⟨[.ref S0, .ref z, res], []⟩) R s := by
  intro k
  induction k with
  | zero =>
    intro i s acc c hk hi st hS hN g hR
    have hin : i = n := by omega
    subst hin
    refine codeAny_builtin F.entry_extend_loop ?_
    rw [Around.under_plainId F.plain_extend_loop _]
    show wpAny _ A.in1 (pyNext (.ref z) >>= _) _ _ s
    refine wpAny_bind (zip_stop S D1 D2 st hn.1 hn.2.1 hn.2.2 fun h' tk kk => ?_)
    refine wpAny_pure (hR h' tk acc c (fun b o b0 b1 b2 b3 b4 e => kk b o b1 b2 b3 b4 e) (kk _ _ n0.1 n0.2.2.1 (fun x => n0.2.2.2.1 (x ▸ S.mem1)) (fun x => n0.2.2.2.2 (x ▸ S.mem2)) hS) ?_)
    obtain ⟨Ts, e, l, pw, a⟩ := g
    refine ⟨Ts, e, l, pw, fun j T hj => ?_⟩
    obtain ⟨a1, a2, x, y, p, q, t⟩ := a j T hj
    have t' := kk _ _ (ngt big.1 a1) (ngt big.2.1 a1) (ngt big.2.2.1 a1) (ngt big.2.2.2.1 a1) t
    exact ⟨a1, Heap.lt_size t', x, y, p, q, t'⟩
  | succ k ih =>
    intro i s acc c hk hi st hS hN g hR
    have hlt : i < n := by omega
    refine codeAny_builtin F.entry_extend_loop ?_
    rw [Around.under_plainId F.plain_extend_loop _]
    show wpAny _ A.in1 (pyNext (.ref z) >>= _) _ _ s
    refine wpAny_bind (zip_pull S D1 D2 (Heap.lt_size hS) st (by omega) (by omega) fun x1 x2 h' tk p1 p2 st' t' sz kk => ?_)
    have hS' : lsAt h' S0 acc c := kk _ _ n0.1 n0.2.2.1 (fun x => n0.2.2.2.1 (x ▸ S.mem1)) (fun x => n0.2.2.2.2 (x ▸ S.mem2)) hS
    have g' := g.push hN sz (fun b o hb e => kk b o (ngt big.1 hb) (ngt big.2.1 hb) (ngt big.2.2.1 hb) (ngt big.2.2.2.1 hb) e) p1 p2 t'
    have as := g.size
    show wpAny _ A.in1 (updateSeq S0 (·.push (.ref s.heap.objs.size)) >>= _) _ _ _
    refine wpAny_bind ?_
    have oth : ∀ b o, b ≠ S0 → h'.get? b = some o → (h'.update S0 (Obj.mapSeq (·.push (.ref s.heap.objs.size)))).get? b = some o := fun b o hb e => (Heap.get?_update_other _ _ (Ne.symm hb)).trans e
    refine wpAny_updateSeq hS' rfl (wpAny_pure ⟨plainId_quiet F.plain_extend_loop _, ih (i + 1) { s with heap := h'.update S0 (Obj.mapSeq (·.push (.ref s.heap.objs.size))), toks := tk } (acc.push (.ref s.heap.objs.size)) _ (by omega) hlt (st'.frame S D1 D2 n0 oth) (Heap.get?_update_self _ hS' rfl)
      (by show N ≤ (h'.update S0 _).objs.size; rw [Heap.size_update, sz]; exact Nat.le_succ_of_le hN) (g'.keep (by rw [Heap.size_update]; exact Nat.le_refl _) fun b o hb e => oth b o (ngt big.2.2.2.2 hb) e) fun h'' tk' acc' c' kk' hS'' g'' => ?_⟩)
      (by rw [as]; omega) (by show (acc.push (.ref s.heap.objs.size)).size ≤ sizeLine + 1; rw [Array.size_push, as]; omega)
    exact hR h'' tk' acc' c' (fun b o b0 b1 b2 b3 b4 e => kk' b o b0 b1 b2 b3 b4 (oth b o b0 (kk b o b1 b2 b3 b4 e))) hS'' g''
theorem zip_no_len : typeLookup (.type "zip") "__len__" = pure none := am_miss_of_fast (by decide +kernel)
theorem zip_no_hint : typeLookup (.type "zip") "__length_hint__" = pure none := am_miss_of_fast (by decide +kernel)
theorem zip_hint {Q : Bool → Shared → Prop} (hT : s.TypeIs (.ref z) "zip") (h : Q false s) (h2 : Q true s) : wpAny (model prog w) A (Builtin.List.listLengthHint (.ref z)) Q E s := by
  unfold Builtin.List.listLengthHint
  refine wpAny_bind (wpAny_specialOf hT zip_no_len ?_)
  show wpAny _ A (specialOf (Value.ref z) (Str.ofString "__length_hint__") >>= _) _ _ _
  refine wpAny_bind (wpAny_specialOf hT zip_no_hint ?_)
  first | exact wpAny_pure h | exact wpAny_pure h2
theorem zip_extend {R : Result → Shared → Prop} (S : ZipSep2 z TI TO i1 i2 fp1 fp2) (D1 : Draws prog w A.in1.in1 i1 fp1 n1 P1 St1) (D2 : Draws prog w A.in1.in1 i2 fp2 n2 P2 St2) (n0 : S0 ≠ z ∧ S0 ≠ TI ∧ S0 ≠ TO ∧ S0 ∉ fp1 ∧ S0 ∉ fp2)
    (big : z < N ∧ TO < N ∧ i1 < N ∧ i2 < N ∧ S0 < N) (hn : n ≤ n1 ∧ n ≤ n2 ∧ (n = n1 ∨ n = n2)) (hz : n ≤ sizeLine) (res : Value) (c₀ : Nat) (st : ZSt z TI TO i1 i2 S0 St1 St2 0 s.heap) (hz0 : IsZip s.heap z TI TO .none) (hS : lsAt s.heap S0 #[] c₀) (hN : N ≤ s.heap.objs.size)
    (hR : ∀ h' tk acc' c', (∀ b o, b ≠ S0 → b ≠ z → b ≠ TO → b ≠ i1 → b ≠ i2 → s.heap.get? b = some o → h'.get? b = some o) → lsAt h' S0 acc' c' → Got N P1 P2 n acc' h' → R (.ok (.ret res)) { s with heap := h', toks := tk }) :
    wpAny (model prog w) A.in1 (Builtin.List.listExtendWith (.ref S0) (.ref z) res)
      (fun fin s' => match fin with | .done f => R (.ok f) s' | .again c' => c'.quiet = true ∧ codeAny (model prog w) A c' R s') (fun e s' => R (.error e) s') s := by
  have hT : s.TypeIs (.ref z) "zip" := ⟨_, hz0, rfl⟩
  have key : ∀ (h : Heap) (c₁ tk : Nat), N ≤ h.objs.size → (∀ b o, b ≠ S0 → s.heap.get? b = some o → h.get? b = some o) → lsAt h S0 #[] c₁ →
      codeAny (model prog w) A (.builtin "list.extend.loop" ⟨[.ref S0, .ref z, res], []⟩) R { s with heap := h, toks := tk } := fun h c₁ tk hN' kk hS₁ =>
    zip_loop S D1 D2 n0 big hn hz res n 0 _ #[] c₁ rfl (Nat.zero_le _) (st.frame S D1 D2 n0 kk) hS₁ hN' .nil fun h' tk' acc' c' k2 hS' g => hR h' tk' acc' c' (fun b o b0 b1 b2 b3 b4 e => k2 b o b0 b1 b2 b3 b4 (kk b o b0 e)) hS' g
  unfold Builtin.List.listExtendWith
  refine wpAny_bind (wpAny_typeOf (T := "zip") hT ?_)
  have h1 : Builtin.List.listSameRef (.ref S0) (.ref z) = false := by simp [Builtin.List.listSameRef, n0.1]
  have h2 : (Value.type "zip" == Value.type "list") = false := by decide
  have h3 : (Value.type "zip" == Value.type "tuple") = false := by decide
  simp only [h1, h2, h3, Bool.or_false, Bool.false_eq_true, if_false]
  refine wpAny_bind (wpAny_pyIter_zip hz0 ?_)
  refine wpAny_bind (wpAny_holding (zip_hint hT ?_ ?_))
  all_goals
    first
    | exact wpAny_pure ⟨plainId_quiet PySem.F.plain_extend_loop _, key _ c₀ _ hN (fun _ _ _ e => e) hS⟩
    | skip
  all_goals
    refine wpAny_ite_split (fun _ => ?_) (fun _ => wpAny_pure ⟨plainId_quiet PySem.F.plain_extend_loop _, key _ c₀ _ hN (fun _ _ _ e => e) hS⟩)
    refine wpAny_bind (wpAny_rule ?_)
    refine wpAny_bind ?_
    show wpAny _ _ (updateSeq S0 (·.push .none) >>= fun _ => updateSeq S0 (·.pop)) _ _ _
    refine wpAny_bind (wpAny_updateSeq hS rfl ?_)
    have hS₂ := Heap.get?_update_self (Obj.mapSeq (·.push Value.none)) hS rfl
    refine wpAny_updateSeq (hz := by seq_fits) hS₂ rfl ?_
    have hS₃ := Heap.get?_update_self (Obj.mapSeq (·.pop)) hS₂ rfl
    refine wpAny_pure ⟨plainId_quiet PySem.F.plain_extend_loop _, key _ _ _ (by rw [Heap.size_update, Heap.size_update]; exact hN) (fun b o hb e => (Heap.get?_update_other _ _ (Ne.symm hb)).trans ((Heap.get?_update_other _ _ (Ne.symm hb)).trans e)) hS₃⟩
end
end TN
set_option Elab.async false
set_option linter.all false
set_option maxRecDepth 100000
set_option maxHeartbeats 4000000
set_option autoImplicit false
namespace TN
open PySem PySem.Spec PyProof.Rows
section
variable {prog : Program} {w : World} {A : Around} {E : Value → Shared → Prop} {s : Shared} {z TI TO i1 i2 N : Addr} {fp1 fp2 : List Addr} {n1 n2 n : Nat} {P1 P2 : Nat → Value → Prop} {St1 St2 : Nat → Heap → Prop}
structure ZBeg (prog : Program) (w : World) (z TI TO i1 i2 N : Addr) (fp1 fp2 : List Addr) (n1 n2 n : Nat) (P1 P2 : Nat → Value → Prop) (St1 St2 : Nat → Heap → Prop) (h : Heap) : Prop where
  sep : ZipSep2 z TI TO i1 i2 fp1 fp2
  d1 : ∀ A : Around, A.handled = none → Draws prog w A i1 fp1 n1 P1 St1
  d2 : ∀ A : Around, A.handled = none → Draws prog w A i2 fp2 n2 P2 St2
  lo : z < N ∧ TI < N ∧ TO < N ∧ i1 < N ∧ i2 < N ∧ (∀ b ∈ fp1, b < N) ∧ ∀ b ∈ fp2, b < N
  hn : n ≤ n1 ∧ n ≤ n2 ∧ (n = n1 ∨ n = n2)
  hz : n ≤ sizeLine
  z0 : IsZip h z TI TO .none
  ti : IsTupOf2 h TI (.ref i1) (.ref i2)
  to : ∃ a b, IsTupOf2 h TO a b
  s1 : St1 0 h
  s2 : St2 0 h
theorem ZBeg.keep {h h' : Heap} (hh : A.handled = none) (B : ZBeg prog w z TI TO i1 i2 N fp1 fp2 n1 n2 n P1 P2 St1 St2 h) (k : ∀ b o, b < N → h.get? b = some o → h'.get? b = some o) : ZBeg prog w z TI TO i1 i2 N fp1 fp2 n1 n2 n P1 P2 St1 St2 h' where
  sep := B.sep
  d1 := B.d1
  d2 := B.d2
  lo := B.lo
  hn := B.hn
  hz := B.hz
  z0 := k _ _ B.lo.1 B.z0
  ti := k _ _ B.lo.2.1 B.ti
  to := let ⟨a, b, e⟩ := B.to; ⟨a, b, k _ _ B.lo.2.2.1 e⟩
  s1 := (B.d1 A hh).frame _ _ _ B.s1 fun b hb o e => k b o (B.lo.2.2.2.2.2.1 b hb) e
  s2 := (B.d2 A hh).frame _ _ _ B.s2 fun b hb o e => k b o (B.lo.2.2.2.2.2.2 b hb) e
theorem ZBeg.extend {S0 : Addr} {R : Result → Shared → Prop} (hh : A.handled = none) (B : ZBeg prog w z TI TO i1 i2 S0 fp1 fp2 n1 n2 n P1 P2 St1 St2 s.heap) (res : Value) (c₀ : Nat) (hS : lsAt s.heap S0 #[] c₀)
    (hR : ∀ h' tk acc' c', (∀ b o, b ≠ S0 → b ≠ z → b ≠ TO → b ≠ i1 → b ≠ i2 → s.heap.get? b = some o → h'.get? b = some o) → lsAt h' S0 acc' c' → Got (S0 + 1) P1 P2 n acc' h' → R (.ok (.ret res)) { s with heap := h', toks := tk }) :
    wpAny (model prog w) A.in1 (Builtin.List.listExtendWith (.ref S0) (.ref z) res)
      (fun fin s' => match fin with | .done f => R (.ok f) s' | .again c' => c'.quiet = true ∧ codeAny (model prog w) A c' R s') (fun e s' => R (.error e) s') s := by
  obtain ⟨l1, l2, l3, l4, l5, l6, l7⟩ := B.lo
  refine zip_extend (N := S0 + 1) B.sep (B.d1 _ hh) (B.d2 _ hh) ⟨Nat.ne_of_gt l1, Nat.ne_of_gt l2, Nat.ne_of_gt l3, fun x => Nat.lt_irrefl _ (l6 _ x), fun x => Nat.lt_irrefl _ (l7 _ x)⟩
    ⟨Nat.lt_succ_of_lt l1, Nat.lt_succ_of_lt l3, Nat.lt_succ_of_lt l4, Nat.lt_succ_of_lt l5, Nat.lt_succ_self _⟩ B.hn B.hz res c₀ ⟨B.ti, B.s1, B.s2, .inl ⟨B.z0, B.to⟩⟩ B.z0 hS (Heap.lt_size hS) hR

theorem ZBeg.list {Q : Value → Shared → Prop} (hh : A.handled = none) (B : ZBeg prog w z TI TO i1 i2 s.heap.objs.size fp1 fp2 n1 n2 n P1 P2 St1 St2 s.heap)
    (hQ : ∀ h' tk acc' c', (∀ b o, b ≠ z → b ≠ TO → b ≠ i1 → b ≠ i2 → s.heap.get? b = some o → h'.get? b = some o) → lsAt h' s.heap.objs.size acc' c' → Got (s.heap.objs.size + 1) P1 P2 n acc' h' → Q (.ref s.heap.objs.size) { s with heap := h', toks := tk }) :
    wpAny (model prog w) A (call (.type "list") [.ref z]) Q E s := by
  refine callType_codes (Q₁ := fun obj s₁ => obj = .ref s.heap.objs.size ∧ s₁ = { s with heap := s.heap.push { cls := .type "list", data := .seq #[] } }) PySem.F.called_list (PySem.F.typeCall_list_1 _) PySem.F.entry_list_init
    (code_list_new _ ⟨rfl, rfl⟩) fun obj s₁ h₁ => ?_
  obtain ⟨rfl, rfl⟩ := h₁
  have hS : (s.heap.push { cls := .type "list", data := .seq #[] }).get? s.heap.objs.size = some { cls := .type "list", data := .seq #[] } := Heap.get?_push_size _ rfl
  have oth : ∀ b o, s.heap.get? b = some o → ((s.heap.push { cls := .type "list", data := .seq #[] }).update s.heap.objs.size (Obj.mapSeq (fun _ => (#[] : Array Value)))).get? b = some o := fun b o e =>
    (Heap.get?_update_other _ _ (Nat.ne_of_gt (Heap.lt_size e))).trans (Heap.get?_push_of_some _ e)
  refine ⟨⟨_, hS, rfl⟩, PySem.F.args_list_init_2 _ _, ?_⟩
  show wpAny _ A.in1.in1 (do let old ← Builtin.List.listItems (.ref s.heap.objs.size); Builtin.List.listUpdate (.ref s.heap.objs.size) (fun _ => #[]); letGo old.toList.reverse; Builtin.List.listExtendWith (.ref s.heap.objs.size) (.ref z) .none) _ _ _
  refine wpAny_bind ?_
  unfold Builtin.List.listItems
  refine wpAny_bind (wpAny_seqItems hS rfl (wpAny_pure ?_))
  show wpAny _ _ (updateSeq s.heap.objs.size (fun _ => #[]) >>= fun _ => letGo (#[] : Array Value).toList.reverse >>= fun _ => Builtin.List.listExtendWith (.ref s.heap.objs.size) (.ref z) .none) _ _ _
  refine wpAny_bind (wpAny_updateSeq hS rfl ?_)
  have hS₂ := Heap.get?_update_self (Obj.mapSeq (fun _ => (#[] : Array Value))) hS rfl
  refine wpAny_bind (wpAny_letGo ?_)
  refine ZBeg.extend (A := A.in1) (s := { s with heap := (s.heap.push { cls := .type "list", data := .seq #[] }).update s.heap.objs.size (Obj.mapSeq (fun _ => (#[] : Array Value))) }) hh (B.keep hh fun b o _ e => oth b o e) .none _ hS₂ fun h' tk acc' c' kk hS' g => ?_
  exact ⟨rfl, hQ h' tk acc' c' (fun b o b1 b2 b3 b4 e => kk b o (Nat.ne_of_lt (Heap.lt_size e)) b1 b2 b3 b4 (oth b o e)) hS' g⟩

end
def ltT : List Str → List Str → Bool
  | [], [] => false
  | [], _ :: _ => true
  | _ :: _, [] => false
  | a :: as, b :: bs => if a = b then ltT as bs else decide (a.cps.toList < b.cps.toList)
theorem ltS_tri {a b : Str} (h1 : ¬ a.cps.toList < b.cps.toList) (h2 : ¬ b.cps.toList < a.cps.toList) : a = b := by
  exact leS_antisymm (by unfold leS; simpa using h2) (by unfold leS; simpa using h1)
theorem ltT_asym : ∀ {a b : List Str}, ltT a b = true → ltT b a = false
  | [], [], h => rfl
  | [], _ :: _, h => rfl
  | _ :: _, [], h => by cases h
  | a :: as, b :: bs, h => by
    unfold ltT at h ⊢
    by_cases e : a = b
    · subst e
      rw [if_pos rfl] at h ⊢
      exact ltT_asym h
    · rw [if_neg e] at h
      rw [if_neg (Ne.symm e)]
      have h := of_decide_eq_true h
      exact decide_eq_false fun z => List.lt_asymm h z
theorem ltT_no_trans : ∀ {a b c : List Str}, ltT b a = false → ltT c b = false → ltT c a = false
  | [], _, [], _, _ => rfl
  | [], [], _ :: _, _, h => h
  | [], _ :: _, _ :: _, _, _ => rfl
  | _ :: _, [], _, h, _ => by cases h
  | _ :: _, _ :: _, [], h, k => by cases k
  | a :: as, b :: bs, c :: cs, h, k => by
    unfold ltT at h k ⊢
    by_cases e1 : b = a
    · subst e1
      rw [if_pos rfl] at h
      by_cases e2 : c = b
      · subst e2
        rw [if_pos rfl] at k ⊢
        exact ltT_no_trans h k
      · rw [if_neg e2] at k ⊢; exact k
    · rw [if_neg e1] at h
      by_cases e2 : c = b
      · subst e2
        rw [if_neg e1]; exact h
      · rw [if_neg e2] at k
        have h := of_decide_eq_false h
        have k := of_decide_eq_false k
        have le1 : leS a b = true := by unfold leS; simpa using h
        have le2 : leS b c = true := by unfold leS; simpa using k
        have le3 := leS_trans _ _ _ le1 le2
        by_cases e3 : c = a
        · subst e3
          exact absurd (leS_antisymm le2 le1) (fun z => e1 z)
        · rw [if_neg e3]
          unfold leS at le3
          exact decide_eq_false (by simpa using le3)
theorem ltT_tri : ∀ {a b : List Str}, ltT a b = false → ltT b a = false → a = b
  | [], [], _, _ => rfl
  | [], _ :: _, h, _ => by cases h
  | _ :: _, [], _, h => by cases h
  | a :: as, b :: bs, h, k => by
    unfold ltT at h k
    by_cases e : a = b
    · subst e
      rw [if_pos rfl] at h k
      rw [ltT_tri h k]
    · rw [if_neg e] at h
      rw [if_neg (Ne.symm e)] at k
      exact absurd (ltS_tri (of_decide_eq_false h) (of_decide_eq_false k)) e
open L2
def IsTx (h : Heap) (v : Value) (xs : List Str) : Prop := ∃ (a : Addr) (o : Obj) (its : Array Value) (n : Nat), v = .ref a ∧ h.get? a = some o ∧ o.cls = .type "tuple" ∧ o.data = .seq its n ∧ Vals (xs.map V.str) its.toList
theorem IsTx.keeps {h h' : Heap} {v : Value} {xs : List Str} (t : IsTx h v xs) (k : ∀ b o, h.get? b = some o → o.cls = .type "tuple" → h'.get? b = some o) : IsTx h' v xs := by
  obtain ⟨a, o, its, n, e, ho, hc, hd, r⟩ := t
  exact ⟨a, o, its, n, e, k _ _ ho hc, hc, hd, r⟩
section
variable {prog : Program} {w : World} {A : Around} {s : Shared}
end
end TN
set_option Elab.async false
set_option linter.all false
set_option maxRecDepth 100000
set_option maxHeartbeats 4000000
set_option autoImplicit false
namespace TN
open PySem PySem.Spec PyProof.Rows L2
theorem vals_ix : ∀ {xs : List V} {us : List Value} {i : Nat} {u : Value}, Vals xs us → us[i]? = some u → ∃ x, xs[i]? = some x ∧ RelV x u
  | _, _, _, _, .nil, e => by simp at e
  | _, _, 0, _, .cons r _, e => by simp at e; subst e; exact ⟨_, rfl, r⟩
  | _, _, i + 1, x, .cons _ t, e => by
    obtain ⟨u, h1, h2⟩ := vals_ix (i := i) t (by simpa using e)
    exact ⟨u, by simpa using h1, h2⟩

structure SrcB (prog : Program) (w : World) (h : Heap) (u : Value) (xs : List V) : Prop where
  ex : ∃ (o : Obj) (Hc : Heap → Prop) (fp : List Addr) (P : Nat → Value → Prop) (St : Addr → Nat → Heap → Prop), Begins u o Hc ∧ Hc h ∧ (∀ b ∈ fp, b < h.objs.size) ∧
    (∀ it, h.objs.size ≤ it → ∀ A : Around, A.handled = none → Draws prog w A it (it :: fp) xs.length P (St it)) ∧
    (∀ it h', (∀ b o, h.get? b = some o → h'.get? b = some o) → h'.get? it = some o → St it 0 h') ∧ ∀ j x, P j x → ∃ v, xs[j]? = some v ∧ RelV v x
end TN
set_option Elab.async false
set_option linter.all false
set_option maxRecDepth 100000
set_option maxHeartbeats 4000000
set_option autoImplicit false
namespace TN
open PySem PySem.Spec PyProof.Rows L2
section
variable {X : Cx} {pins : List (Addr × Obj)} {σ : L2.St} {H : Hp} {s : Shared} {v1 v2 : V} {xs ys : List V}
end
section
variable {X : Cx} {e1 e2 : Expr} {p p2 pos pos2 : Pos} {ta : TA}
end
end TN
set_option Elab.async false
set_option linter.all false
set_option maxRecDepth 100000
set_option maxHeartbeats 2000000
set_option autoImplicit false
namespace TN
open PySem PySem.Spec PyProof.Rows L2
section
variable {K : PySem.W.Frag} {bor : List Nat} {ta tb : TA} {te tf : TE}
def keyK : D → Option Key
  | .int i => some (.inl i)
  | .str x => some (.inr x)
  | _ => none
def dctD (kvs : List (Key × D)) : List (D × D) := kvs.map fun p => (keyD p.1, p.2)
end
end TN
set_option Elab.async false
set_option linter.all false
set_option maxRecDepth 100000
set_option maxHeartbeats 2000000
set_option autoImplicit false
namespace TN
open PySem PySem.Spec PyProof.Rows L2
section
variable {prog : Program} {w : World} {A : Around} {E : Value → Shared → Prop} {s : Shared}
theorem fm_map {α β : Type} {f : α → Option β} {g : α → β} : ∀ l : List α, (∀ x ∈ l, f x = some (g x)) → l.filterMap f = l.map g
  | [], _ => rfl
  | x :: l, h => by
    rw [List.filterMap_cons, h x List.mem_cons_self, List.map_cons, fm_map l fun y hy => h y (List.mem_cons_of_mem _ hy)]
theorem turned {items : Array Value} : ((List.range items.size).filterMap fun (k : Nat) => items[((items.size : Int) - 1 + (k : Int) * (-1)).toNat]?).toArray = items.toList.reverse.toArray := by
  congr 1
  apply List.ext_getElem?
  intro i
  have all : (List.range items.size).filterMap (fun (k : Nat) => items[((items.size : Int) - 1 + (k : Int) * (-1)).toNat]?) = (List.range items.size).map (fun (k : Nat) => items.toList.getD (items.size - 1 - k) Value.none) := by
    refine fm_map _ fun k hk => ?_
    have hk := List.mem_range.mp hk
    have e : ((items.size : Int) - 1 + (k : Int) * (-1)).toNat = items.size - 1 - k := by omega
    have lt : items.size - 1 - k < items.toList.length := by rw [Array.length_toList]; omega
    rw [e]
    simp [List.getD, List.getElem?_eq_getElem lt]
  rw [all]
  by_cases hi : i < items.size
  · have l2 : items.toList.length - 1 - i < items.toList.length := by rw [Array.length_toList]; omega
    rw [List.getElem?_map, List.getElem?_range hi, List.getElem?_reverse (by rw [Array.length_toList]; exact hi)]
    rw [Array.length_toList] at l2 ⊢
    show some (items.toList.getD (items.size - 1 - i) Value.none) = _
    rw [List.getElem?_eq_getElem (by rw [Array.length_toList]; exact l2), getD_of (by rw [Array.length_toList]; exact l2)]
  · rw [List.getElem?_eq_none (by rw [List.length_map, List.length_range]; omega), List.getElem?_eq_none (by rw [List.length_reverse, Array.length_toList]; omega)]
theorem applied_rev {sl : Addr} {x y z : Value} {n : Nat} {Q : Int × Int × Nat → Shared → Prop} (is : s.heap.IsSliceOf sl x y z) (px : IsPart x none) (py : IsPart y none) (pz : IsPart z (some (-1)))
    (q : Q ((n : Int) - 1, -1, n) s) : wpAny (model prog w) A (Builtin.Slice.sliceApplied (.ref sl) (pure (n : Int))) Q E s := by
  obtain ⟨o, h1, h2, h3⟩ := is
  unfold Builtin.Slice.sliceApplied Builtin.Slice.sliceFields
  have last : wpAny (model prog w) A (pure (match Builtin.Slice.sliceAdjust none none (-1) (n : Int) with | (lo, hi) => (lo, (-1 : Int), Builtin.Slice.slicePlaces lo hi (-1)))) Q E s := by
    refine wpAny_pure ?_
    have e : Builtin.Slice.slicePlaces ((n : Int) - 1) (-1) (-1) = n := by
      unfold Builtin.Slice.slicePlaces
      rw [if_neg (by decide)]
      by_cases h : ((n : Int) - 1) > -1
      · rw [if_pos h]
        have : ((n : Int) - 1 - -1 - 1) / (- -1) + 1 = n := by
          rw [show (- -1 : Int) = 1 from rfl, Int.ediv_one]; omega
        rw [this]; rfl
      · rw [if_neg h]
        have : n = 0 := by omega
        subst this; rfl
    show Q ((n : Int) - 1, -1, Builtin.Slice.slicePlaces ((n : Int) - 1) (-1) (-1)) s
    rw [e]; exact q
  refine wpAny_bind (wpAny_bind (wpAny_field h1 h3 (x := x) rfl (wpAny_bind (wpAny_field h1 h3 (x := y) rfl (wpAny_bind (wpAny_field h1 h3 (x := z) rfl (wpAny_pure ?_)))))))
  refine wpAny_bind (HT.slicePart_ pz ?_)
  show wpAny _ _ (if ((-1 : Int) == 0) = true then _ else _) _ _ _
  rw [if_neg (by decide)]
  exact wpAny_bind (HT.slicePart_ px (wpAny_bind (HT.slicePart_ py (wpAny_bind (wpAny_pure last)))))
theorem getItem_turned {t sl : Addr} {items : Array Value} {x y z : Value} {Q : Value → Shared → Prop} (tup : IsTup s.heap t items) (is : s.heap.IsSliceOf sl x y z) (px : IsPart x none) (py : IsPart y none) (pz : IsPart z (some (-1)))
    (q : Q (.ref s.heap.objs.size) { s with heap := s.heap.push { cls := .type "tuple", data := .seq items.toList.reverse.toArray } }) (size : items.size ≤ sizeLine) : wpAny (model prog w) A (getItem (.ref t) (.ref sl)) Q E s := by
  have fits : sizeOk (.seq items.toList.reverse.toArray) := by
    show items.toList.reverse.toArray.size ≤ sizeLine
    simpa using size
  have kind : s.TypeIs (.ref sl) "slice" := by
    obtain ⟨o, h1, h2, _⟩ := is
    exact ⟨o, h1, h2⟩
  unfold getItem
  try (with_reducible refine wpAny_holding ?_; skip)
  try (refine wpAny_bind (wpAny_pure ?_); skip)
  refine wpAny_bind (wpAny_sequenceKey tup.typeIs (by decide) (wpAny_bind
    (wpAny_callSpecial?_slot (name := Str.ofString "__getitem__") tup.typeIs PyProof.Rows.slot_tuple_getitem (wpAny_call_entry PyProof.Rows.slot_tuple_getitem tup.typeIs entry_tuple_getitem ?_ (args_tuple_getitem _ _)))))
  show wpAny _ _ (Builtin.Tuple.tupleItemsOf (.ref t) >>= _) _ _ _
  refine wpAny_bind (tupleItemsOf_ tup (wpAny_bind (wpAny_typeOf kind ?_)))
  rw [if_pos (by decide)]
  refine wpAny_bind (applied_rev is px py pz ?_)
  have no : ¬ ((((items.size : Int) - 1 == 0) && ((-1 : Int) == 1) && (items.size == items.size)) = true) := by
    rw [show ((-1 : Int) == 1) = false from by decide, Bool.and_false, Bool.false_and]
    exact Bool.false_ne_true
  show wpAny _ _ (if (((items.size : Int) - 1 == 0) && ((-1 : Int) == 1) && (items.size == items.size)) = true then _ else _) _ _ _
  rw [if_neg no, turned]
  first
    | exact wpAny_bind (m := Builtin.Tuple.tupleExact _) (wpAny_newObj_type (wpAny_pure ⟨_, rfl, wpAny_pure q⟩) fits)
    | exact wpAny_bind (m := Builtin.Tuple.tupleExact _) (wpAny_newObj_type (wpAny_bind (wpAny_pure (wpAny_pure ⟨_, rfl, wpAny_pure q⟩))) fits)
    | exact wpAny_bind (wpAny_bind (m := Builtin.Tuple.tupleExact _) (wpAny_newObj_type (wpAny_pure (wpAny_pure ⟨_, rfl, wpAny_pure q⟩)) fits))
    | exact wpAny_bind (wpAny_bind (m := Builtin.Tuple.tupleExact _) (wpAny_newObj_type (wpAny_pure ⟨_, rfl, wpAny_pure q⟩) fits))
end
section
variable {X : Cx} {K : PySem.W.Frag} {bor : List Nat} {te : TE} {f : FE} {A : TDE}
def tRevX (K : PySem.W.Frag) (te : TE) : TE := fun σ H Q => te σ H fun x H1 => ∃ a xs, x = .ref a ∧
  ((SqL K H1 a xs ∧ ∀ p, H1 p = none → Q (.ref p) (upd H1 p (.lst xs.reverse))) ∨ (SqT K H1 a xs ∧ ∀ (p : Addr) (o : Obj), o.dict = none → H1 p = none → Q (.ref p) (upd H1 p (.frz o (.tup xs.reverse)))))
theorem pe_revX {e : Expr} {k : Nat} {p1 p2 p3 pos : Pos} (he : PE X e te) : PE X (.Subscript e (.Slice none none (some (.UnaryOp .USub (.Constant (.int 1) k p1) p2)) p3) pos) (tRevX X.K te) := by
  constructor
  intro pins s σ H Q I h
  apply Subscript_
  refine thn (he.run pins s σ H _ I h) ?_
  rintro v t1 ⟨x, H1, J1, rx, a, xs, rfl, hx⟩
  cases rx
  have step : PO X (some (.UnaryOp .USub (.Constant (.int 1) k p1) p2)) (tPart (tUn (L2.rU fun i => .int (-i)) (tC (.int 1)))) := po_some (pe_un un_neg pe_int)
  apply wpAny_Slice
  refine thn (po_none.run pins t1 σ H1 (fun o H' => o = none ∧ H' = H1) J1 ⟨rfl, rfl⟩) ?_
  rintro vl t2 ⟨_, H2, J2, pl, rfl, rfl⟩
  refine thn (po_none.run pins t2 σ H2 (fun o H' => o = none ∧ H' = H2) J2 ⟨rfl, rfl⟩) ?_
  rintro vu t3 ⟨_, H3, J3, pu, rfl, rfl⟩
  refine thn (step.run pins t3 σ H3 (fun o H' => o = some (-1) ∧ H' = H3) J3 ⟨1, rfl, -1, rfl, rfl, rfl⟩) ?_
  rintro vs t4 ⟨_, H4, J4, ps, rfl, rfl⟩
  have J5 : Inv X pins σ H4 { t4 with heap := t4.heap.push { cls := .type "slice", data := .fields #[vl, vu, vs] } } := J4.kept (t' := t4.toks) fun b ob q => Heap.get?_push_of_some _ q
  show wpAny (model X.prog X.w) X.A (subscriptTail e (.Slice none none (some (.UnaryOp .USub (.Constant (.int 1) k p1) p2)) p3) (.ref a) (.ref t4.heap.objs.size)) (EP X pins σ Q) X.xe _
  rcases hx with ⟨hx, q⟩ | ⟨hx, q⟩
  · obtain ⟨its, r, ht, hz⟩ := J5.list hx
    have hl := r.length
    refine tail_any (ops := [.ref a, .ref t4.heap.objs.size]) ht.isList.typeIs (PySem.slot_list_getitem.lookup) ?_ (by with_unfolding_all rfl)
    apply wpAny_getItem_list_slice ht.isList (Heap.IsSliceOf.new _ vl vu vs) pl pu ps (by decide) _ (by rw [List.size_toArray]; omega)
    rw [PySem.W.krv_pick]
    refine ⟨.ref _, _, J5.laid (t' := t4.toks) (o := .lst xs.reverse) (fun b ob q => Heap.get?_push_of_some _ q) (Nat.le_refl _) ?_, rfl, q _ (J5.hok.fresh (Nat.le_refl _))⟩
    exact ⟨by rw [List.length_reverse]; exact hz, _, 0, r.reverse, Heap.get?_push_size _ rfl⟩
  · obtain ⟨its, r, tup, hz⟩ := J5.tuple hx
    have hl := r.length
    refine tail_any (ops := [.ref a, .ref t4.heap.objs.size]) tup.typeIs (PyProof.Rows.slot_tuple_getitem.lookup) ?_ (by with_unfolding_all rfl)
    apply getItem_turned tup (Heap.IsSliceOf.new _ vl vu vs) pl pu ps _ (by rw [List.size_toArray]; omega)
    exact ⟨.ref _, _, tup_laid J5 r.reverse (by rw [List.length_reverse]; exact hz), rfl, q _ _ rfl (J5.hok.fresh (Nat.le_refl _))⟩
end
end TN
set_option Elab.async false
set_option linter.all false
set_option maxRecDepth 100000
set_option maxHeartbeats 2000000
set_option autoImplicit false
namespace TN
open PySem PySem.Spec PyProof.Rows L2
def Ev.even : Ev → Prop
  | .place _ | .name _ => True
  | _ => False
theorem even_run : ∀ (es : List Ev) (r : List Str), (∀ e ∈ es, e.even) → runH r es = runT r es
  | [], r, _ => rfl
  | e :: es, r, h => by
    have he := h e List.mem_cons_self
    have tk : e.takes r = [e.at r] := by cases e <;> first | rfl | exact he.elim
    show ((runH (takeAll r (e.takes r)).1 es).1, (takeAll r (e.takes r)).2 ++ (runH (takeAll r (e.takes r)).1 es).2) = ((runT (toF r (e.at r)) es).1, r.getD (e.at r) "" :: (runT (toF r (e.at r)) es).2)
    rw [tk]
    show ((runH (toF r (e.at r)) es).1, r.getD (e.at r) "" :: (runH (toF r (e.at r)) es).2) = _
    rw [even_run es _ fun x hx => h x (List.mem_cons_of_mem _ hx)]

theorem idx_at {x : Str} {r : List Str} (h : x ∈ r) : r.getD ((idxS x r).getD 0) "" = x := by
  obtain ⟨j, h1, h2⟩ := idxS_mem h
  rw [h1]
  show r.getD j "" = x
  obtain ⟨h3, _⟩ := idxS_is h1
  rw [List.getD, h3]; rfl
theorem toF_name {x : Str} {r : List Str} (h : x ∈ r) (nd : r.Nodup) : toF r ((idxS x r).getD 0) = x :: r.filter (fun y => decide (y ≠ x)) := by
  obtain ⟨j, h1, h2⟩ := idxS_mem h
  have hx := idx_at h
  rw [h1] at hx ⊢
  have hx : r.getD j "" = x := hx
  show toF r j = _
  unfold toF
  rw [hx]
  have sp := split_at h2
  rw [hx] at sp
  have nd2 : (r.take j ++ ([x] ++ r.drop (j + 1))).Nodup := by rw [sp]; exact nd
  rw [List.nodup_append] at nd2
  have n1 : ∀ y ∈ r.take j, y ≠ x := fun y hy => nd2.2.2 y hy x (by simp)
  have n2 : ∀ y ∈ r.drop (j + 1), y ≠ x := fun y hy z => by
    have := nd2.2.1
    rw [show [x] ++ r.drop (j + 1) = x :: r.drop (j + 1) from rfl, List.nodup_cons] at this
    exact this.1 (z ▸ hy)
  have fl : r.filter (fun y => decide (y ≠ x)) = r.take j ++ r.drop (j + 1) := by
    conv => lhs; rw [← sp]
    rw [List.filter_append, List.filter_append, List.filter_eq_self.mpr (fun y hy => decide_eq_true (n1 y hy)), List.filter_eq_self.mpr (fun y hy => decide_eq_true (n2 y hy))]
    simp
  rw [fl]; rfl
theorem oAdd_lst {a b : List D} (h : a.length + b.length ≤ 100000) : oAdd (.list a) (.list b) = some (.list (a ++ b)) := if_pos h
theorem runT_len : ∀ (es : List Ev) (t : List Str), (runT t es).2.length = es.length
  | [], t => rfl
  | e :: es, t => by
    show (_ :: (runT (toF t (e.at t)) es).2).length = _
    rw [List.length_cons, runT_len es, List.length_cons]
end TN
set_option Elab.async false
set_option linter.all false
set_option maxRecDepth 100000
set_option maxHeartbeats 2000000
set_option autoImplicit false
namespace TN
open PySem PySem.Spec PyProof.Rows L2
structure Seen (P : Program) (w : World) (K : PySem.W.Frag) (H : Hp) (t : Shared) (p : Addr) : Prop where
  good : HOk P w H t.heap
  one : ∀ q, H q ≠ none → q = p
  far : H p ≠ none → K.lookup p = none
  frz : ∀ q, H q = none ∨ ∃ o ws, H q = some (.frz o (.lst ws))

structure Left (K : PySem.W.Frag) (mg mb : Str → Option Value) (t : Shared) : Prop where
  kin : K.In t.heap
  main : t.heap.Ns mainGlobals mg
  blt : t.heap.Ns builtinsNs mb
  boot : ∀ y : Str, y ≠ "__name__" → mb y = bootBuiltins y
  free : t.heap.NoLimit
  gens : t.gens = #[]
section
variable {P : Program} {w : World} {K : PySem.W.Frag} {mg mb : Str → Option Value} {t : Shared} {p : Addr} {items : List Value} {H : Hp}
theorem Seen.dict (S : Seen P w K H t p) (at' : t.heap.get? p = some { cls := .type "list", data := .seq items.toArray }) {q : Addr} {o : Obj} {es : Array DictEntry} {n : Nat} (e : t.heap.get? q = some o) (d : o.data = .dict es n) : H q = none := by
  rcases hq : H q with _ | u
  · rfl
  · exfalso
    have := S.one q (by rw [hq]; exact Option.some_ne_none _)
    subst this
    rw [at'] at e
    injection e with e
    subst e
    exact Data.noConfusion d
theorem Seen.ns (S : Seen P w K H t p) (at' : t.heap.get? p = some { cls := .type "list", data := .seq items.toArray }) {q : Addr} {m : Str → Option Value} (h : t.heap.Ns q m) : (hidT t.heap H).Ns q m := by
  obtain ⟨o, es, n, e, d, more⟩ := h
  exact ⟨o, es, n, hidT_get e (S.dict at' e d), d, more⟩
theorem Seen.kin (S : Seen P w K H t p) (L : Left K mg mb t) : K.In (hidT t.heap H) := by
  intro q o e
  refine hidT_get (L.kin q o e) ?_
  rcases hq : H q with _ | u
  · rfl
  · exfalso
    have := S.one q (by rw [hq]; exact Option.some_ne_none _)
    subst this
    rw [S.far (by rw [hq]; exact Option.some_ne_none _)] at e
    cases e
theorem Seen.env (S : Seen P w K H t p) (L : Left K mg mb t) (at' : t.heap.get? p = some { cls := .type "list", data := .seq items.toArray }) : Env0 P w K mg (hidT t.heap H) callerA [] t H := by
  obtain ⟨mc, l1, l2⟩ := L.free
  have m : Mod K mg (hidT t.heap H) := ⟨S.kin L, S.ns at' L.main, ⟨mb, S.ns at' L.blt, L.boot⟩, mc, S.ns at' l1, l2⟩
  refine ⟨rfl, m, fun q o e => of_hidT e, Nat.le_of_eq (hidT_size _ _), trivial, fun q hq => ?_, S.good, .of_eq L.gens⟩
  cases hq

theorem seen_script {ns : List Int} (at' : t.heap.get? p = some { cls := .type "list", data := .seq items.toArray }) (L : Left K mg mb t) (i : IntsAre items ns) (few : ns.length ≤ sizeLine) :
    ∃ H, Seen P w K H t p ∧ SqL K H p (ns.map V.int) := by
  have il := i.length
  have rv : Vals (ns.map V.int) items := vals_ints i
  rcases hk : K.lookup p with _ | o
  · let H : Hp := fun y => if y = p then some (.frz { cls := .type "list", data := .seq items.toArray } (.lst (ns.map V.int))) else none
    have at1 : H p = some (.frz { cls := .type "list", data := .seq items.toArray } (.lst (ns.map V.int))) := if_pos rfl
    have off : ∀ y, y ≠ p → H y = none := fun y hy => if_neg hy
    refine ⟨H, ⟨fun y u e => ?_, fun y hy => ?_, fun _ => hk, fun y => ?_⟩, .inl (.inr ⟨_, at1⟩)⟩
    · by_cases hy : y = p
      · subst hy
        rw [at1] at e
        injection e with e
        subst e
        exact ⟨at', by rw [List.length_map]; exact few, items, _, rv, at'⟩
      · rw [off y hy] at e; cases e
    · exact Classical.byContradiction fun z => hy (off y z)
    · by_cases hy : y = p
      · subst hy; exact .inr ⟨_, _, at1⟩
      · exact .inl (off y hy)
  · have e := L.kin p o hk
    rw [at'] at e
    injection e with e
    subst e
    refine ⟨fun _ => none, ⟨(fun y u z => by cases z), fun y z => absurd rfl z, fun z => absurd rfl z, fun _ => .inl rfl⟩, .inr ⟨_, items.toArray, _, hk, rfl, rfl, rfl, by rw [List.size_toArray, il]; exact few, by simpa using rv⟩⟩
end
theorem dq_nums {K : PySem.W.Frag} {G : Hp} : ∀ ns : List Int, DqAll K G (ns.map V.int) (ns.map PyData.int)
  | [] => .nil
  | n :: ns => .cons (.int n) (dq_nums ns)
end TN
set_option Elab.async false
set_option linter.all false
set_option maxRecDepth 100000
set_option maxHeartbeats 2000000
set_option autoImplicit false
namespace TN
open PySem PySem.Spec PyProof.Rows L2
def semLetterOf (ds : List D) (Q : Sl → Prop) : Prop := ∃ (r : List Str) (x : Str), ds = [tupL r, .str x] ∧ GRow r ∧ x ∈ r ∧ Q (.sh (.bool true))
theorem signs_all : cutS SIGNS none (some ((26 : Nat) : Int)) = SIGNS := by decide +kernel
theorem signs_list : oList [.str SIGNS] = some ((alpha 26).map PyData.str) := by
  obtain ⟨z, e1, e2⟩ := alpha_cut (n := 26) (by omega)
  have : oSlice none (some (26 : Nat)) (.str SIGNS) = some (.str SIGNS) := by
    show (if SIGNS.length ≤ 100000 then some (PyData.str (cutS SIGNS none (some ((26 : Nat) : Int)))) else none) = _
    rw [if_pos (by decide +kernel), signs_all]
  rw [this] at e1
  injection e1 with e1
  injection e1 with e1
  rw [e1]; exact e2
theorem oLen_ns {ns : List Int} : oLen [.list (ns.map PyData.int)] = some (.int ns.length) := by show some (PyData.int (ns.map PyData.int).length) = _; rw [List.length_map]
end TN
set_option Elab.async false
set_option linter.all false
set_option maxRecDepth 100000
set_option maxHeartbeats 2000000
set_option autoImplicit false
namespace TN
open PySem PySem.Spec PyProof.Rows L2
def fOf (ks vs : List Str) (x : Str) : Str := vs.getD ((idxS x ks).getD 0) ""
theorem fOf_mem {ks vs : List Str} {x : Str} (e : ks.length = vs.length) (h : x ∈ ks) : fOf ks vs x ∈ vs := by
  obtain ⟨j, h1, h2⟩ := idxS_mem h
  unfold fOf
  rw [h1, Option.getD_some, getD_of (by omega)]
  exact List.getElem_mem _
theorem idxS_nd : ∀ {ks : List Str} {j : Nat}, ks.Nodup → (h : j < ks.length) → idxS ks[j] ks = some j
  | k :: ks, 0, nd, h => by unfold idxS; rw [List.getElem_cons_zero, if_pos rfl]
  | k :: ks, j + 1, nd, h => by
    rw [List.nodup_cons] at nd
    unfold idxS
    rw [List.getElem_cons_succ, if_neg (fun z => nd.1 (by rw [z]; exact List.getElem_mem _)), idxS_nd nd.2 (by simpa using h)]; rfl
theorem map_fOf {ks vs : List Str} (nd : ks.Nodup) (e : ks.length = vs.length) : ks.map (fOf ks vs) = vs := by
  apply List.ext_getElem
  · rw [List.length_map, e]
  · intro j h1 h2
    rw [List.getElem_map]
    unfold fOf
    rw [idxS_nd nd (by rw [List.length_map] at h1; exact h1), Option.getD_some, getD_of h2]
theorem fOf_inj {ks vs : List Str} (nd : ks.Nodup) (nv : vs.Nodup) (e : ks.length = vs.length) {x y : Str} (hx : x ∈ ks) (hy : y ∈ ks) (h : fOf ks vs x = fOf ks vs y) : x = y := by
  obtain ⟨i, h1, h2⟩ := idxS_mem hx
  obtain ⟨j, h3, h4⟩ := idxS_mem hy
  unfold fOf at h
  rw [h1, h3, Option.getD_some, Option.getD_some, getD_of (by omega), getD_of (by omega)] at h
  have := (List.getElem_inj nv).mp h
  subst this
  have a := (idxS_is h1).1
  have b := (idxS_is h3).1
  rw [a] at b
  injection b

theorem toF_map (f : Str → Str) {r : List Str} {p : Nat} (h : p < r.length) : toF (r.map f) p = (toF r p).map f := by
  unfold toF
  rw [getD_of (by rw [List.length_map]; exact h), getD_of h, List.getElem_map, ← List.map_take, ← List.map_drop, List.map_append, List.map_append]; rfl
theorem getD_map (f : Str → Str) {r : List Str} {p : Nat} (h : p < r.length) : (r.map f).getD p "" = f (r.getD p "") := by
  rw [getD_of (by rw [List.length_map]; exact h), getD_of h, List.getElem_map]
def Ev.ren (f : Str → Str) : Ev → Ev
  | .name x => .name (f x)
  | e => e
theorem idxS_map (f : Str → Str) {x : Str} : ∀ {r : List Str}, (∀ y ∈ r, f x = f y → x = y) → idxS (f x) (r.map f) = idxS x r
  | [], _ => rfl
  | y :: r, h => by
    rw [List.map_cons]
    unfold idxS
    by_cases e : y = x
    · rw [if_pos e, if_pos (by rw [e])]
    · rw [if_neg e, if_neg (fun z => e (h y List.mem_cons_self z.symm).symm), idxS_map f fun z hz => h z (List.mem_cons_of_mem _ hz)]
theorem Ev.at_ren (f : Str → Str) {r : List Str} {e : Ev} (inj : ∀ x ∈ r, ∀ y ∈ r, f x = f y → x = y) (h : e.ok r) : (e.ren f).at (r.map f) = e.at r := by
  cases e with
  | name x => show (idxS (f x) (r.map f)).getD 0 = _; rw [idxS_map f fun y hy => inj x h y hy]; rfl
  | _ => rfl
theorem runT_ren (f : Str → Str) : ∀ (es : List Ev) (r : List Str), (∀ x ∈ r, ∀ y ∈ r, f x = f y → x = y) → (∀ e ∈ es, e.ok r) → runT (r.map f) (es.map (Ev.ren f)) = ((runT r es).1.map f, (runT r es).2.map f)
  | [], r, _, _ => rfl
  | e :: es, r, inj, h => by
    have h0 := h e List.mem_cons_self
    have lt := Ev.at_lt h0
    have pm := toF_perm lt
    show ((runT (toF (r.map f) ((e.ren f).at (r.map f))) (es.map (Ev.ren f))).1, (r.map f).getD ((e.ren f).at (r.map f)) "" :: (runT (toF (r.map f) ((e.ren f).at (r.map f))) (es.map (Ev.ren f))).2) = _
    rw [Ev.at_ren f inj h0, toF_map f lt, getD_map f lt, runT_ren f es (toF r (e.at r)) (fun x hx y hy => inj x (pm.mem_iff.mp hx) y (pm.mem_iff.mp hy)) fun x hx => Ev.ok_perm pm.symm (h x (List.mem_cons_of_mem _ hx))]; rfl
theorem runT_app : ∀ (es fs : List Ev) (t : List Str), runT t (es ++ fs) = ((runT (runT t es).1 fs).1, (runT t es).2 ++ (runT (runT t es).1 fs).2)
  | [], fs, t => rfl
  | e :: es, fs, t => by
    show ((runT (toF t (e.at t)) (es ++ fs)).1, t.getD (e.at t) "" :: (runT (toF t (e.at t)) (es ++ fs)).2) = _
    rw [runT_app es fs]; rfl
theorem runH_app : ∀ (es fs : List Ev) (t : List Str), runH t (es ++ fs) = ((runH (runH t es).1 fs).1, (runH t es).2 ++ (runH (runH t es).1 fs).2)
  | [], fs, t => rfl
  | e :: es, fs, t => by
    show ((runH (takeAll t (e.takes t)).1 (es ++ fs)).1, (takeAll t (e.takes t)).2 ++ (runH (takeAll t (e.takes t)).1 (es ++ fs)).2) = _
    rw [runH_app es fs]
    rw [← List.append_assoc]; rfl

def front (x : Str) (r : List Str) : List Str := x :: r.filter fun y => decide (y ≠ x)
theorem toF_front {r : List Str} {p : Nat} (h : p < r.length) (nd : r.Nodup) : toF r p = front (r.getD p "") r := by
  have hx : r.getD p "" ∈ r := by rw [getD_of h]; exact List.getElem_mem _
  have e := toF_name hx nd
  have : (idxS (r.getD p "") r).getD 0 = p := by rw [getD_of h, idxS_nd nd h]; rfl
  rw [this] at e; exact e
def outS (f : Str → Str) : D → D
  | .str x => .str (f x)
  | d => d
end TN
set_option Elab.async false
set_option linter.all false
set_option maxRecDepth 100000
set_option maxHeartbeats 2000000
set_option autoImplicit false
namespace TN
open PySem PySem.Spec PyProof.Rows L2
section
variable {K : PySem.W.Frag} {bor : List Nat} {ta tb te : TE} {f g : FE} {A B : TDE}
def dCallF (sem : List D → List D → (Sl → List D → Prop) → Prop) (A : TDL) : TDE := fun ρ Q => A ρ fun xs ρ1 => sem xs [] fun r _ => ∃ d, r = .sh d ∧ Q d ρ1
def dLRev (f : FE) : TDL := fun ρ Q => ∃ xs, f ρ = some (.list xs) ∧ Q xs.reverse ρ
theorem ll_rev (h : LM K bor te f) : LL K bor (tRevX K te) (dLRev f) := fun {c G σ H ρ Qd Q} hc R ⟨xs, e, q⟩ k =>
  h hc R e fun v G1 H1 g1 p1 => by
    obtain ⟨a, vs, rfl, h1, h2⟩ := p1.list g1.s
    refine ⟨a, vs, rfl, .inl ⟨h1, fun l hl => ?_⟩⟩
    have R1 := R.grow g1
    exact k l _ _ G1 ρ _ g1.g (R1.grow (grow_own R1.sub hl)) (mine_new R1 hl) (dps_rev h2) q

def dLAdd (f g : FE) : TDL := fun ρ Q => ∃ xs ys, f ρ = some (.list xs) ∧ g ρ = some (.list ys) ∧ xs.length + ys.length ≤ 100000 ∧ Q (xs ++ ys) ρ
theorem ll_add (ha : LM K bor ta f) (hb : LM K bor tb g) : LL K bor (tOp (rAddU K) ta tb) (dLAdd f g) := fun {c G σ H ρ Qd Q} hc R ⟨xs, ys, e1, e2, hl, q⟩ k =>
  ha hc R e1 fun v G1 H1 g1 p1 => hb hc (R.grow g1) e2 fun w G2 H2 g2 p2 => by
    have p1 := p1.grow g2
    obtain ⟨x, vs, rfl, h1, h2⟩ := p1.list g2.s
    obtain ⟨y, ws, rfl, h3, h4⟩ := p2.list g2.s
    refine .inr (.inr (.inl ⟨x, y, vs, ws, rfl, rfl, h1, h3, by rw [dps_len h2, dps_len h4]; exact Nat.le_trans hl (by decide), fun p hp => ?_⟩))
    have R2 := R.grow (g1.trans g2)
    exact k p _ _ G2 ρ _ (g1.trans g2).g (R2.grow (grow_own R2.sub hp)) (mine_new R2 hp) (dps_app h2 h4) q

abbrev TDO := List Sl → (Option Int → List Sl → Prop) → Prop
def LOE (K : PySem.W.Frag) (bor : List Nat) (tH : TO) (t : TDO) : Prop :=
  ∀ ⦃c : C0⦄ ⦃G : Hp⦄ ⦃σ : L2.St⦄ ⦃H : Hp⦄ ⦃ρ : List Sl⦄ ⦃Qd : Option Int → List Sl → Prop⦄ ⦃Q : Option Int → Hp → Prop⦄, c.bor = bor → Rel K c G σ H ρ → t ρ Qd →
    (∀ o H' G' ρ', Same G G' → Rel K c G' σ H' ρ' → Qd o ρ' → Q o H') → tH σ H Q
def dNo : TDO := fun ρ Q => Q none ρ
def dEnd (A : TDE) : TDO := fun ρ Q => A ρ fun d ρ1 => ∃ i, d = .int i ∧ Q (some i) ρ1
theorem loe_none : LOE K bor tNoPart dNo := fun {c G σ H ρ Qd Q} hc R q k => k none H G ρ (Same.refl _) R q
theorem loe_some (h : LE K bor ta A) : LOE K bor (tPart ta) (dEnd A) := fun {c G σ H ρ Qd Q} hc R q k =>
  h hc R q fun v H1 G1 ρ1 d s1 R1 p1 ⟨i, e, q1⟩ => by
    subst e
    cases p1
    exact ⟨i, rfl, k (some i) H1 G1 ρ1 s1 R1 q1⟩
def dSliceE (A : TDE) (L U : TDO) : TDE := fun ρ Q => A ρ fun d ρ1 => L ρ1 fun l ρ2 => U ρ2 fun h ρ3 => ∃ z, oSlice l h d = some z ∧ Q z ρ3
def dLSlice (A : TDE) (L U : TDO) : TDL := fun ρ Q => A ρ fun d ρ1 => L ρ1 fun l ρ2 => U ρ2 fun h ρ3 => ∃ xs, d = .list xs ∧ Q (cutD xs l h) ρ3
theorem ll_sliceE {tl th : TO} {L U : TDO} (h : LE K bor ta A) (hl : LOE K bor tl L) (hh : LOE K bor th U) : LL K bor (tSl (rSlU K) ta tl th) (dLSlice A L U) := fun {c G σ H ρ Qd Q} hc R q k =>
  h hc R q fun v H1 G1 ρ1 d s1 R1 p1 q1 => hl hc R1 q1 fun l H2 G2 ρ2 s2 R2 q2 => hh hc R2 q2 fun u H3 G3 ρ3 s3 R3 ⟨xs, e, q3⟩ => by
    subst e
    cases dpS (s2.trans s3) p1 with
    | @lst a vs _ h1 h2 =>
      refine .inl ⟨a, vs, rfl, rdL (rdS R3.sub h1), fun p hp => ?_⟩
      exact k p _ _ G3 ρ3 _ (s1.trans (s2.trans s3)) (R3.grow (grow_own R3.sub hp)) (mine_new R3 hp) (dq_cut h2 l u) q3

def dLSlP (f : FE) (lo hi : FO) : TDL := fun ρ Q => ∃ xs l h, f ρ = some (.list xs) ∧ lo ρ = some l ∧ hi ρ = some h ∧ Q (cutD xs l h) ρ
theorem ll_slP {tl th : TO} {lo hi : FO} (h : LM K bor ta f) (hl : LO K bor tl lo) (hh : LO K bor th hi) : LL K bor (tSl (rSlU K) ta tl th) (dLSlP f lo hi) := fun {c G σ H ρ Qd Q} hc R ⟨xs, l, u, e1, e2, e3, q⟩ k =>
  h hc R e1 fun v G1 H1 g1 p1 => hl hc (R.grow g1) e2 fun G2 H2 g2 => hh hc (R.grow (g1.trans g2)) e3 fun G3 H3 g3 => by
    obtain ⟨a, vs, rfl, h1, h2⟩ := (p1.grow (g2.trans g3)).list g3.s
    refine .inl ⟨a, vs, rfl, rdL h1, fun p hp => ?_⟩
    have gg := g1.trans (g2.trans g3)
    have R3 := R.grow gg
    exact k p _ _ G3 ρ _ gg.g (R3.grow (grow_own R3.sub hp)) (mine_new R3 hp) (dq_cut h2 l u) q

def isNoneD : D → Bool
  | .none => true
  | _ => false
def oIsNone (neg : Bool) : F2 := fun d e => match e with
  | .none => some (.bool (if neg then !isNoneD d else isNoneD d))
  | _ => none
theorem isNone_v {G H : Hp} {v : V} {d : D} (p : DpM K G H v d) : decide (v = V.non) = isNoneD d := by
  rcases p with p | ⟨_, _, _, rfl, rfl, _⟩
  · cases p <;> simp [isNoneD]
  · simp [isNoneD]
theorem non_v {G H : Hp} {v : V} (p : DpM K G H v .none) : v = .non := by
  rcases p with p | ⟨_, _, _, _, e, _⟩
  · cases p; rfl
  · cases e
theorem rb_isN : RB K rIsN (oIsNone false) := fun {G H v w d e z Q} s p1 p2 h k => by
  unfold oIsNone at h
  split at h
  · injection h with h; subst h
    refine ⟨non_v p2, ?_⟩
    rw [isNone_v p1]
    exact k _ G H (.refl s) (.bl _)
  · cases h
theorem rb_notN : RB K rNotN (oIsNone true) := fun {G H v w d e z Q} s p1 p2 h k => by
  unfold oIsNone at h
  split at h
  · injection h with h; subst h
    refine ⟨non_v p2, ?_⟩
    rw [isNone_v p1]
    exact k _ G H (.refl s) (.bl _)
  · cases h
end
end TN
set_option Elab.async false
set_option linter.all false
set_option maxRecDepth 100000
set_option maxHeartbeats 1000000
set_option autoImplicit false
namespace TN
open PySem PySem.Spec PyProof.Rows L2
section
variable {P : Program} {w : World} {K : PySem.W.Frag} {mg : Str → Option Value} {base : Heap} {k : Nat} {f : Addr} {fd : FuncData} {ps : List Str}
def startF (n : Nat) (ds : List D) (fv : Addr) : List Sl := ds.map .sh ++ .fn fv :: List.replicate (n - (ds.length + 1)) .no
end
structure HasAt (P : Program) (w : World) (K : PySem.W.Frag) (mg : Str → Option Value) (base : Heap) (f : Addr) (k : Nat) (ps : List Str) (sp : Sp) : Prop where
  ex : ∃ fd, FnG P w K mg base CX0 k f fd ps sp ∧ PySem.W.keepIn K (.ref f) = true ∧ Binds K fd ps []
theorem HasAt.up {P : Program} {w : World} {K : PySem.W.Frag} {mg : Str → Option Value} {base : Heap} {f : Addr} {j k : Nat} {ps : List Str} {sp : Sp} (h : HasAt P w K mg base f j ps sp) (le : j ≤ k) : HasAt P w K mg base f k ps sp := by
  obtain ⟨fd, a, c, d⟩ := h.ex
  exact ⟨fd, a.up le, c, d⟩
section
variable {X : Cx} {k i : Nat} {f : Addr} {fd : FuncData} {ps : List Str} {sp : Sp} {x : Str} {p pos : Pos} {e : Expr} {es : List Expr} {t : TA}
end
section
variable {K : PySem.W.Frag} {bor : List Nat} {ta : TA} {te : TE}
def dCallV (i : Nat) (f : Addr) (sem : List D → (Sl → Prop) → Prop) (A : TDA) : TDE := fun ρ Q => ρ[i]? = some (.fn f) ∧ A ρ fun ds ρ1 => sem ds fun r => ∃ d, r = .sh d ∧ Q d ρ1
end
end TN
set_option Elab.async false
set_option linter.all false
set_option maxRecDepth 100000
set_option maxHeartbeats 2000000
set_option autoImplicit false
namespace TN
open PySem PySem.Spec PyProof.Rows L2
structure Tk (X : List Str → Nat → List Str) : Prop where
  pm : ∀ {r : List Str} {p : Nat}, p < r.length → (X r p).Perm r
variable {X : List Str → Nat → List Str}
end TN
namespace TN
open PySem PySem.Spec PyProof.Rows L2
def semUnlikeL (ds : List D) (Q : Sl → Prop) : Prop := ∃ r, ds = [tupL r] ∧ GRow r ∧ Q (.sh (.bool true))
end TN
namespace TN
open PySem PySem.Spec PyProof.Rows L2
theorem comp_map {α : Type} {j : Nat} {vs : List Nat} {A : TDE} {Q : List D → List Sl → Prop} {ρ0 : List Sl} (e o : α → D) (I : α → Prop)
    (own : (vs.all fun v => plainAt v ρ0) = true) (back : ∀ d, backD ρ0 ((wipeD ρ0 vs).set j (.sh d)) vs = ρ0)
    (turn : ∀ x (R : D → List Sl → Prop), I x → R (o x) ((wipeD ρ0 vs).set j (.sh (e x))) → A ((wipeD ρ0 vs).set j (.sh (e x))) R) :
    ∀ (xs : List α) (acc : List D), (∀ x ∈ xs, I x) → acc.length + xs.length ≤ 100000 → Q (acc ++ xs.map o) ρ0 → compD j vs dYes A Q (xs.map e) acc ρ0
  | [], acc, _, _, q => by simpa [compD] using q
  | x :: xs, acc, hI, few, q => by
    rw [List.length_cons] at few
    refine ⟨own, fun _ => ?_, (fun z => by cases z)⟩
    refine turn x _ (hI x List.mem_cons_self) ⟨by omega, ?_⟩
    rw [back]
    refine comp_map e o I own back turn xs (acc ++ [o x]) (fun y hy => hI y (List.mem_cons_of_mem _ hy)) (by rw [List.length_append, List.length_singleton]; omega) ?_
    rw [List.append_assoc]
    exact q
def Ev.isN : Ev → Bool
  | .name _ => true
  | _ => false
theorem isN_eq (e : Ev) : ∃ w, oIx e.d (.int 0) = some (.str w) ∧ oEq (.str w) (.str (Str.ofString "name")) = some (.bool e.isN) := by
  cases e with
  | name x => exact ⟨_, rfl, by (simp only [Ev.d, TN.ix0, TN.ix1, TN.ix2, TN.ixl0, TN.ixl1, TN.ixl2, TN.ixm2, TN.ixm3, TN.len2, TN.len3, TN.neg1, TN.ty_tup, TN.ty_lst, TN.ty_str, TN.ty_int, TN.oLen_tupL, TN.oLen_lstL, TN.oU_int, TN.oEq_int, TN.oNe_int, decide_true, Bool.not_true, Bool.not_false, reduceCtorEq, Option.some.injEq, PyData.int.injEq, PyData.str.injEq, PyData.bool.injEq, PyData.list.injEq, PyData.tuple.injEq, exists_eq_left', TN.imp_ff, TN.imp_tf, TN.imp_tt, true_and, and_true, forall_const, true_implies, false_implies, TN.w_place_place, TN.n_place_place, TN.w_place_name, TN.n_place_name, TN.w_place_lost, TN.n_place_lost, TN.w_place_twice, TN.n_place_twice, TN.w_place_as, TN.n_place_as, TN.w_name_place, TN.n_name_place, TN.w_name_name, TN.n_name_name, TN.w_name_lost, TN.n_name_lost, TN.w_name_twice, TN.n_name_twice, TN.w_name_as, TN.n_name_as, TN.w_lost_place, TN.n_lost_place, TN.w_lost_name, TN.n_lost_name, TN.w_lost_lost, TN.n_lost_lost, TN.w_lost_twice, TN.n_lost_twice, TN.w_lost_as, TN.n_lost_as, TN.w_twice_place, TN.n_twice_place, TN.w_twice_name, TN.n_twice_name, TN.w_twice_lost, TN.n_twice_lost, TN.w_twice_twice, TN.n_twice_twice, TN.w_twice_as, TN.n_twice_as, TN.w_as_place, TN.n_as_place, TN.w_as_name, TN.n_as_name, TN.w_as_lost, TN.n_as_lost, TN.w_as_twice, TN.n_as_twice, TN.w_as_as, TN.n_as_as]); rfl⟩
  | _ => exact ⟨_, rfl, by (simp only [Ev.d, TN.ix0, TN.ix1, TN.ix2, TN.ixl0, TN.ixl1, TN.ixl2, TN.ixm2, TN.ixm3, TN.len2, TN.len3, TN.neg1, TN.ty_tup, TN.ty_lst, TN.ty_str, TN.ty_int, TN.oLen_tupL, TN.oLen_lstL, TN.oU_int, TN.oEq_int, TN.oNe_int, decide_true, Bool.not_true, Bool.not_false, reduceCtorEq, Option.some.injEq, PyData.int.injEq, PyData.str.injEq, PyData.bool.injEq, PyData.list.injEq, PyData.tuple.injEq, exists_eq_left', TN.imp_ff, TN.imp_tf, TN.imp_tt, true_and, and_true, forall_const, true_implies, false_implies, TN.w_place_place, TN.n_place_place, TN.w_place_name, TN.n_place_name, TN.w_place_lost, TN.n_place_lost, TN.w_place_twice, TN.n_place_twice, TN.w_place_as, TN.n_place_as, TN.w_name_place, TN.n_name_place, TN.w_name_name, TN.n_name_name, TN.w_name_lost, TN.n_name_lost, TN.w_name_twice, TN.n_name_twice, TN.w_name_as, TN.n_name_as, TN.w_lost_place, TN.n_lost_place, TN.w_lost_name, TN.n_lost_name, TN.w_lost_lost, TN.n_lost_lost, TN.w_lost_twice, TN.n_lost_twice, TN.w_lost_as, TN.n_lost_as, TN.w_twice_place, TN.n_twice_place, TN.w_twice_name, TN.n_twice_name, TN.w_twice_lost, TN.n_twice_lost, TN.w_twice_twice, TN.n_twice_twice, TN.w_twice_as, TN.n_twice_as, TN.w_as_place, TN.n_as_place, TN.w_as_name, TN.n_as_name, TN.w_as_lost, TN.n_as_lost, TN.w_as_twice, TN.n_as_twice, TN.w_as_as, TN.n_as_as]); rfl⟩
end TN
set_option Elab.async false
set_option linter.all false
set_option maxRecDepth 100000
set_option maxHeartbeats 2000000
set_option autoImplicit false
namespace TN
open PySem PySem.Spec PyProof.Rows L2
def semCell (ds : List D) (Q : Sl → Prop) : Prop := ∃ (ns : List Int) (k : Nat), ds = [.list (ns.map PyData.int), .int k] ∧ ∀ c : Int, Q (.sh (.int c))
def semOwnBag (xs ds : List D) (Q : Sl → List D → Prop) : Prop := ∃ n : Int, Spl n xs ∧ n + 1000000 ≤ big ∧ ds = [] ∧ ∀ ys, Q (.sh (.bool true)) ys
theorem oPow5 {x : Int} (h0 : 0 ≤ x) (h1 : x < 1000000000000000000000000000000000000000000) : oPow (.int x) (.int 5) = some (.int (x ^ 5)) :=
  if_pos ⟨by omega, by omega, Nat.lt_of_lt_of_le (show x.natAbs < 1000000000000000000000000000000000000000000 by omega) (by decide +kernel)⟩

inductive AlkD : Nat → D → Prop
  | none {k : Nat} : AlkD k .none
  | int {k : Nat} (i : Int) : AlkD k (.int i)
  | bl {k : Nat} (i : Bool) : AlkD k (.bool i)
  | str {k : Nat} {x : Str} (h : okS x) : AlkD k (.str x)
  | list {k : Nat} {xs : List D} (h : ∀ x ∈ xs, AlkD k x) (few : xs.length ≤ 10000) : AlkD (k + 1) (.list xs)
  | tuple {k : Nat} {xs : List D} (h : ∀ x ∈ xs, AlkD k x) (few : xs.length ≤ 10000) : AlkD (k + 1) (.tuple xs)
theorem AlkD.up {k : Nat} {d : D} (h : AlkD k d) : ∀ {m : Nat}, k ≤ m → AlkD m d := by
  induction h with
  | none => intro m _; exact .none
  | int i => intro m _; exact .int i
  | bl i => intro m _; exact .bl i
  | str h => intro m _; exact .str h
  | list h few ih => intro m hm; cases m with
    | zero => omega
    | succ m => exact .list (fun x hx => ih x hx (by omega)) few
  | tuple h few ih => intro m hm; cases m with
    | zero => omega
    | succ m => exact .tuple (fun x hx => ih x hx (by omega)) few
theorem shaped_bl (a : Bool) : SeqAt.shaped (.bool a) = true := by simp [SeqAt.shaped, PyData.canLay0, PyData.depth]
theorem oNe_bl {a b : Bool} : oNe (.bool a) (.bool b) = some (.bool (!decide (a = b))) := by
  unfold oNe
  rw [if_pos ⟨shaped_bl a, shaped_bl b⟩]
  cases a <;> cases b <;> simp [PyData.eqv]
theorem oSlL_from {r : List Str} {p : Nat} : oSlice (some p) none (lstL r) = some (lstL (r.drop p)) := by
  show some (PyData.list (cutD _ _ _)) = _; rw [cut_from, ← List.map_drop]

def semNeedLetters (ds : List D) (Q : Sl → Prop) : Prop := ∃ r l : List Str, ds = [tupL r, lstL l] ∧ GRow r ∧ (∀ x ∈ l, x ∈ r) ∧ l.length ≤ 1000 ∧ Q (.sh .none)
end TN
set_option Elab.async false
set_option linter.all false
set_option maxRecDepth 100000
set_option maxHeartbeats 2000000
set_option autoImplicit false
namespace TN
open PySem PySem.Spec PyProof.Rows L2
theorem oEq_lstL {a b : List Str} (ha : ∀ x ∈ a, okS x) (hb : ∀ x ∈ b, okS x) : oEq (.list (a.map PyData.str)) (.list (b.map PyData.str)) = some (.bool (decide (a = b))) := by
  rw [oEq_is (fine_lstL ha) (fine_lstL hb)]
  simp only [PyData.list.injEq, map_str_inj]
end TN
set_option Elab.async false
set_option linter.all false
set_option maxRecDepth 100000
set_option maxHeartbeats 4000000
set_option autoImplicit false
namespace TN
open PySem PySem.Spec PyProof.Rows L2
section
variable {prog : Program} {w : World} {z TI TO i1 i2 N : Addr} {fp1 fp2 : List Addr} {n1 n2 n : Nat} {P1 P2 : Nat → Value → Prop} {St1 St2 : Nat → Heap → Prop} {h0 : Heap}
end
section
variable {X : Cx} {pins : List (Addr × Obj)} {σ : L2.St} {H : Hp} {s : Shared}
structure SrcB2 (prog : Program) (w : World) (h : Heap) (u : Value) (n : Nat) (its : List Value) : Prop where
  ex : ∃ (a : Addr) (o o' : Obj) (Hc : Heap → Prop) (St : Addr → Nat → Heap → Prop), Begins u o Hc ∧ Hc h ∧ h.get? a = some o' ∧
    (∀ it, h.objs.size ≤ it → ∀ A : Around, A.handled = none → Draws prog w A it [it, a] n (fun i v => its.toArray[i]? = some v) (St it)) ∧
    (∀ it h', (∀ b o, h.get? b = some o → h'.get? b = some o) → h'.get? it = some o → St it 0 h')
end
section
variable {X : Cx} {e1 e2 : Expr} {p p2 pos pos2 : Pos} {ta : TA}
end
end TN
set_option Elab.async false
set_option linter.all false
set_option maxRecDepth 100000
set_option maxHeartbeats 1000000
set_option autoImplicit false
namespace TN
open PySem PySem.Spec PyProof.Rows L2
theorem wipe_set {σ : L2.St} {vs : List Nat} {j : Nat} {x : Option V} (hj : j ∈ vs) : wipe (σ.set j x) vs = wipe σ vs := by
  apply List.ext_getElem?
  intro i
  rw [wipe_get, wipe_get, List.length_set]
  by_cases hi : i ∈ vs
  · rw [if_pos hi, if_pos hi]
  · rw [if_neg hi, if_neg hi, List.getElem?_set_ne (fun z => by subst z; exact hi hj)]
theorem wipe_wipe {σ : L2.St} {vs : List Nat} : wipe (wipe σ vs) vs = wipe σ vs := by
  apply List.ext_getElem?
  intro i
  by_cases hi : i ∈ vs
  · simp only [wipe_get, wipe_length, if_pos hi]
  · simp only [wipe_get, if_neg hi]

def compP (j1 j2 : Nat) (vs : List Nat) (C : TDT) (A : TDE) (Q : List D → List Sl → Prop) : List D → List D → List Sl → Prop
  | [], acc, ρ => Q acc ρ
  | d :: ds, acc, ρ => ∃ a b, d = .tuple [a, b] ∧ (vs.all fun v => plainAt v ρ) = true ∧ C (((wipeD ρ vs).set j1 (.sh a)).set j2 (.sh b)) fun t ρ1 =>
      (t = true → A ρ1 fun y ρ2 => acc.length < 100000 ∧ compP j1 j2 vs C A Q ds (acc ++ [y]) (backD ρ ρ2 vs)) ∧ (t = false → compP j1 j2 vs C A Q ds acc (backD ρ ρ1 vs))
abbrev gPair (K : PySem.W.Frag) (j1 j2 : Nat) : TG := gTup K 2 (gCons (gName j1) (gCons (gName j2) gNil))
section
variable {K : PySem.W.Frag} {bor : List Nat} {tt : TT} {te : TE} {C : TDT} {A : TDE}
theorem MineO.put {c : C0} {G0 : Hp} {σ : L2.St} {H : Hp} {ρ : List Sl} {L : Addr} {o : HO} {j : Nat} {x : V} {d : D} (mw : MineO c G0 σ H ρ L o) : MineO c G0 (σ.set j (some x)) H (ρ.set j (.sh d)) L o := mineO_set mw fun _ z => z
theorem Mine.put {c : C0} {G0 : Hp} {σ : L2.St} {H : Hp} {ρ : List Sl} {L : Addr} {ws : List V} {j : Nat} {x : V} {d : D} (mw : Mine c G0 σ H ρ L ws) : Mine c G0 (σ.set j (some x)) H (ρ.set j (.sh d)) L ws := mineO_set mw fun _ z => z
theorem comp_turnP {c : C0} {G0 : Hp} {σ : L2.St} {H : Hp} {ρ : List Sl} {j1 j2 : Nat} {vs : List Nat} {Qd : List D → List Sl → Prop} {d : D} {ds acc : List D} {x : V} {L : Addr} {ws : List V} {Nx : Hp → Prop}
    (hc : c.bor = bor) (hj1 : j1 ∈ vs) (hj2 : j2 ∈ vs) (hv : ∀ v ∈ vs, v ∉ bor) (ht : LT K bor tt C) (he : LE K bor te A) (R : Rel K c G0 σ H ρ) (m : Mine c G0 σ H ρ L ws) (pa : DqAll K G0 ws acc) (px : Dq K G0 x d)
    (q : compP j1 j2 vs C A Qd (d :: ds) acc ρ)
    (next : ∀ G' H' ρ' acc' ws', Same G0 G' → Rel K c G' σ H' ρ' → Mine c G' σ H' ρ' L ws' → DqAll K G' ws' acc' → compP j1 j2 vs C A Qd ds acc' ρ' → Nx H') :
    gPair K j1 j2 x (wipe σ vs) H fun σ2 H2 => wipe σ2 vs = wipe σ vs ∧ tt σ2 H2 fun b H3 =>
      if b = true then te σ2 H3 fun y H4 => ∃ acc, H4 L = some (.lst acc) ∧ acc.length < sizeLine ∧ Nx (upd H4 L (.lst (acc ++ [y]))) else Nx H3 := by
  subst hc
  obtain ⟨da, db, rfl, hn, q⟩ := q
  cases px with
  | @tup ax us _ sq al =>
    cases al with
    | @cons x1 _ _ _ p1 al =>
      cases al with
      | @cons x2 _ _ _ p2 al =>
        cases al
        refine ⟨ax, [x1, x2], rfl, (tupS R.sub sq).sq, rfl, x1, [x2], rfl, x2, [], rfl, rfl, ?_⟩
        have hw : wipe (((wipe σ vs).set j1 (some x1)).set j2 (some x2)) vs = wipe σ vs := by rw [wipe_set hj2, wipe_set hj1, wipe_wipe]
        refine ⟨hw, ?_⟩
        have nb := m.nb R
        have Rw := R.wiped (vs := vs) hv
        have mw : Mine c G0 (wipe σ vs) H (wipeD ρ vs) L ws := mineO_wipe m
        have Rx : Rel K c G0 (((wipe σ vs).set j1 (some x1)).set j2 (some x2)) H (((wipeD ρ vs).set j1 (.sh da)).set j2 (.sh db)) := (Rw.store (fun a z => hv j1 hj1 (R.bs _ _ z)) p1).store (fun a z => hv j2 hj2 (R.bs _ _ z)) p2
        have mx : Mine c G0 (((wipe σ vs).set j1 (some x1)).set j2 (some x2)) H (((wipeD ρ vs).set j1 (.sh da)).set j2 (.sh db)) L ws := mw.put.put
        have Rg := Rx.guard mx
        refine ht (c := c.aside L ws) rfl Rg q fun b H3 G3 ρ3 s3 R3 ⟨q1, q2⟩ => ?_
        cases b with
        | true =>
          refine iteT (he (c := c.aside L ws) rfl R3 (q1 rfl) fun y H4 G4 ρ4 yd s4 R4 py ⟨hz, q4⟩ => ?_)
          obtain ⟨R5, m5⟩ := R4.unguard m.2.2.1 nb
          have s04 : Same G0 G4 := s3.trans s4
          refine ⟨ws, m5.1, sz5 (by rw [dps_len pa]; exact hz), ?_⟩
          have R6 := R.unwiped R5 s04 hw hn hv
          have m6 := mine_back m5 R hw hn
          obtain ⟨R7, m7⟩ := R6.poke (vs := ws ++ [y]) m6
          exact next G4 _ _ _ _ s04 R7 m7 (dps_app (dpsS s04 pa) (.cons py .nil)) q4
        | false =>
          refine iteF ?_
          obtain ⟨R5, m5⟩ := R3.unguard m.2.2.1 nb
          have R6 := R.unwiped R5 s3 hw hn hv
          have m6 := mine_back m5 R hw hn
          exact next G3 H3 _ _ _ s3 R6 m6 (dpsS s3 pa) (q2 rfl)
def dCompP (j1 j2 : Nat) (vs : List Nat) (S : TDE) (C : TDT) (A : TDE) : TDL := fun ρ Q => S ρ fun d ρ1 => ∃ ds, d = .list ds ∧ compP j1 j2 vs C A Q ds [] ρ1
theorem ll_compP {tl : TE} {S : TDE} {j1 j2 : Nat} {vs : List Nat} (hj1 : j1 ∈ vs) (hj2 : j2 ∈ vs) (hv : ∀ v ∈ vs, v ∉ bor) (hs : LE K bor tl S) (ht : LT K bor tt C) (he : LE K bor te A) : LL K bor (tLc (iList K tl) (gPair K j1 j2) tt te vs) (dCompP j1 j2 vs S C A) :=
  fun {c G σ H ρ Qd Q} hc R q k => hs hc R q fun v H1 G1 ρ1 d s1 R1 p1 ⟨ds, e, q1⟩ => by
    subst e
    cases p1 with
    | @lst a xs _ h1 h2 =>
      refine ⟨a, rfl, ⟨xs, rdL (rdS R1.sub h1)⟩, fun L hL => ?_⟩
      have m0 := mine_new (vs := []) R1 hL
      have R0 := R1.grow (grow_own (o := .lst []) R1.sub hL)
      refine lc_list (K := K) (a := a) (xs := xs) (fun i H' => ∃ G' ρ' acc ws, Same G1 G' ∧ Rel K c G' σ H' ρ' ∧ Mine c G' σ H' ρ' L ws ∧ DqAll K G' ws acc ∧ compP j1 j2 vs C A Qd (ds.drop i) acc ρ') ⟨G1, ρ1, [], [], Same.refl _, R0, m0, .nil, q1⟩ ?_ ?_ ?_
      · rintro i H' _ ⟨G', ρ', acc, ws, s, R', _⟩
        exact rdL (rdS (s.trans R'.sub) h1)
      · rintro i x H' hx ⟨G', ρ', acc, ws, s, R', m', pa, q'⟩
        obtain ⟨d, hd, p⟩ := dps_get h2 hx
        have hi : i < ds.length := (List.getElem?_eq_some_iff.mp hd).1
        have ed : ds.drop i = d :: ds.drop (i + 1) := by
          rw [List.drop_eq_getElem_cons hi]
          have := (List.getElem?_eq_some_iff.mp hd).2
          rw [this]
        rw [ed] at q'
        exact comp_turnP hc hj1 hj2 hv ht he R' m' pa (dpS s p) q' fun G2 H2 ρ2 acc2 ws2 s2 R2 m2 pa2 q2 => ⟨G2, ρ2, acc2, ws2, s.trans s2, R2, m2, pa2, q2⟩
      · rintro H' ⟨G', ρ', acc, ws, s, R', m', pa, q'⟩
        rw [dps_len h2, List.drop_length] at q'
        exact k L ws H' G' ρ' acc (s1.trans s) R' m' pa q'
end
end TN
set_option Elab.async false
set_option linter.all false
set_option maxRecDepth 100000
set_option maxHeartbeats 2000000
set_option autoImplicit false
namespace TN
open PySem PySem.Spec PyProof.Rows L2
section
variable {X : Cx}
end
def minS (xs : List Str) : Option Str := (sortS xs).head?
end TN
set_option Elab.async false
set_option linter.all false
set_option maxRecDepth 100000
set_option maxHeartbeats 2000000
set_option autoImplicit false
namespace TN
open PySem PySem.Spec PyProof.Rows L2
theorem sortS_nd {ks : List Str} (nd : ks.Nodup) : (sortS ks).Nodup := (sortS_perm ks).nodup_iff.mpr nd
structure RG (ks : List Str) (f : Str → Str) : Prop where
  ne : ks ≠ []
  few : ks.length ≤ 16
  nd : ks.Nodup
  isl : ∀ x ∈ ks, isL x
  mem : ∀ x ∈ ks, f x ∈ ks
  inj : ∀ x ∈ ks, ∀ y ∈ ks, f x = f y → x = y
theorem RG.of {t h : List Str} (gp : GPair t h) : RG t (fOf t h) := ⟨gp.gt.ne, gp.gt.few, gp.gt.nd, gp.gt.let', fun x hx => gp.pm.mem_iff.mpr (fOf_mem gp.pm.length_eq hx), fun x hx y hy e => fOf_inj gp.gt.nd gp.gh.nd gp.pm.length_eq hx hy e⟩
def growR (f : Str → Str) (x : Str) : Nat → List Str → List Str
  | 0, r => r
  | n + 1, r => if f (r.getLastD x) = x then r else growR f x n (r ++ [f (r.getLastD x)])
def ringL (f : Str → Str) (n : Nat) (x : Str) : List Str := growR f x (n - 1) [x]
structure Ch (ks : List Str) (f : Str → Str) (x : Str) (r : List Str) : Prop where
  hd : r.head? = some x
  nd : r.Nodup
  mem : ∀ y ∈ r, y ∈ ks
  step : ∀ i (h : i + 1 < r.length), r[i + 1] = f (r[i]'(by omega))
theorem Ch.ne {ks : List Str} {f : Str → Str} {x : Str} {r : List Str} (c : Ch ks f x r) : 0 < r.length := List.length_pos_iff.mpr fun z => by have := c.hd; rw [z] at this; cases this
theorem last_is {r : List Str} {x : Str} (h : 0 < r.length) : r.getLastD x = r[r.length - 1] := by
  rw [List.getLastD_eq_getLast?, List.getLast?_eq_getElem?, List.getElem?_eq_getElem (by omega)]; rfl
theorem Ch.last {ks : List Str} {f : Str → Str} {x : Str} {r : List Str} (c : Ch ks f x r) : r.getLastD x ∈ ks := by
  rw [last_is c.ne]; exact c.mem _ (List.getElem_mem _)
theorem Ch.next {ks : List Str} {f : Str → Str} {x : Str} {r : List Str} (g : RG ks f) (c : Ch ks f x r) (h : f (r.getLastD x) ≠ x) : f (r.getLastD x) ∉ r := by
  intro z
  obtain ⟨j, hj, e⟩ := List.mem_iff_getElem.mp z
  have c0 := c.ne
  cases j with
  | zero =>
    refine h ?_
    rw [← e]
    have := c.hd
    rw [List.head?_eq_getElem?, List.getElem?_eq_getElem (by omega)] at this
    injection this
  | succ i =>
    rw [c.step i hj] at e
    have q := g.inj _ (c.mem _ (List.getElem_mem (by omega))) _ c.last e
    rw [last_is c0] at q
    have := (List.getElem_inj c.nd).mp q
    omega
theorem Ch.grow {ks : List Str} {f : Str → Str} {x : Str} {r : List Str} (g : RG ks f) (c : Ch ks f x r) (h : f (r.getLastD x) ≠ x) : Ch ks f x (r ++ [f (r.getLastD x)]) where
  hd := by rw [List.head?_append, c.hd]; rfl
  nd := by
    rw [List.nodup_append]
    refine ⟨c.nd, by simp, fun a ha b hb => ?_⟩
    rw [List.mem_singleton.mp hb]
    exact fun z => c.next g h (z ▸ ha)
  mem := fun y hy => by
    rcases List.mem_append.mp hy with a | a
    · exact c.mem y a
    · rw [List.mem_singleton.mp a]; exact g.mem _ c.last
  step := fun i hi => by
    have c0 := c.ne
    rw [List.length_append, List.length_singleton] at hi
    by_cases hl : i + 1 < r.length
    · rw [List.getElem_append_left hl, List.getElem_append_left (by omega)]; exact c.step i hl
    · have : i + 1 = r.length := by omega
      rw [List.getElem_append_right (by omega), List.getElem_append_left (by omega)]
      simp only [List.getElem_singleton]
      rw [last_is c0]
      congr 1
      congr 1
      omega
theorem Ch.few {ks : List Str} {f : Str → Str} {x : Str} {r : List Str} (c : Ch ks f x r) : r.length ≤ ks.length := c.nd.length_le_of_subset (fun y hy => c.mem y hy)
theorem Ch.full {ks : List Str} {f : Str → Str} {x : Str} {r : List Str} (g : RG ks f) (c : Ch ks f x r) (h : r.length = ks.length) : f (r.getLastD x) = x := Classical.byContradiction fun z => by
  have := (c.grow g z).few
  rw [List.length_append, List.length_singleton] at this
  omega
theorem Ch.one {ks : List Str} {f : Str → Str} {x : Str} (h : x ∈ ks) : Ch ks f x [x] := ⟨rfl, by simp, fun y hy => by rw [List.mem_singleton.mp hy]; exact h, fun i hi => by simp at hi⟩
theorem growR_ok {ks : List Str} {f : Str → Str} {x : Str} (g : RG ks f) : ∀ (k : Nat) (r : List Str), Ch ks f x r → Ch ks f x (growR f x k r)
  | 0, r, c => c
  | k + 1, r, c => by
    show Ch ks f x (if f (r.getLastD x) = x then r else growR f x k (r ++ [f (r.getLastD x)]))
    split
    · exact c
    · rename_i h; exact growR_ok g k _ (c.grow g h)
theorem ringL_ok {ks : List Str} {f : Str → Str} {x : Str} (g : RG ks f) (h : x ∈ ks) (n : Nat) : Ch ks f x (ringL f n x) := growR_ok g _ _ (.one h)
def ringOk (r : List Str) : Bool := decide (1 < r.length) && decide (r.head? = minS r)
def ringsL (f : Str → Str) (n : Nat) (ls : List Str) : List (List Str) := (ls.map (ringL f n)).filter ringOk
theorem comp_fil {α : Type} {j : Nat} {vs : List Nat} {C : TDT} {A : TDE} {Q : List D → List Sl → Prop} {ρ0 : List Sl} (e o : α → D) (p : α → Bool) (I : α → Prop)
    (own : (vs.all fun v => plainAt v ρ0) = true) (back : ∀ d, backD ρ0 ((wipeD ρ0 vs).set j (.sh d)) vs = ρ0)
    (test : ∀ x (R : Bool → List Sl → Prop), I x → R (p x) ((wipeD ρ0 vs).set j (.sh (e x))) → C ((wipeD ρ0 vs).set j (.sh (e x))) R)
    (turn : ∀ x (R : D → List Sl → Prop), I x → R (o x) ((wipeD ρ0 vs).set j (.sh (e x))) → A ((wipeD ρ0 vs).set j (.sh (e x))) R) :
    ∀ (xs : List α) (acc : List D), (∀ x ∈ xs, I x) → acc.length + xs.length ≤ 100000 → Q (acc ++ (xs.filter p).map o) ρ0 → compD j vs C A Q (xs.map e) acc ρ0
  | [], acc, _, _, q => by simpa [compD] using q
  | x :: xs, acc, hi, few, q => by
    rw [List.length_cons] at few
    have ix := hi x List.mem_cons_self
    refine ⟨own, test x _ ix ?_⟩
    cases hp : p x with
    | true =>
      refine ⟨fun _ => turn x _ ix ⟨by omega, ?_⟩, (fun z => by cases z)⟩
      rw [back]
      refine comp_fil e o p I own back test turn xs (acc ++ [o x]) (fun y hy => hi y (List.mem_cons_of_mem _ hy)) (by rw [List.length_append]; simp; omega) ?_
      rw [List.filter_cons_of_pos hp] at q
      simpa using q
    | false =>
      refine ⟨(fun z => by cases z), fun _ => ?_⟩
      rw [back]
      refine comp_fil e o p I own back test turn xs acc (fun y hy => hi y (List.mem_cons_of_mem _ hy)) (by omega) ?_
      rw [List.filter_cons_of_neg (by rw [hp]; simp)] at q
      exact q
def isPlace : Ev → Bool
  | .place _ => true
  | _ => false
theorem places_map {es : List Ev} (h : ∀ e ∈ es, isPlace e = true) (f : Str → Str) : es.map (Ev.ren f) = es := by
  conv => rhs; rw [← List.map_id es]
  refine List.map_congr_left fun e he => ?_
  have := h e he
  cases e <;> first | rfl | cases this
theorem places_go {t h : List Str} {es : List Ev} (gp : GPair t h) (ok : ∀ e ∈ es, e.ok t) (pl : ∀ e ∈ es, isPlace e = true) : (runH h es).1 = (runT t es).1.map (fOf t h) ∧ (runH h es).2 = (runT t es).2.map (fOf t h) := by
  have e1 : runH h es = runT h es := even_run es h fun e he => by
    have := pl e he
    cases e <;> first | trivial | cases this
  have g := RG.of gp
  have e2 := runT_ren (fOf t h) es t g.inj ok
  rw [places_map pl, map_fOf gp.gt.nd gp.pm.length_eq] at e2
  rw [e1, e2]; exact ⟨rfl, rfl⟩
end TN
set_option Elab.async false
set_option linter.all false
set_option maxRecDepth 100000
set_option maxHeartbeats 1000000
set_option autoImplicit false
namespace TN
open PySem PySem.Spec PyProof.Rows L2
section
variable {K : PySem.W.Frag} {bor : List Nat} {tk tv : TE} {A B : TDE}
end
section
variable {K : PySem.W.Frag} {bor : List Nat} {tk tv : TE} {A B : TDE}
end
end TN
set_option Elab.async false
set_option linter.all false
set_option maxRecDepth 100000
set_option maxHeartbeats 2000000
set_option autoImplicit false
namespace TN
open PySem PySem.Spec PyProof.Rows L2
theorem growR_end {ks : List Str} {f : Str → Str} {x : Str} (g : RG ks f) : ∀ (k : Nat) (r : List Str), Ch ks f x r → r.length + k = ks.length → f ((growR f x k r).getLastD x) = x
  | 0, r, c, hl => (c.full g (show r.length = ks.length by omega) :)
  | k + 1, r, c, hl => by
    show f ((if f (r.getLastD x) = x then r else growR f x k (r ++ [f (r.getLastD x)])).getLastD x) = x
    split
    · rename_i h; exact h
    · rename_i h
      exact growR_end g k _ (c.grow g h) (by rw [List.length_append, List.length_singleton]; omega)
theorem ringL_end {ks : List Str} {f : Str → Str} {x : Str} (g : RG ks f) (h : x ∈ ks) : f ((ringL f ks.length x).getLastD x) = x := by
  have := List.length_pos_iff.mpr g.ne
  exact growR_end g _ _ (.one h) (by simp; omega)

theorem ring_next {ks : List Str} {f : Str → Str} {x : Str} (g : RG ks f) (h : x ∈ ks) (i : Nat) (hi : i < (ringL f ks.length x).length) :
    f (ringL f ks.length x)[i] = if h2 : i + 1 < (ringL f ks.length x).length then (ringL f ks.length x)[i + 1] else x := by
  have c := ringL_ok g h ks.length
  split
  · rename_i h2; exact (c.step i h2).symm
  · rename_i h2
    have e := ringL_end g h
    rw [last_is c.ne] at e
    have : (ringL f ks.length x).length - 1 = i := by omega
    simp only [this] at e
    exact e
theorem ring_closed {ks : List Str} {f : Str → Str} {x y : Str} (g : RG ks f) (h : x ∈ ks) (hy : y ∈ ringL f ks.length x) : f y ∈ ringL f ks.length x := by
  obtain ⟨i, hi, rfl⟩ := List.mem_iff_getElem.mp hy
  rw [ring_next g h i hi]
  split
  · exact List.getElem_mem _
  · have c := ringL_ok g h ks.length
    exact List.mem_of_mem_head? c.hd

theorem ring_sub {ks : List Str} {f : Str → Str} {x : Str} (g : RG ks f) (h : x ∈ ks) {S : List Str} (hx : x ∈ S) (cl : ∀ y ∈ S, f y ∈ S) : ∀ y ∈ ringL f ks.length x, y ∈ S := by
  have c := ringL_ok g h ks.length
  have all : ∀ i (hi : i < (ringL f ks.length x).length), (ringL f ks.length x)[i] ∈ S := by
    intro i
    induction i with
    | zero =>
      intro hi
      have := c.hd
      rw [List.head?_eq_getElem?, List.getElem?_eq_getElem hi] at this
      injection this with this
      rw [this]; exact hx
    | succ i ih =>
      intro hi
      rw [c.step i hi]
      exact cl _ (ih (by omega))
  intro y hy
  obtain ⟨i, hi, rfl⟩ := List.mem_iff_getElem.mp hy
  exact all i hi

theorem ring_back {ks : List Str} {f : Str → Str} {x y : Str} (g : RG ks f) (h : x ∈ ks) (hy : y ∈ ringL f ks.length x) : x ∈ ringL f ks.length y := by
  have c := ringL_ok g h ks.length
  have yk := c.mem y hy
  obtain ⟨i, hi, rfl⟩ := List.mem_iff_getElem.mp hy
  have cy := ringL_ok g yk ks.length
  have y0 : (ringL f ks.length x)[i] ∈ ringL f ks.length (ringL f ks.length x)[i] := List.mem_of_mem_head? cy.hd
  have up : ∀ d (hd : i + d < (ringL f ks.length x).length), (ringL f ks.length x)[i + d] ∈ ringL f ks.length (ringL f ks.length x)[i] := by
    intro d
    induction d with
    | zero => intro _; exact y0
    | succ d ih =>
      intro hd
      have e : (ringL f ks.length x)[i + (d + 1)] = f (ringL f ks.length x)[i + d] := c.step (i + d) hd
      rw [e]
      exact ring_closed g yk (ih (by omega))
  have l := up ((ringL f ks.length x).length - 1 - i) (by omega)
  have e := ring_closed g yk l
  have : f (ringL f ks.length x)[i + ((ringL f ks.length x).length - 1 - i)] = x := by
    rw [ring_next g h]
    rw [dif_neg (by omega)]
  rw [this] at e
  exact e
theorem ring_same {ks : List Str} {f : Str → Str} {x y : Str} (g : RG ks f) (h : x ∈ ks) (hy : y ∈ ringL f ks.length x) : ∀ z, z ∈ ringL f ks.length y ↔ z ∈ ringL f ks.length x := by
  have c := ringL_ok g h ks.length
  have yk := c.mem y hy
  intro z
  exact ⟨fun hz => ring_sub g yk hy (fun w hw => ring_closed g h hw) z hz, fun hz => ring_sub g h (ring_back g h hy) (fun w hw => ring_closed g yk hw) z hz⟩
theorem minS_mem {r : List Str} {m : Str} (e : minS r = some m) : m ∈ r ∧ ∀ y ∈ r, leS m y = true := by
  have p2 : (sortS r).Pairwise (fun a b => leS a b = true) := List.pairwise_mergeSort leS_trans leS_total r
  have p := sortS_perm r
  unfold minS at e
  cases q : sortS r with
  | nil => rw [q] at e; cases e
  | cons a s =>
    rw [q] at e p p2
    injection e with e; subst e
    refine ⟨p.mem_iff.mp List.mem_cons_self, fun y hy => ?_⟩
    rcases List.mem_cons.mp (p.mem_iff.mpr hy) with rfl | hm
    · have := leS_total y y
      simpa using this
    · exact List.rel_of_pairwise_cons p2 hm
theorem minS_set {r s : List Str} (h : ∀ z, z ∈ r ↔ z ∈ s) : minS r = minS s := by
  cases e1 : minS r with
  | none =>
    cases e2 : minS s with
    | none => rfl
    | some m =>
      have := (h m).mpr (minS_mem e2).1
      have p := sortS_perm r
      unfold minS at e1
      cases q : sortS r with
      | nil => rw [q] at p; have := p.mem_iff.mpr this; cases this
      | cons a b => rw [q] at e1; cases e1
  | some m =>
    obtain ⟨a1, a2⟩ := minS_mem e1
    cases e2 : minS s with
    | none =>
      have p := sortS_perm s
      unfold minS at e2
      cases q : sortS s with
      | nil => rw [q] at p; have := p.mem_iff.mpr ((h m).mp a1); cases this
      | cons a b => rw [q] at e2; cases e2
    | some m2 =>
      obtain ⟨b1, b2⟩ := minS_mem e2
      rw [leS_antisymm (a2 m2 ((h m2).mpr b1)) (b2 m ((h m).mp a1))]

end TN
set_option Elab.async false
set_option linter.all false
set_option maxRecDepth 100000
set_option maxHeartbeats 2000000
set_option autoImplicit false
namespace TN
open PySem PySem.Spec PyProof.Rows L2
def backF (t h T H : List Str) (x : Str) : Str := fOf h t (fOf T H x)
def rot (k : Nat) (f : List Str) : List Str := f.drop k ++ f.take k
theorem GPair.turn {t h : List Str} (gp : GPair t h) : GPair h t := ⟨gp.gh, gp.gt, gp.pm.symm⟩
theorem RG.back {t h T H : List Str} (gp : GPair t h) (gq : GPair T H) (p : T.Perm t) : RG t (backF t h T H) := by
  have g1 := RG.of gq
  have g2 := RG.of gp.turn
  have m1 : ∀ x ∈ t, fOf T H x ∈ h := fun x hx => gp.pm.mem_iff.mp (p.mem_iff.mp (g1.mem x (p.mem_iff.mpr hx)))
  exact ⟨gp.gt.ne, gp.gt.few, gp.gt.nd, gp.gt.let', fun x hx => gp.pm.mem_iff.mpr (g2.mem _ (m1 x hx)), fun x hx y hy e => g1.inj x (p.mem_iff.mpr hx) y (p.mem_iff.mpr hy) (g2.inj _ (m1 x hx) _ (m1 y hy) e)⟩
end TN
set_option Elab.async false
set_option linter.all false
set_option maxRecDepth 100000
set_option maxHeartbeats 2000000
set_option autoImplicit false
namespace TN
open PySem PySem.Spec PyProof.Rows L2
theorem toF_eq (V : List Str) (q : Nat) : toF V q = V.getD q "" :: (V.take q ++ V.drop (q + 1)) := rfl
theorem toF_zero (V : List Str) (q : Nat) : (toF V q).getD 0 "" = V.getD q "" := rfl
theorem toF_mid {V : List Str} {q i : Nat} (h : i < q) (hq : q < V.length) : (toF V q).getD (i + 1) "" = V.getD i "" := by
  rw [toF_eq, List.getD_eq_getElem?_getD, List.getElem?_cons_succ, List.getElem?_append_left (by rw [List.length_take]; omega), List.getElem?_take_of_lt h, ← List.getD_eq_getElem?_getD]
theorem toF_out {V : List Str} {q i : Nat} (h : q ≤ i) (hq : q < V.length) : (toF V q).getD (i + 1) "" = V.getD (i + 1) "" := by
  have e : (V.take q).length = q := by rw [List.length_take]; omega
  rw [toF_eq, List.getD_eq_getElem?_getD, List.getElem?_cons_succ, List.getElem?_append_right (by omega), e, List.getElem?_drop, ← List.getD_eq_getElem?_getD]
  congr 1
  omega
theorem fOf_at {T H : List Str} {i : Nat} (nd : T.Nodup) (h : i < T.length) : fOf T H (T.getD i "") = H.getD i "" := by
  have e : T.getD i "" = T[i] := by rw [List.getD_eq_getElem?_getD, List.getElem?_eq_getElem h]; rfl
  unfold fOf
  rw [e, idxS_nd nd h]; rfl
def nxtI (p i : Nat) : Nat := if p < i then i else if i = p then 0 else i + 1
def preI (q i : Nat) : Nat := if q < i then i else if i = 0 then q else i - 1

theorem lost_reads {t h : List Str} {p i : Nat} (gp : GPair t h) (hp : p < t.length) (hi : i < t.length) : fOf (toF t p) h (t.getD i "") = h.getD (nxtI p i) "" := by
  have nd : (toF t p).Nodup := (toF_perm hp).nodup_iff.mpr gp.gt.nd
  have l : (toF t p).length = t.length := (toF_perm hp).length_eq
  unfold nxtI
  by_cases h1 : p < i
  · obtain ⟨k, rfl⟩ : ∃ k, i = k + 1 := ⟨i - 1, by omega⟩
    rw [if_pos h1, ← toF_out (q := p) (by omega) hp, fOf_at nd (by omega)]
  · rw [if_neg h1]
    by_cases h2 : i = p
    · subst h2
      rw [if_pos rfl, ← toF_zero, fOf_at nd (by omega)]
    · rw [if_neg h2, ← toF_mid (q := p) (by omega) hp, fOf_at nd (by omega)]

theorem twice_reads {u v : List Str} {q i : Nat} (gu : GPair u v) (hq : q < u.length) (hi : i < u.length) : fOf (toF u q) (toF (toF v q) q) (u.getD i "") = v.getD (preI q i) "" := by
  have nd : (toF u q).Nodup := (toF_perm hq).nodup_iff.mpr gu.gt.nd
  have l : (toF u q).length = u.length := (toF_perm hq).length_eq
  have lv := gu.pm.length_eq
  have hv : q < v.length := by omega
  have hv2 : q < (toF v q).length := by rw [(toF_perm hv).length_eq]; exact hv
  unfold preI
  by_cases h1 : q < i
  · obtain ⟨k, rfl⟩ : ∃ k, i = k + 1 := ⟨i - 1, by omega⟩
    rw [if_pos h1, ← toF_out (V := u) (q := q) (by omega) hq, fOf_at nd (by omega), toF_out (by omega) hv2, toF_out (by omega) hv]
  · rw [if_neg h1]
    by_cases h2 : i = q
    · subst h2
      rw [← toF_zero u, fOf_at nd (by omega), toF_zero]
      cases i with
      | zero => rw [if_pos rfl]; rfl
      | succ k => rw [if_neg (by omega), toF_mid (by omega) hv]; rfl
    · rw [← toF_mid (V := u) (q := q) (by omega) hq, fOf_at nd (by omega), toF_mid (by omega) hv2]
      cases i with
      | zero => rw [if_pos rfl]; rfl
      | succ k => rw [if_neg (by omega), toF_mid (by omega) hv]; rfl

theorem nxt_mod {p a : Nat} (h : a ≤ p) : nxtI p a = (a + 1) % (p + 1) := by
  unfold nxtI
  rw [if_neg (by omega)]
  by_cases e : a = p
  · rw [if_pos e, e, Nat.mod_self]
  · rw [if_neg e, Nat.mod_eq_of_lt (by omega)]
theorem pre0 (i : Nat) : preI 0 i = i := by
  unfold preI
  by_cases h : 0 < i
  · rw [if_pos h]
  · rw [if_neg h, if_pos (by omega)]; omega
theorem nxt0 (i : Nat) : nxtI 0 i = i := by
  unfold nxtI
  by_cases h : 0 < i
  · rw [if_pos h]
  · rw [if_neg h, if_pos (by omega)]; omega
theorem turns_one {n p q : Nat} {π : Nat → Nat} (hp : p < n) (hq : q < n) (lt : ∀ i < n, π i < n) (inj : ∀ i < n, ∀ j < n, π i = π j → i = j) (sur : ∀ a < n, ∃ i < n, π i = a) :
    (∀ i < n, nxtI p (π (preI q i)) = π i) ↔ p = q ∧ (p = 0 ∨ ∃ k, k < p + 1 ∧ ∀ i ≤ p, π i = (i + k) % (p + 1)) := by
  constructor
  · intro z
    by_cases q0 : q = 0
    · subst q0
      obtain ⟨i, hi, e⟩ := sur 0 (by omega)
      have := z i hi
      have pi : preI 0 i = i := pre0 i
      rw [pi, e] at this
      unfold nxtI at this
      have p0 : p = 0 := by
        rw [if_neg (by omega)] at this
        by_cases e2 : 0 = p
        · exact e2.symm
        · rw [if_neg e2] at this; omega
      exact ⟨p0, .inl p0⟩
    · have s : ∀ i, 1 ≤ i → i ≤ q → π i = nxtI p (π (i - 1)) := fun i h1 h2 => by
        have := z i (by omega)
        have pi : preI q i = i - 1 := by unfold preI; rw [if_neg (by omega), if_neg (by omega)]
        rw [pi] at this; exact this.symm
      have k0 : π 0 ≤ p := by
        refine Classical.byContradiction fun h => ?_
        have e := s 1 (by omega) (by omega)
        have : nxtI p (π (1 - 1)) = π 0 := by unfold nxtI; rw [if_pos (by simpa using h)]
        rw [this] at e
        exact absurd (inj 1 (by omega) 0 (by omega) e) (by omega)
      have all : ∀ i, i ≤ q → π i = (i + π 0) % (p + 1) := by
        intro i
        induction i with
        | zero => intro _; rw [Nat.zero_add, Nat.mod_eq_of_lt (by omega)]
        | succ i ih =>
          intro h
          have e := s (i + 1) (by omega) h
          rw [Nat.add_sub_cancel, ih (by omega)] at e
          rw [e, nxt_mod (Nat.lt_succ_iff.mp (Nat.mod_lt _ (by omega))), Nat.mod_add_mod]
          congr 1
          omega
      have pq : p = q := by
        have l1 : q ≤ p := by
          refine Classical.byContradiction fun h => ?_
          have e := all (p + 1) (by omega)
          rw [show p + 1 + π 0 = π 0 + (p + 1) by omega, Nat.add_mod_right, Nat.mod_eq_of_lt (by omega)] at e
          exact absurd (inj (p + 1) (by omega) 0 (by omega) e) (by omega)
        have l2 : p ≤ q := by
          refine Classical.byContradiction fun h => ?_
          have e := z 0 (by omega)
          have pi : preI q 0 = q := by unfold preI; rw [if_neg (by omega), if_pos rfl]
          rw [pi, all q (by omega), nxt_mod (Nat.lt_succ_iff.mp (Nat.mod_lt _ (by omega))), Nat.mod_add_mod] at e
          by_cases c : q + π 0 + 1 < p + 1
          · rw [Nat.mod_eq_of_lt c] at e; omega
          · rw [Nat.mod_eq_sub_mod (by omega), Nat.mod_eq_of_lt (by omega)] at e; omega
        omega
      exact ⟨pq, .inr ⟨π 0, by omega, fun i hi => all i (by omega)⟩⟩
  · rintro ⟨rfl, z⟩ i hi
    rcases z with rfl | ⟨k, hk, all⟩
    · have pi : preI 0 i = i := pre0 i
      rw [pi]
      exact nxt0 _
    · by_cases hip : i ≤ p
      · have pr : preI p i ≤ p := by unfold preI; rw [if_neg (by omega)]; split <;> omega
        rw [all _ pr, nxt_mod (Nat.lt_succ_iff.mp (Nat.mod_lt _ (by omega))), Nat.mod_add_mod, all i hip]
        unfold preI
        rw [if_neg (by omega)]
        by_cases i0 : i = 0
        · rw [if_pos i0, i0]
          rw [show p + k + 1 = 0 + k + (p + 1) by omega, Nat.add_mod_right]
        · rw [if_neg i0]
          congr 1
          omega
      · have pi : preI p i = i := by unfold preI; rw [if_pos (by omega)]
        rw [pi]
        unfold nxtI
        rw [if_pos]
        refine Classical.byContradiction fun h => ?_
        have ha : π i ≤ p := by omega
        let j := if k ≤ π i then π i - k else π i + (p + 1) - k
        have hj : j ≤ p := by show (if k ≤ π i then π i - k else π i + (p + 1) - k) ≤ p; split <;> omega
        have ej : π j = π i := by
          rw [all j hj]
          show ((if k ≤ π i then π i - k else π i + (p + 1) - k) + k) % (p + 1) = π i
          split
          · rw [Nat.sub_add_cancel (by assumption), Nat.mod_eq_of_lt (by omega)]
          · rw [Nat.sub_add_cancel (by omega), Nat.add_mod_right, Nat.mod_eq_of_lt (by omega)]
        have := inj j (by omega) i hi ej
        omega
theorem pre_lt {n q i : Nat} (hq : q < n) (hi : i < n) : preI q i < n := by
  unfold preI
  split
  · exact hi
  · split <;> omega
theorem nxt_lt {n p i : Nat} (hp : p < n) (hi : i < n) : nxtI p i < n := by
  unfold nxtI
  split
  · exact hi
  · split <;> omega
theorem getD_in {l : List Str} {i : Nat} (h : i < l.length) : l.getD i "" ∈ l := by
  rw [List.getD_eq_getElem?_getD, List.getElem?_eq_getElem h]; exact List.getElem_mem _
theorem getD_ix {l : List Str} {i : Nat} (h : i < l.length) : l.getD i "" = l[i] := by
  rw [List.getD_eq_getElem?_getD, List.getElem?_eq_getElem h]; rfl
theorem getD_nd {l : List Str} {i j : Nat} (nd : l.Nodup) (hi : i < l.length) (hj : j < l.length) (e : l.getD i "" = l.getD j "") : i = j := by
  rw [getD_ix hi, getD_ix hj] at e
  exact (List.getElem_inj nd).mp e
theorem idx_getD {l : List Str} {j : Nat} (nd : l.Nodup) (h : j < l.length) : (idxS (l.getD j "") l).getD 0 = j := by
  rw [getD_ix h, idxS_nd nd h]; rfl
theorem rot_get {f : List Str} {k i : Nat} (hk : k < f.length) (hi : i < f.length) : (rot k f).getD i "" = f.getD ((i + k) % f.length) "" := by
  unfold rot
  have e : (f.drop k).length = f.length - k := List.length_drop
  by_cases c : i + k < f.length
  · rw [Nat.mod_eq_of_lt c, List.getD_eq_getElem?_getD, List.getElem?_append_left (by omega), List.getElem?_drop, ← List.getD_eq_getElem?_getD, Nat.add_comm]
  · rw [Nat.mod_eq_sub_mod (by omega), Nat.mod_eq_of_lt (by omega), List.getD_eq_getElem?_getD, List.getElem?_append_right (by omega), e, List.getElem?_take_of_lt (by omega), ← List.getD_eq_getElem?_getD]
    congr 1
    omega
theorem rot_len {f : List Str} {k : Nat} (hk : k < f.length) : (rot k f).length = f.length := by
  unfold rot
  rw [List.length_append, List.length_drop, List.length_take]; omega
theorem take_get {l : List Str} {m i : Nat} (h : i < m) : (l.take m).getD i "" = l.getD i "" := by
  rw [List.getD_eq_getElem?_getD, List.getElem?_take_of_lt h, ← List.getD_eq_getElem?_getD]
theorem ext_getD {a b : List Str} (l : a.length = b.length) (h : ∀ i < a.length, a.getD i "" = b.getD i "") : a = b := by
  refine List.ext_getElem l fun i h1 h2 => ?_
  have := h i h1
  rwa [getD_ix h1, getD_ix h2] at this

theorem lost_twice {t h u : List Str} {p q : Nat} (gp : GPair t h) (hp : p < t.length) (hq : q < t.length) (pu : u.Perm t) :
    (∀ x ∈ t, fOf (toF u q) (toF (toF (u.map (fOf (toF t p) h)) q) q) x = fOf t h x) ↔ p = q ∧ (p = 0 ∨ ∃ k, k < (t.take (p + 1)).length ∧ rot k (t.take (p + 1)) = u.take (q + 1)) := by
  have nu : u.Nodup := pu.nodup_iff.mpr gp.gt.nd
  have lu := pu.length_eq
  have lh := gp.pm.length_eq
  have g1 : GPair (toF t p) h := ⟨gp.gt.perm (toF_perm hp), gp.gh, (toF_perm hp).trans gp.pm⟩
  have r1 := RG.of g1
  have pu1 : u.Perm (toF t p) := pu.trans (toF_perm hp).symm
  have em := map_fOf g1.gt.nd g1.pm.length_eq
  have pv : (u.map (fOf (toF t p) h)).Perm h := by
    have := pu1.map (fOf (toF t p) h)
    rw [em] at this
    exact this
  have gu : GPair u (u.map (fOf (toF t p) h)) := ⟨gp.gt.perm pu, gp.gh.perm pv, pu.trans (gp.pm.trans pv.symm)⟩
  let π : Nat → Nat := fun i => (idxS (u.getD i "") t).getD 0
  have mu : ∀ i < t.length, u.getD i "" ∈ t := fun i hi => pu.mem_iff.mp (getD_in (by omega))
  have at' : ∀ i < t.length, t.getD (π i) "" = u.getD i "" := fun i hi => idx_at (mu i hi)
  have lt : ∀ i < t.length, π i < t.length := fun i hi => idx_lt (mu i hi)
  have inj : ∀ i < t.length, ∀ j < t.length, π i = π j → i = j := fun i hi j hj e => getD_nd nu (by omega) (by omega) (by rw [← at' i hi, ← at' j hj, e])
  have sur : ∀ a < t.length, ∃ i < t.length, π i = a := fun a ha => by
    have m : t.getD a "" ∈ u := pu.mem_iff.mpr (getD_in ha)
    have li := idx_lt m
    refine ⟨(idxS (t.getD a "") u).getD 0, by omega, ?_⟩
    show (idxS (u.getD ((idxS (t.getD a "") u).getD 0) "") t).getD 0 = a
    rw [idx_at m]
    exact idx_getD gp.gt.nd ha
  have key : ∀ i < t.length, (fOf (toF u q) (toF (toF (u.map (fOf (toF t p) h)) q) q) (u.getD i "") = fOf t h (u.getD i "")) ↔ nxtI p (π (preI q i)) = π i := fun i hi => by
    have pl := pre_lt hq hi
    have nl := nxt_lt hp (lt _ pl)
    rw [twice_reads gu (by omega) (by omega), getD_map _ (by omega), ← at' _ pl, lost_reads gp hp (lt _ pl), ← at' i hi, fOf_at gp.gt.nd (lt i hi)]
    exact ⟨fun e => getD_nd gp.gh.nd (by omega) (by have := lt i hi; omega) e, fun e => by rw [e]⟩
  have all : (∀ x ∈ t, fOf (toF u q) (toF (toF (u.map (fOf (toF t p) h)) q) q) x = fOf t h x) ↔ ∀ i < t.length, nxtI p (π (preI q i)) = π i := by
    constructor
    · exact fun z i hi => (key i hi).mp (z _ (mu i hi))
    · intro z x hx
      have m : x ∈ u := pu.mem_iff.mpr hx
      have li := idx_lt m
      have := (key ((idxS x u).getD 0) (by omega)).mpr (z _ (by omega))
      rwa [idx_at m] at this
  rw [all, turns_one hp hq lt inj sur]
  have l1 : (t.take (p + 1)).length = p + 1 := by rw [List.length_take]; omega
  rw [l1]
  refine and_congr_right fun e => or_congr_right (exists_congr fun k => and_congr_right fun hk => ?_)
  subst e
  have l2 : (u.take (p + 1)).length = p + 1 := by rw [List.length_take]; omega
  constructor
  · intro z
    refine ext_getD (by rw [rot_len (by omega), l1, l2]) fun i hi => ?_
    rw [rot_len (by omega), l1] at hi
    have ml : (i + k) % (p + 1) < p + 1 := Nat.mod_lt _ (by omega)
    rw [rot_get (by omega) (by omega), l1, take_get ml, take_get hi, ← at' i (by omega), z i (by omega)]
  · intro z i hi
    have ml : (i + k) % (p + 1) < p + 1 := Nat.mod_lt _ (by omega)
    have e : (rot k (t.take (p + 1))).getD i "" = (u.take (p + 1)).getD i "" := by rw [z]
    rw [rot_get (by omega) (by omega), l1, take_get ml, take_get (by omega)] at e
    show (idxS (u.getD i "") t).getD 0 = _
    rw [← e]
    exact idx_getD gp.gt.nd (by omega)
end TN
set_option Elab.async false
set_option linter.all false
set_option maxRecDepth 100000
set_option maxHeartbeats 2000000
set_option autoImplicit false
namespace TN
open PySem PySem.Spec PyProof.Rows L2
theorem RG.perm {ks ks' : List Str} {f : Str → Str} (g : RG ks f) (p : ks'.Perm ks) : RG ks' f :=
  ⟨fun z => g.ne (by rw [z] at p; exact p.nil_eq.symm), by rw [p.length_eq]; exact g.few, p.nodup_iff.mpr g.nd, fun x hx => g.isl x (p.mem_iff.mp hx), fun x hx => p.mem_iff.mpr (g.mem x (p.mem_iff.mp hx)), fun x hx y hy => g.inj x (p.mem_iff.mp hx) y (p.mem_iff.mp hy)⟩
def Hist (t : List Str) (p : Nat) (es : List Ev) : Prop := ∃ ps : List Nat, es = .lost p :: ps.map Ev.place ∧ (∀ x ∈ ps, x < t.length) ∧ ps.length ≤ 60
theorem Hist.ok {t : List Str} {p : Nat} {es : List Ev} (h : Hist t p es) (hp : p < t.length) : (∀ e ∈ es, e.ok t) ∧ (∀ e ∈ es, e.un) ∧ es.length ≤ 61 := by
  obtain ⟨ps, rfl, h1, h2⟩ := h
  refine ⟨fun e he => ?_, fun e he => ?_, by rw [List.length_cons, List.length_map]; omega⟩
  · rcases List.mem_cons.mp he with rfl | he
    · exact hp
    · obtain ⟨x, hx, rfl⟩ := List.mem_map.mp he
      exact h1 x hx
  · rcases List.mem_cons.mp he with rfl | he
    · trivial
    · obtain ⟨x, hx, rfl⟩ := List.mem_map.mp he
      trivial
theorem Hist.due {t h : List Str} {p q : Nat} {es : List Ev} (gp : GPair t h) (hh : Hist t p es) (hp : p < t.length) (hq : q < t.length) :
    (p = q ∧ (p = 0 ∨ ∃ k, k < (t.take (p + 1)).length ∧ rot k (t.take (p + 1)) = (runT t es).1.take (q + 1))) ↔ ∀ x ∈ t, fOf (runT t (es ++ [.twice q])).1 (runH h (es ++ [.twice q])).1 x = fOf t h x := by
  obtain ⟨ok, _, _⟩ := hh.ok hp
  obtain ⟨ps, rfl, h1, h2⟩ := hh
  have g1 : GPair (toF t p) h := ⟨gp.gt.perm (toF_perm hp), gp.gh, (toF_perm hp).trans gp.pm⟩
  have l1 := (toF_perm hp).length_eq
  have okp : ∀ e ∈ ps.map Ev.place, e.ok (toF t p) := fun e he => by
    obtain ⟨x, hx, rfl⟩ := List.mem_map.mp he
    show x < _
    rw [l1]; exact h1 x hx
  have pl : ∀ e ∈ ps.map Ev.place, isPlace e = true := fun e he => by
    obtain ⟨x, hx, rfl⟩ := List.mem_map.mp he
    rfl
  obtain ⟨e1, _⟩ := places_go g1 okp pl
  obtain ⟨pT, _⟩ := runT_ok _ t ok
  rw [runT_app, runH_app]
  show _ ↔ ∀ x ∈ t, fOf (toF (runT t (.lost p :: ps.map Ev.place)).1 q) (toF (toF (runH h (.lost p :: ps.map Ev.place)).1 q) q) x = fOf t h x
  have eH : (runH h (.lost p :: ps.map Ev.place)).1 = (runT t (.lost p :: ps.map Ev.place)).1.map (fOf (toF t p) h) := e1
  rw [eH]
  exact (lost_twice gp hp hq pT).symm
end TN
set_option Elab.async false
set_option linter.all false
set_option maxRecDepth 100000
set_option maxHeartbeats 2000000
set_option autoImplicit false
namespace TN
open PySem PySem.Spec PyProof.Rows L2
section
variable {prog : Program} {w : World} {A : Around} {E : Value → Shared → Prop} {s : Shared}
end
section
variable {prog : Program} {w : World} {A : Around} {E : Value → Shared → Prop} {s : Shared}
end
section
variable {X : Cx} {K : PySem.W.Frag} {bor : List Nat} {te ti : TE} {f g : FE}
end
end TN
set_option Elab.async false
set_option linter.all false
set_option maxRecDepth 100000
set_option maxHeartbeats 1000000
set_option autoImplicit false
namespace TN
open PySem PySem.Spec PyProof.Rows L2
def Pt.d : Pt → D
  | .sh d => d
  | .ow xs => .list xs
abbrev TDP := List Sl → (List Pt → List Sl → Prop) → Prop

structure PtsM (K : PySem.W.Frag) (c : C0) (G : Hp) (σ : L2.St) (H : Hp) (ρ : List Sl) (vs : List V) (ps : List Pt) : Prop where
  ok : PtsOk K c G H vs ps
  ap : Apart vs ps
  no : ∀ (j : Nat) (s : Sl) (k : Nat) (b : Addr), ρ[j]? = some s → OwAt vs ps k b → ¬ Owns G s (σ[j]?) b
def LTp (K : PySem.W.Frag) (bor : List Nat) (tH : TE) (t : TDP) : Prop :=
  ∀ ⦃c : C0⦄ ⦃G : Hp⦄ ⦃σ : L2.St⦄ ⦃H : Hp⦄ ⦃ρ : List Sl⦄ ⦃Qd : List Pt → List Sl → Prop⦄ ⦃Q : VK⦄, c.bor = bor → Rel K c G σ H ρ → t ρ Qd →
    (∀ a u vs H' G' ρ' ps, Same G G' → Rel K c G' σ H' ρ' → G' a = some (.frz u (.tup vs)) → u.dict = none → PtsM K c G' σ H' ρ' vs ps → Qd ps ρ' → Q (.ref a) H') → tH σ H Q
section
variable {K : PySem.W.Frag} {bor : List Nat} {ta : TA} {te : TE} {A : TDE} {R : TDP}
theorem own_rel {c : C0} {G : Hp} {σ : L2.St} {H : Hp} {ρ : List Sl} {vs : List V} {ps : List Pt} (p : PtsM K c G σ H ρ vs ps) {k : Nat} {b : Addr} (h : OwAt vs ps k b) : ∃ us xs, ps[k]? = some (.ow xs) ∧ H b = some (.lst us) ∧ DqAll K G us xs ∧ G b = none ∧ c.H b = none := by
  obtain ⟨h1, xs, h2⟩ := h
  obtain ⟨a, us, e1, e2, e3, e4, e5⟩ := p.ok.2 k _ _ h1 h2
  injection e1 with e1; subst e1
  exact ⟨us, xs, h2, e2, e3, e4, e5⟩
def pCons (A : TDE) (R : TDP) : TDP := fun ρ Q => A ρ fun d ρ1 => R ρ1 fun ps ρ2 => Q (.sh d :: ps) ρ2
def pOwn (j : Nat) (R : TDP) : TDP := fun ρ Q => ∃ xs, ownL j ρ = some xs ∧ R (ρ.set j .no) fun ps ρ2 => Q (.ow xs :: ps) ρ2
def pTup (R : TDP) : TDP := fun ρ Q => R ρ fun ps ρ1 => ps.length ≤ 100000 ∧ Q ps ρ1
theorem PtsM.grow {c : C0} {G : Hp} {σ : L2.St} {H : Hp} {ρ : List Sl} {vs : List V} {ps : List Pt} (p : PtsM K c G σ H ρ vs ps) (Rl : Rel K c G σ H ρ) {G' H' : Hp} (g : Grow K G H G' H') : PtsM K c G' σ H' ρ vs ps :=
  ⟨⟨p.ok.1, fun k v q e1 e2 => by
    have r := p.ok.2 k v q e1 e2
    cases q with
    | sh d => exact dpS g.g r
    | ow ys =>
      obtain ⟨b, ws, r1, r2, r3, r4, r5⟩ := r
      exact ⟨b, ws, r1, g.k r2, dpsS g.g r3, g.n b (by rw [r2]; simp) r4, r5⟩⟩, p.ap, fun j s k b e o ob => p.no j s k b e o (own_back g.g (Rl.sl j s e) ob)⟩
def dCallT (sem : List D → (Sl → Prop) → Prop) (A : TDA) : TDP := fun ρ Q => A ρ fun ds ρ1 => sem ds fun r => ∃ ps, r = .tp ps ∧ Q ps ρ1
theorem pts_keep {c : C0} {G : Hp} {σ : L2.St} {H : Hp} {ρ : List Sl} {vs : List V} {ps : List Pt} (Rl : Rel K c G σ H ρ) (p : PtsM K c G σ H ρ vs ps) : ∃ G', Same G G' ∧ Rel K c G' σ H ρ ∧ DqAll K G' vs (ps.map Pt.d) := by
  classical
  let G' : Hp := fun b => if ∃ k, OwAt vs ps k b then H b else G b
  have gs : Same G G' := fun b o e => by
    show (if ∃ k, OwAt vs ps k b then H b else G b) = _
    by_cases h : ∃ k, OwAt vs ps k b
    · obtain ⟨k, h⟩ := h
      obtain ⟨_, _, _, _, _, z, _⟩ := own_rel p h
      rw [z] at e; cases e
    · rw [if_neg h]; exact e
  have gs2 : Same G' H := fun b o e => by
    have e : (if ∃ k, OwAt vs ps k b then H b else G b) = some o := e
    by_cases h : ∃ k, OwAt vs ps k b
    · rw [if_pos h] at e; exact e
    · rw [if_neg h] at e; exact Rl.sub _ _ e
  have gnt : NoTab G' := fun b ts e => by
    have e : (if ∃ k, OwAt vs ps k b then H b else G b) = some (.tbl ts) := e
    by_cases h : ∃ k, OwAt vs ps k b
    · rw [if_pos h] at e
      obtain ⟨k, h⟩ := h
      obtain ⟨_, _, _, z, _⟩ := own_rel p h
      rw [z] at e; cases e
    · rw [if_neg h] at e; exact Rl.nt _ _ e
  refine ⟨G', gs, Rl.move gs2 Rl.fr Rl.ft Rl.tb gnt (fun a h1 h2 => ?_) gs rfl rfl fun b u i s e ob eb => ⟨eb, ?_, id⟩, ?_⟩
  · show (if ∃ k, OwAt vs ps k a then H a else G a) = none
    rw [if_neg (fun ⟨k, z⟩ => by obtain ⟨_, _, _, _, _, _, z⟩ := own_rel p z; exact h1 z)]
    exact Rl.gh a h1 h2
  · show (if ∃ k, OwAt vs ps k b then H b else G b) = none
    rw [if_neg (fun ⟨k, z⟩ => p.no i s k b e z ob)]
    exact (Rl.own e ob).2.1
  · have all : ∀ (n : Nat) (vs' : List V) (ps' : List Pt), vs' = vs.drop n → ps' = ps.drop n → vs'.length = ps'.length → DqAll K G' vs' (ps'.map Pt.d) := by
      intro n vs'
      induction vs' generalizing n with
      | nil => intro ps' _ _ l; cases ps' with
        | nil => exact .nil
        | cons => simp at l
      | cons v vs' ih =>
        intro ps' e1 e2 l
        cases ps' with
        | nil => simp at l
        | cons q ps' =>
          have v0 : vs[n]? = some v := by
            have : (vs.drop n)[0]? = some v := by rw [← e1]; rfl
            rwa [List.getElem?_drop, Nat.add_zero] at this
          have q0 : ps[n]? = some q := by
            have : (ps.drop n)[0]? = some q := by rw [← e2]; rfl
            rwa [List.getElem?_drop, Nat.add_zero] at this
          refine .cons ?_ (ih (n + 1) ps' (by rw [← List.drop_drop, ← e1]; rfl) (by rw [← List.drop_drop, ← e2]; rfl) (by simpa using l))
          have r := p.ok.2 n v q v0 q0
          cases q with
          | sh d => exact dpS gs r
          | ow xs =>
            obtain ⟨b, ws, r1, r2, r3, r4, r5⟩ := r
            subst r1
            refine .lst (sqU ?_) (dpsS gs r3)
            show (if ∃ k, OwAt vs ps k b then H b else G b) = _
            rw [if_pos ⟨n, v0, xs, q0⟩]; exact r2
    exact all 0 vs ps rfl rfl p.ok.1
def dKeepT (t : TDP) : TDE := fun ρ Q => t ρ fun ps ρ' => Q (.tuple (ps.map Pt.d)) ρ'
theorem LTp.e {t : TDP} (h : LTp K bor te t) : LE K bor te (dKeepT t) := fun {_ _ _ _ _ _ _} hc Rl q k =>
  h hc Rl q fun a u vs H' G' ρ' ps s R' e1 e2 p qd => by
    obtain ⟨G2, s2, R2, dp⟩ := pts_keep R' p
    exact k _ H' G2 ρ' _ (s.trans s2) R2 (.tup (.inl ⟨u, s2 _ _ e1, e2⟩) dp) qd
def sAsgT (A : TDP) (i : Nat) : TDS := fun E ρ => A ρ fun ps ρ1 => E.nx (ρ1.set i (.tp ps))
def sRetT (A : TDP) : TDS := fun E ρ => A ρ fun ps ρ1 => E.rt (.tp ps) ρ1
def tpL (j : Nat) (ρ : List Sl) : Option (List Pt) := match ρ[j]? with
  | some (.tp ps) => some ps
  | _ => none
def fIxT (j k : Nat) : FE := fun ρ => match tpL j ρ with
  | some ps => match ps[k]? with
    | some p => some p.d
    | none => none
  | none => none
def fTp (j : Nat) : FE := fun ρ => match tpL j ρ with
  | some ps => some (.tuple (ps.map Pt.d))
  | none => fPeek j ρ
def dAppendT (j k : Nat) (A : TDE) : TDE := fun ρ Q => (∃ ps xs, tpL j ρ = some ps ∧ ps[k]? = some (.ow xs)) ∧ A ρ fun d ρ1 => ∃ ps xs, tpL j ρ1 = some ps ∧ ps[k]? = some (.ow xs) ∧ xs.length < 100000 ∧ Q .none (ρ1.set j (.tp (ps.set k (.ow (xs ++ [d])))))
def dReverseT (j k : Nat) : TDE := fun ρ Q => ∃ ps xs, tpL j ρ = some ps ∧ ps[k]? = some (.ow xs) ∧ Q .none (ρ.set j (.tp (ps.set k (.ow xs.reverse))))
def dClearT (j k : Nat) : TDE := fun ρ Q => ∃ ps xs, tpL j ρ = some ps ∧ ps[k]? = some (.ow xs) ∧ Q .none (ρ.set j (.tp (ps.set k (.ow []))))
def dClear (j : Nat) : TDE := fun ρ Q => ∃ xs, ownL j ρ = some xs ∧ Q .none (ρ.set j (.ow []))
def dPop (j : Nat) : TDE := fun ρ Q => ∃ xs d, ownL j ρ = some xs ∧ xs[xs.length - 1]? = some d ∧ Q d (ρ.set j (.ow xs.dropLast))
def dVarT (j : Nat) : TDE := fun ρ Q => match ρ[j]? with
  | some (.sh d) => Q d ρ
  | some (.tp ps) => Q (.tuple (ps.map Pt.d)) (ρ.set j (.sh (.tuple (ps.map Pt.d))))
  | _ => False
end
end TN
namespace TN
open PySem PySem.Spec PyProof.Rows L2
section
variable {K : PySem.W.Frag} {bor : List Nat} {tk : TA} {te : TE} {A : TDE} {is : List Nat}
def fIxTs (j k : Nat) : FE := fun ρ => match tpL j ρ with
  | some ps => match ps[k]? with
    | some (.sh d) => some d
    | _ => none
  | none => none
def dCallNT (sem : List D → (Sl → Prop) → Prop) (is : List Nat) (A : TDA) : TDP := fun ρ Q => A ρ fun ds ρ1 => sem (pick is ds) fun r => ∃ ps, r = .tp ps ∧ Q ps ρ1
def dCallNL (sem : List D → (Sl → Prop) → Prop) (is : List Nat) (A : TDA) : TDL := fun ρ Q => A ρ fun ds ρ1 => sem (pick is ds) fun r => ∃ xs, r = .ow xs ∧ Q xs ρ1
def dAug (i : Nat) (f : Int → Int → Int) (A : TDE) : TDS := fun E ρ => ∃ n, fVar i ρ = some (.int n) ∧ A ρ fun d ρ1 => ∃ m, d = .int m ∧ E.nx (ρ1.set i (.sh (.int (f n m))))
end
end TN
namespace TN
open PySem PySem.Spec PyProof.Rows L2
section
variable {K : PySem.W.Frag} {bor : List Nat} {ta : TA}
end
end TN
set_option Elab.async false
set_option linter.all false
set_option maxRecDepth 100000
set_option maxHeartbeats 1000000
set_option autoImplicit false
namespace TN
open PySem PySem.Spec PyProof.Rows L2 RT RZ
abbrev PIt := PySem.W.Frag → Hp → Hp → V → D → Prop
def Pd : PIt := fun K G _ v d => Dq K G v d
def Pw : PIt := fun K G H v d => ∃ a vs ds, v = .ref a ∧ d = .tuple ds ∧ SqT K H a vs ∧ DqAll K G vs ds
def ItOk (P : PIt) (K : PySem.W.Frag) (G : Hp) (J : It) (ds : List D) : Prop := ∃ (Gd : Hp → Prop) (Y : Nat → Hp → V → Hp → Prop), Walk J ds.length Gd Y ∧ (∀ H, Same G H → Gd H) ∧
  ∀ i H x H' G2, i < ds.length → Same G G2 → Same G2 H → Y i H x H' → ∃ G3 d, ds[i]? = some d ∧ Grow K G2 H G3 H' ∧ P K G3 H' x d
abbrev TDI := List Sl → (List D → List Sl → Prop) → Prop
def LI (P : PIt) (K : PySem.W.Frag) (bor : List Nat) (ti : TI) (t : TDI) : Prop :=
  ∀ ⦃c : C0⦄ ⦃G : Hp⦄ ⦃σ : L2.St⦄ ⦃H : Hp⦄ ⦃ρ : List Sl⦄ ⦃Qd : List D → List Sl → Prop⦄ ⦃R : It → Hp → Prop⦄, c.bor = bor → Rel K c G σ H ρ → t ρ Qd →
    (∀ J H' G' ρ' ds, Same G G' → Rel K c G' σ H' ρ' → ItOk P K G' J ds → Qd ds ρ' → R J H') → ti σ H R
def LGp (P : PIt) (K : PySem.W.Frag) (bor : List Nat) (g : TG) (tg : TDG) : Prop :=
  ∀ ⦃c : C0⦄ ⦃G : Hp⦄ ⦃σ : L2.St⦄ ⦃H : Hp⦄ ⦃ρ : List Sl⦄ ⦃v : V⦄ ⦃d : D⦄ ⦃Qd : List Sl → Prop⦄ ⦃Q : L2.St → Hp → Prop⦄, c.bor = bor → Rel K c G σ H ρ → P K G H v d → tg d ρ Qd →
    (∀ σ' ρ', Rel K c G σ' H ρ' → Qd ρ' → Q σ' H) → g v σ H Q
section
variable {K : PySem.W.Frag} {bor : List Nat} {te tb : TE} {ta : TA} {A B : TDE} {t : TS} {S : TDS} {P : PIt}
theorem lgp_of {g : TG} {tg : TDG} (h : LG K bor g tg) : LGp Pd K bor g tg := h
theorem lgp_tup {n : Nat} {gr : TGs} {tr : List D → List Sl → (List Sl → Prop) → Prop} (h : LGs K bor gr tr) : LGp Pw K bor (gTup K n gr) (tgTup n tr) := fun {c G σ H ρ v d Qd Q} hc R ⟨a, vs, ds', e1, e2, e3, p⟩ ⟨ds, e, hl, q⟩ k => by
  subst e e1
  injection e2 with e2; subst e2
  exact ⟨_, _, rfl, e3, by rw [dps_len p]; exact hl, h hc R p q k⟩


theorem itok_list {G : Hp} {a : Addr} {xs : List V} {ds : List D} (h : SqL K G a xs) (p : DqAll K G xs ds) : ItOk Pd K G (Itl K a) ds := by
  refine ⟨_, _, by rw [← dps_len p]; exact walk_list, fun H s => rdS s h, fun i H x H' G2 hi s1 s2 y => ?_⟩
  obtain ⟨rfl, y⟩ := y
  obtain ⟨d, e1, e2⟩ := dps_get p y
  exact ⟨G2, d, e1, .refl s2, dpS s1 e2⟩
def rangeC (lo c : Int) (n : Nat) : List D := (List.range n).map fun (k : Nat) => PyData.int (lo + k * c)
theorem itok_rangeC {G : Hp} {lo c : Int} {n : Nat} : ItOk Pd K G (Itc lo c n) (rangeC lo c n) := by
  have el : (rangeC lo c n).length = n := by unfold rangeC; simp
  refine ⟨_, _, by rw [el]; exact walk_rangeC, fun H s => trivial, fun i H x H' G2 hi s1 s2 y => ?_⟩
  obtain ⟨rfl, rfl⟩ := y
  refine ⟨G2, _, ?_, .refl s2, .int _⟩
  unfold rangeC
  rw [List.getElem?_map, List.getElem?_range (by omega)]
  rfl
def signsD (z : Str) : List D := z.cps.toList.map fun c => PyData.str ⟨#[c]⟩
theorem itok_rev {G : Hp} {a : Addr} {xs : List V} {ds : List D} (h : SqL K G a xs) (p : DqAll K G xs ds) : ItOk Pd K G (Itv K a xs.length) ds.reverse := by
  refine ⟨_, _, by rw [List.length_reverse, ← dps_len p]; exact walk_rev, fun H s => rdS s h, fun i H x H' G2 hi s1 s2 y => ?_⟩
  obtain ⟨rfl, y⟩ := y
  obtain ⟨d, e1, e2⟩ := dps_get p y
  rw [List.length_reverse] at hi
  refine ⟨G2, d, ?_, .refl s2, dpS s1 e2⟩
  rw [List.getElem?_reverse hi, ← dps_len p]; exact e1
theorem walk_revT {a : Addr} {xs : List V} : Walk (ItvT K a xs.length) xs.length (fun H => SqT K H a xs) (fun i H x H' => H' = H ∧ xs[xs.length - 1 - i]? = some x) :=
  ⟨fun i _ hi q => ⟨hi, xs, xs[xs.length - 1 - i]'(by omega), q, by simp [show xs.length - 1 - i < xs.length by omega]⟩, fun _ _ => Nat.le_refl _, fun _ _ _ _ _ q y => ⟨y.1, y.2 xs q⟩⟩
theorem itok_revT {G : Hp} {a : Addr} {xs : List V} {ds : List D} (h : TupX K G a xs) (p : DqAll K G xs ds) : ItOk Pd K G (ItvT K a xs.length) ds.reverse := by
  refine ⟨_, _, by rw [List.length_reverse, ← dps_len p]; exact walk_revT, fun H s => (tupS s h).sq, fun i H x H' G2 hi s1 s2 y => ?_⟩
  obtain ⟨rfl, y⟩ := y
  obtain ⟨d, e1, e2⟩ := dps_get p y
  rw [List.length_reverse] at hi
  refine ⟨G2, d, ?_, .refl s2, dpS s1 e2⟩
  rw [List.getElem?_reverse hi, ← dps_len p]; exact e1
def enumD (ds : List D) : List D := (List.range ds.length).map fun (i : Nat) => PyData.tuple [.int i, ds.getD i .none]
theorem itok_enum {G : Hp} {a : Addr} {xs : List V} {ds : List D} (h : SqL K G a xs) (p : DqAll K G xs ds) : ItOk Pw K G (Ite K a) (enumD ds) := by
  have el : (enumD ds).length = ds.length := by unfold enumD; simp
  refine ⟨_, _, by rw [el, ← dps_len p]; exact walk_enum, fun H s => rdS s h, fun i H x H' G2 hi s1 s2 y => ?_⟩
  obtain ⟨T, y1, y2, rfl, hT, rfl, e1, e2⟩ := y
  injection e1 with e1; subst e1
  obtain ⟨d, f1, f2⟩ := dps_get p e2
  have g := grow_own (K := K) (o := .tup [V.int i, y2]) s2 hT
  refine ⟨G2, .tuple [.int i, d], ?_, g, T, _, _, rfl, rfl, .inl (.inl upd_same), .cons (.int _) (.cons (dpS s1 f2) .nil)⟩
  unfold enumD
  rw [List.getElem?_map, List.getElem?_range (by omega)]
  show some (PyData.tuple [.int i, ds.getD i .none]) = _
  rw [List.getD_eq_getElem?_getD, f1]
  rfl
def zipD (xs ys : List D) : List D := (xs.zip ys).map fun p => PyData.tuple [p.1, p.2]
def iL (A : TDE) : TDI := fun ρ Q => A ρ fun d ρ1 => ∃ ds, d = .list ds ∧ Q ds ρ1
def iT (A : TDE) : TDI := fun ρ Q => A ρ fun d ρ1 => ∃ ds, d = .tuple ds ∧ Q ds ρ1
theorem li_list (h : LE K bor te A) : LI Pd K bor (iList K te) (iL A) := fun {c G σ H ρ Qd R} hc Rl q k => h hc Rl q fun v H1 G1 ρ1 d s1 R1 p1 ⟨ds, e, q1⟩ => by
  subst e
  cases p1 with
  | @lst a xs _ h1 h2 => exact ⟨a, rfl, ⟨xs, rdL (rdS R1.sub h1)⟩, k _ H1 G1 ρ1 ds s1 R1 (itok_list h1 h2) q1⟩
def iR1 (A : TDA) : TDI := fun ρ Q => A ρ fun vs ρ1 => ∃ j, vs = [.int j] ∧ j < 2 ^ 62 ∧ -(2 ^ 62) ≤ j ∧ Q (rangeD 0 j.toNat) ρ1
def iR2 (A : TDA) : TDI := fun ρ Q => A ρ fun vs ρ1 => ∃ i j, vs = [.int i, .int j] ∧ (-(2 ^ 62) ≤ i ∧ i < 2 ^ 62 ∧ -(2 ^ 62) ≤ j ∧ j < 2 ^ 62) ∧ Q (rangeD i (j - i).toNat) ρ1
def iR3 (A : TDA) : TDI := fun ρ Q => A ρ fun vs ρ1 => ∃ i j c n, vs = [.int i, .int j, .int c] ∧ RgC i j c n ∧ Q (rangeC i c n) ρ1
theorem li_rng3 {A : TDA} (h : LEs K bor ta A) : LI Pd K bor (iRng3 ta) (iR3 A) := fun {c G σ H ρ Qd R} hc Rl q k => h hc Rl q fun vs H1 G1 ρ1 ds s1 R1 p1 ⟨i, j, st, n, e, hb, q1⟩ => by
  subst e
  cases p1 with
  | cons a b =>
    cases a
    cases b with
    | cons a b =>
      cases a
      cases b with
      | cons a b => cases a; cases b; exact ⟨i, j, st, n, rfl, hb, k _ H1 G1 ρ1 _ s1 R1 itok_rangeC q1⟩
def iS (A : TDE) : TDI := fun ρ Q => A ρ fun d ρ1 => ∃ z, d = .str z ∧ Q (signsD z) ρ1
def iE (A : TDE) : TDI := fun ρ Q => A ρ fun d ρ1 => ∃ ds, d = .list ds ∧ Q (enumD ds) ρ1
theorem li_enum (h : LE K bor te A) : LI Pw K bor (iEnum K (tCons te tNil)) (iE A) := fun {c G σ H ρ Qd R} hc Rl q k => h hc Rl q fun v H1 G1 ρ1 d s1 R1 p1 ⟨ds, e, q1⟩ => by
  subst e
  cases p1 with
  | @lst a xs _ h1 h2 => exact ⟨a, xs, rfl, rdL (rdS R1.sub h1), k _ H1 G1 ρ1 _ s1 R1 (itok_enum h1 h2) q1⟩
def iRv (A : TDE) : TDI := fun ρ Q => A ρ fun d ρ1 => ∃ ds, (d = .list ds ∨ d = .tuple ds) ∧ Q ds.reverse ρ1
theorem li_rev (h : LE K bor te A) : LI Pd K bor (iRevA K te) (iRv A) := fun {c G σ H ρ Qd R} hc Rl q k => h hc Rl q fun v H1 G1 ρ1 d s1 R1 p1 ⟨ds, e, q1⟩ => by
  rcases e with e | e
  · subst e
    cases p1 with
    | @lst a xs _ h1 h2 => exact ⟨a, xs, rfl, .inl ⟨rdL (rdS R1.sub h1), k _ H1 G1 ρ1 _ s1 R1 (itok_rev h1 h2) q1⟩⟩
  · subst e
    cases p1 with
    | @tup a xs _ h1 h2 => exact ⟨a, xs, rfl, .inr ⟨(tupS R1.sub h1).sq, k _ H1 G1 ρ1 _ s1 R1 (itok_revT h1 h2) q1⟩⟩
def iZ (A : TDA) : TDI := fun ρ Q => A ρ fun vs ρ1 => ∃ xs ys, (vs = [.list xs, .list ys] ∨ vs = [.tuple xs, .tuple ys]) ∧ Q (zipD xs ys) ρ1
def sForI (T : TDI) (g : TDG) (B : TDS) : TDS := fun E ρ => T ρ fun ds ρ1 => forD g B E ds ρ1
theorem ls_forI {ti : TI} {T : TDI} {g : TG} {tg : TDG} (h : LI P K bor ti T) (hg : LGp P K bor g tg) (hb : LS K bor t S) : LS K bor (tFor ti g t) (sForI T tg S) := fun {c G σ H ρ E D} hc Rl q l =>
  h hc Rl q fun J H1 G1 ρ1 ds s1 R1 ⟨Gd, Y, w, gd, yl⟩ q1 => by
    refine for_it w (fun i σ' H' => ∃ G' ρ', Same G1 G' ∧ Rel K c G' σ' H' ρ' ∧ forD tg S E (ds.drop i) ρ') ⟨G1, ρ1, Same.refl _, R1, q1⟩ ?_ ?_ ?_
    · rintro i σ' H' _ ⟨G', ρ', s, R', _⟩
      exact gd H' (s.trans R'.sub)
    · rintro i x σ' H' H'' hi ⟨G', ρ', s, R', q'⟩ y
      obtain ⟨G3, d, hd, g3, p3⟩ := yl i H' x H'' G' hi s R'.sub y
      have ed : ds.drop i = d :: ds.drop (i + 1) := by
        rw [List.drop_eq_getElem_cons hi, (List.getElem?_eq_some_iff.mp hd).2]
      rw [ed] at q'
      refine hg hc (R'.grow g3) p3 q' fun σ2 ρ2 R2 q2 => ?_
      exact hb hc R2 q2 (for_links (G0 := G) (l.mono (s1.trans (s.trans g3.g))) fun s3 R3 q3 => ⟨_, _, s.trans (g3.g.trans s3), R3, q3⟩)
    · rintro σ' H' ⟨G', ρ', s, R', q'⟩
      rw [List.drop_length] at q'
      exact l.nx (s1.trans s) R' q'



def LGc (P : PIt) (K : PySem.W.Frag) (bor : List Nat) (vs : List Nat) (g : TG) (tg : TDG) : Prop :=
  ∀ ⦃c : C0⦄ ⦃G : Hp⦄ ⦃σ : L2.St⦄ ⦃H : Hp⦄ ⦃ρ : List Sl⦄ ⦃v : V⦄ ⦃d : D⦄ ⦃Qd : List Sl → Prop⦄ ⦃Q : L2.St → Hp → Prop⦄, c.bor = bor → Rel K c G σ H ρ → P K G H v d → tg d ρ Qd →
    (∀ σ' ρ', Rel K c G σ' H ρ' → wipe σ' vs = wipe σ vs → (∀ p o, MineO c G σ H ρ p o → MineO c G σ' H ρ' p o) → Qd ρ' → Q σ' H) → g v σ H Q
def LGcs (K : PySem.W.Frag) (bor : List Nat) (vs : List Nat) (g : TGs) (tg : List D → List Sl → (List Sl → Prop) → Prop) : Prop :=
  ∀ ⦃c : C0⦄ ⦃G : Hp⦄ ⦃σ : L2.St⦄ ⦃H : Hp⦄ ⦃ρ : List Sl⦄ ⦃us : List V⦄ ⦃ds : List D⦄ ⦃Qd : List Sl → Prop⦄ ⦃Q : L2.St → Hp → Prop⦄, c.bor = bor → Rel K c G σ H ρ → DqAll K G us ds → tg ds ρ Qd →
    (∀ σ' ρ', Rel K c G σ' H ρ' → wipe σ' vs = wipe σ vs → (∀ p o, MineO c G σ H ρ p o → MineO c G σ' H ρ' p o) → Qd ρ' → Q σ' H) → g us σ H Q
theorem lgc_name {vs : List Nat} {i : Nat} (hv : i ∈ vs) (hi : i ∉ bor) : LGc Pd K bor vs (gName i) (tgN i) := fun {c G σ H ρ v d Qd Q} hc R p q k =>
  k _ _ (R.store (fun a z => hi (hc ▸ R.bs _ _ z)) p) (wipe_set hv) (fun p o m => mineO_set m fun _ z => z) q
theorem lgcs_nil {vs : List Nat} : LGcs K bor vs gNil tgNil := fun {c G σ H ρ us ds Qd Q} hc R p ⟨e, q⟩ k => by
  subst e; cases p; exact ⟨rfl, k σ ρ R rfl (fun _ _ m => m) q⟩
theorem lgcs_cons {vs : List Nat} {g : TG} {gr : TGs} {tg : TDG} {tr : List D → List Sl → (List Sl → Prop) → Prop} (h1 : LGc Pd K bor vs g tg) (h2 : LGcs K bor vs gr tr) : LGcs K bor vs (gCons g gr) (tgCons tg tr) :=
  fun {c G σ H ρ us ds Qd Q} hc R p ⟨d, es, e, q⟩ k => by
    subst e
    cases p with
    | cons a b => exact ⟨_, _, rfl, h1 hc R a q fun σ1 ρ1 R1 w1 m1 q1 => h2 hc R1 b q1 fun σ2 ρ2 R2 w2 m2 q2 => k σ2 ρ2 R2 (w2.trans w1) (fun p o m => m2 p o (m1 p o m)) q2⟩
theorem lgc_tup {vs : List Nat} {n : Nat} {gr : TGs} {tr : List D → List Sl → (List Sl → Prop) → Prop} (h : LGcs K bor vs gr tr) : LGc Pd K bor vs (gTup K n gr) (tgTup n tr) := fun {c G σ H ρ v d Qd Q} hc R p ⟨ds, e, hl, q⟩ k => by
  subst e
  cases p with
  | tup s a => exact ⟨_, _, rfl, (tupS R.sub s).sq, by rw [dps_len a]; exact hl, h hc R a q k⟩
def compT (tg : TDG) (vs : List Nat) (C : TDT) (A : TDE) (Q : List D → List Sl → Prop) : List D → List D → List Sl → Prop
  | [], acc, ρ => Q acc ρ
  | d :: ds, acc, ρ => (vs.all fun v => plainAt v ρ) = true ∧ tg d (wipeD ρ vs) fun ρ0 => C ρ0 fun b ρ1 =>
      (b = true → A ρ1 fun y ρ2 => acc.length < 100000 ∧ compT tg vs C A Q ds (acc ++ [y]) (backD ρ ρ2 vs)) ∧ (b = false → compT tg vs C A Q ds acc (backD ρ ρ1 vs))
theorem compT_turn {tt : TT} {C : TDT} {g : TG} {tg : TDG} {c : C0} {G0 : Hp} {σ : L2.St} {H : Hp} {ρ : List Sl} {vs : List Nat} {Qd : List D → List Sl → Prop} {d : D} {ds acc : List D} {x : V} {L : Addr} {ws : List V} {Nx : Hp → Prop}
    (hc : c.bor = bor) (hg : LGc P K bor vs g tg) (hv : ∀ v ∈ vs, v ∉ bor) (ht : LT K bor tt C) (he : LE K bor te A) (R : Rel K c G0 σ H ρ) (m : Mine c G0 σ H ρ L ws) (pa : DqAll K G0 ws acc) (px : P K G0 H x d)
    (q : compT tg vs C A Qd (d :: ds) acc ρ)
    (next : ∀ G' H' ρ' acc' ws', Same G0 G' → Rel K c G' σ H' ρ' → Mine c G' σ H' ρ' L ws' → DqAll K G' ws' acc' → compT tg vs C A Qd ds acc' ρ' → Nx H') :
    g x (wipe σ vs) H fun σ2 H2 => wipe σ2 vs = wipe σ vs ∧ tt σ2 H2 fun b H3 =>
      if b = true then te σ2 H3 fun y H4 => ∃ acc, H4 L = some (.lst acc) ∧ acc.length < sizeLine ∧ Nx (upd H4 L (.lst (acc ++ [y]))) else Nx H3 := by
  subst hc
  obtain ⟨hn, q⟩ := q
  have nb := m.nb R
  have Rw := R.wiped (vs := vs) hv
  have mw : Mine c G0 (wipe σ vs) H (wipeD ρ vs) L ws := mineO_wipe m
  refine hg rfl Rw px q fun σ2 ρ2 Rx hw0 mx q => ?_
  have hw : wipe σ2 vs = wipe σ vs := hw0.trans wipe_wipe
  refine ⟨hw, ?_⟩
  have Rg := Rx.guard (mx _ _ mw)
  refine ht (c := c.aside L ws) rfl Rg q fun b H3 G3 ρ3 s3 R3 ⟨q1, q2⟩ => ?_
  cases b with
  | true =>
    refine iteT (he (c := c.aside L ws) rfl R3 (q1 rfl) fun y H4 G4 ρ4 yd s4 R4 py ⟨hz, q4⟩ => ?_)
    obtain ⟨R5, m5⟩ := R4.unguard m.2.2.1 nb
    have s04 : Same G0 G4 := s3.trans s4
    refine ⟨ws, m5.1, sz5 (by rw [dps_len pa]; exact hz), ?_⟩
    have R6 := R.unwiped R5 s04 hw hn hv
    have m6 := mine_back m5 R hw hn
    obtain ⟨R7, m7⟩ := R6.poke (vs := ws ++ [y]) m6
    exact next G4 _ _ _ _ s04 R7 m7 (dps_app (dpsS s04 pa) (.cons py .nil)) q4
  | false =>
    refine iteF ?_
    obtain ⟨R5, m5⟩ := R3.unguard m.2.2.1 nb
    have R6 := R.unwiped R5 s3 hw hn hv
    have m6 := mine_back m5 R hw hn
    exact next G3 H3 _ _ _ s3 R6 m6 (dpsS s3 pa) (q2 rfl)
def dCompI (T : TDI) (tg : TDG) (vs : List Nat) (C : TDT) (A : TDE) : TDL := fun ρ Q => T ρ fun ds ρ1 => compT tg vs C A Q ds [] ρ1
theorem ll_compI {ti : TI} {T : TDI} {tt : TT} {C : TDT} {g : TG} {tg : TDG} {vs : List Nat} (hi : LI P K bor ti T) (hg : LGc P K bor vs g tg) (hv : ∀ v ∈ vs, v ∉ bor) (ht : LT K bor tt C) (he : LE K bor te A) : LL K bor (tLc ti g tt te vs) (dCompI T tg vs C A) :=
  fun {c G σ H ρ Qd Q} hc R q k => hi hc R q fun J H1 G1 ρ1 ds s1 R1 ⟨Gd, Y, w, gd, yl⟩ q1 L hL => by
    have m0 := mine_new (vs := []) R1 hL
    have R0 := R1.grow (grow_own (o := .lst []) R1.sub hL)
    refine lc_it w (fun i H' => ∃ G' ρ' acc ws, Same G1 G' ∧ Rel K c G' σ H' ρ' ∧ Mine c G' σ H' ρ' L ws ∧ DqAll K G' ws acc ∧ compT tg vs C A Qd (ds.drop i) acc ρ') ⟨G1, ρ1, [], [], Same.refl _, R0, m0, .nil, q1⟩ ?_ ?_ ?_
    · rintro i H' _ ⟨G', ρ', acc, ws, s, R', _⟩
      exact gd H' (s.trans R'.sub)
    · rintro i x H' H'' hi2 ⟨G', ρ', acc, ws, s, R', m', pa, q'⟩ y
      obtain ⟨G3, d, hd, g3, p3⟩ := yl i H' x H'' G' hi2 s R'.sub y
      have ed : ds.drop i = d :: ds.drop (i + 1) := by
        rw [List.drop_eq_getElem_cons hi2, (List.getElem?_eq_some_iff.mp hd).2]
      rw [ed] at q'
      have m3 : Mine c G3 σ H'' ρ' L ws := ⟨g3.k m'.1, g3.n L (by rw [m'.1]; simp) m'.2.1, m'.2.2.1, fun j sl e ob => m'.2.2.2 j sl e (own_back g3.g (R'.sl j sl e) ob)⟩
      exact compT_turn hc hg hv ht he (R'.grow g3) m3 (dpsS g3.g pa) p3 q' fun G2 H2 ρ2 acc2 ws2 s2 R2 m2 pa2 q2 => ⟨G2, ρ2, acc2, ws2, s.trans (g3.g.trans s2), R2, m2, pa2, q2⟩
    · rintro H' ⟨G', ρ', acc, ws, s, R', m', pa, q'⟩
      rw [List.drop_length] at q'
      exact k L ws H' G' ρ' acc (s1.trans s) R' m' pa q'

end
end TN
namespace TN
open PySem PySem.Spec PyProof.Rows L2
def sRetV (j : Nat) : TDS := fun E ρ => ∃ xs, ownL j ρ = some xs ∧ E.rt (.ow xs) ρ
theorem ls_retV {K : PySem.W.Frag} {bor : List Nat} {j : Nat} (hj : j ∉ bor) : LS K bor (tRet (tVar j)) (sRetV j) := fun {c G σ H ρ E D} hc R ⟨xs, f1, q⟩ l => by
  obtain ⟨a, vs, e1, e2, e3, e4, e5⟩ := R.owAt (ownL_some f1)
  have h0 : c.H a = none := e5.resolve_right fun z => hj (hc ▸ R.bs _ _ z)
  exact ⟨_, e1, l.rt (Same.refl _) R (r := .ow xs) ⟨a, vs, rfl, e2, e4, h0, e3⟩ q⟩
end TN
namespace TN
open PySem PySem.Spec PyProof.Rows L2
end TN
set_option Elab.async false
set_option linter.all false
set_option maxRecDepth 100000
set_option maxHeartbeats 2000000
set_option autoImplicit false
namespace TN
open PySem PySem.Spec PyProof.Rows L2
end TN
namespace TN
open PySem PySem.Spec PyProof.Rows L2
theorem forD_go {α : Type} (enc : α → D) {g : TDG} {B : TDS} {E : DEnds} (I : List α → List Sl → Prop)
    (step : ∀ (x : α) (xs : List α) (ρ : List Sl) (E' : DEnds), I (x :: xs) ρ → (∀ ρ', I xs ρ' → E'.nx ρ') → (∀ ρ', I xs ρ' → E'.ct ρ') → E'.rt = E.rt → E'.bk = E.nx → g (enc x) ρ fun ρ1 => B E' ρ1) (done : ∀ ρ, I [] ρ → E.nx ρ) :
    ∀ (xs : List α) (ρ : List Sl), I xs ρ → forD g B E (xs.map enc) ρ
  | [], ρ, i => done ρ i
  | x :: xs, ρ, i => step x xs ρ _ i (fun ρ' h => forD_go enc I step done xs ρ' h) (fun ρ' h => forD_go enc I step done xs ρ' h) rfl rfl
theorem erase_get {r : List Str} {p : Nat} (h : p < r.length) : PyData.str (r.getD p "") :: (r.map PyData.str).eraseIdx p = (toF r p).map PyData.str := by
  unfold toF
  rw [List.eraseIdx_eq_take_drop_succ, List.map_append, List.map_append, List.map_take, List.map_drop]
  rfl
theorem get_strs {r : List Str} {p : Nat} (h : p < r.length) : (r.map PyData.str)[p]? = some (.str (r.getD p "")) := by
  rw [List.getElem?_map, List.getElem?_eq_getElem h, getD_of h]; rfl
end TN
namespace TN
open PySem PySem.Spec PyProof.Rows L2
end TN
set_option Elab.async false
set_option linter.all false
set_option maxRecDepth 100000
set_option maxHeartbeats 2000000
set_option autoImplicit false
namespace TN
open PySem PySem.Spec PyProof.Rows L2
structure Sho (k w : Nat) (x : D) : Prop where
  s : x.showable = true
  n : x.hasDict = false
  d : x.depth ≤ k
  l : x.leavesShort 13 = true
  w : x.weight ≤ w
theorem Sho.up {k w k' w' : Nat} {d : D} (h : Sho k w d) (hk : k ≤ k') (hw : w ≤ w') : Sho k' w' d := ⟨h.s, h.n, Nat.le_trans h.d hk, h.l, Nat.le_trans h.w hw⟩
theorem sho_all {k w : Nat} : ∀ {xs : List D}, (∀ x ∈ xs, Sho k w x) → PyData.showableAll xs = true ∧ PyData.hasDictAll xs = false ∧ PyData.depthAll xs ≤ k ∧ PyData.leavesShortAll 13 xs = true ∧ PyData.weightAll xs ≤ xs.length * (w + 1)
  | [], _ => by simp [PyData.showableAll, PyData.hasDictAll, PyData.depthAll, PyData.leavesShortAll, PyData.weightAll]
  | x :: xs, h => by
    obtain ⟨a1, a2, a3, a4, a5⟩ := sho_all (k := k) (w := w) (xs := xs) fun y hy => h y (List.mem_cons_of_mem _ hy)
    have b := h x List.mem_cons_self
    refine ⟨?_, ?_, ?_, ?_, ?_⟩
    · simp only [PyData.showableAll, a1, b.s, Bool.and_self]
    · simp only [PyData.hasDictAll, a2, b.n, Bool.or_self]
    · simp only [PyData.depthAll]; have := b.d; omega
    · simp only [PyData.leavesShortAll, a4, b.l, Bool.and_self]
    · simp only [PyData.weightAll, List.length_cons]
      have := b.w
      rw [Nat.succ_mul]
      omega
theorem Sho.lst {k w n : Nat} {xs : List D} (h : ∀ x ∈ xs, Sho k w x) (hn : xs.length ≤ n) : Sho (k + 1) (n * (w + 1)) (.list xs) := by
  obtain ⟨a1, a2, a3, a4, a5⟩ := sho_all h
  exact ⟨by simpa only [PyData.showable] using a1, by simpa only [PyData.hasDict] using a2, by simp only [PyData.depth]; omega, by simpa only [PyData.leavesShort] using a4, by simp only [PyData.weight]; exact Nat.le_trans a5 (Nat.mul_le_mul_right _ hn)⟩
theorem Sho.tup {k w n : Nat} {xs : List D} (h : ∀ x ∈ xs, Sho k w x) (hn : xs.length ≤ n) : Sho (k + 1) (n * (w + 1)) (.tuple xs) := by
  obtain ⟨a1, a2, a3, a4, a5⟩ := sho_all h
  exact ⟨by simpa only [PyData.showable] using a1, by simpa only [PyData.hasDict] using a2, by simp only [PyData.depth]; omega, by simpa only [PyData.leavesShort] using a4, by simp only [PyData.weight]; exact Nat.le_trans a5 (Nat.mul_le_mul_right _ hn)⟩
theorem Sho.non {k w : Nat} : Sho k w .none := ⟨by simp only [PyData.showable], by simp only [PyData.hasDict], by simp [PyData.depth], by simp only [PyData.leavesShort], by simp [PyData.weight]⟩
theorem Sho.bl {k w : Nat} (b : Bool) : Sho k w (.bool b) := ⟨by simp only [PyData.showable], by simp only [PyData.hasDict], by simp [PyData.depth], by simp only [PyData.leavesShort], by simp [PyData.weight]⟩
theorem Sho.int {k : Nat} {i : Int} (h : i.natAbs < 10 ^ 12) : Sho k 64 (.int i) := by
  have l : i.natAbs.log2 < 64 := by
    by_cases z : i.natAbs = 0
    · rw [z]; decide
    · exact (Nat.log2_lt z).mpr (Nat.lt_trans h (by decide))
  refine ⟨by simp only [PyData.showable, decide_eq_true_eq]; omega, by simp only [PyData.hasDict], by simp [PyData.depth], by simp only [PyData.leavesShort, decide_eq_true_eq]; exact PyData.shown_int_le h, ?_⟩
  simp only [PyData.weight]
  split <;> omega
theorem Sho.str {k : Nat} {x : Str} (h : okS x) (hl : x.cps.size ≤ 64) : Sho k 64 (.str x) := by
  refine ⟨by simp only [PyData.showable], by simp only [PyData.hasDict], by simp [PyData.depth], ?_, by simpa only [PyData.weight] using hl⟩
  simp only [PyData.leavesShort]
  rw [List.all_eq_true]
  intro c hc
  have h : x.cps.all (· < 0x110000) = true := h
  rw [Array.all_eq_true'] at h
  have := h c (Array.mem_toList_iff.mp hc)
  simp only [decide_eq_true_eq] at this ⊢
  omega
theorem Sho.let {k : Nat} {x : Str} (h : isL x) : Sho k 64 (.str x) := by
  obtain ⟨c, rfl, h1, h2⟩ := h
  refine Sho.str ?_ (by simp)
  show (#[c] : Array Nat).all (· < 0x110000) = true
  simp
  omega
theorem sho_two {k w : Nat} {a b : D} (h : Sho k w a) (h' : Sho k w b) : Sho (k + 1) (2 * (w + 1)) (.tuple [a, b]) :=
  .tup (fun d hd => by simp only [List.mem_cons, List.not_mem_nil, or_false] at hd; rcases hd with rfl | rfl <;> assumption) (by simp)
theorem sho_w {k : Nat} : ∀ {w : Str}, w ∈ words → Sho k 64 (.str w) := by
  intro w h
  simp only [words, List.mem_cons, List.not_mem_nil, or_false] at h
  rcases h with rfl | rfl | rfl | rfl | rfl <;> exact .str (by decide +kernel) (by decide +kernel)
theorem sho_ev {r : List Str} (hr : ∀ x ∈ r, isL x) (few : r.length ≤ 1000) {e : Ev} (h : e.ok r) : Sho 1 195 e.d := by
  have i : ∀ p : Nat, p < r.length → Sho 0 64 (.int p) := fun p hp => .int (by omega)
  have t2 : ∀ {a b : D}, Sho 0 64 a → Sho 0 64 b → Sho 1 195 (.tuple [a, b]) := fun h1 h2 => (sho_two h1 h2).up (Nat.le_refl _) (by decide)
  cases e with
  | place p => exact t2 (sho_w (by simp [words])) (i p h)
  | lost p => exact t2 (sho_w (by simp [words])) (i p h)
  | twice p => exact t2 (sho_w (by simp [words])) (i p h)
  | name x => exact t2 (sho_w (by simp [words])) (.let (hr x h))
  | as' p q => exact .tup (k := 0) (w := 64) (n := 3) (fun d hd => by
      simp only [List.mem_cons, List.not_mem_nil, or_false] at hd
      rcases hd with rfl | rfl | rfl
      · exact sho_w (by simp [words])
      · exact i p h.1
      · exact i q h.2.1) (by simp)
theorem sho_evs {r : List Str} (hr : ∀ x ∈ r, isL x) (few : r.length ≤ 1000) {es : List Ev} {n : Nat} (h : ∀ e ∈ es, e.ok r) (hn : es.length ≤ n) : Sho 2 (n * 196) (.list (es.map Ev.d)) :=
  .lst (k := 1) (w := 195) (fun d hd => by obtain ⟨e, he, rfl⟩ := List.mem_map.mp hd; exact sho_ev hr few (h e he)) (by rw [List.length_map]; exact hn)
theorem oRepr_tup {k w : Nat} {xs : List D} (h : Sho k w (.tuple xs)) (hk : k ≤ 60) (hw : w ≤ 1000000) : oRepr [.tuple xs] = some (.str (PyData.tuple xs).shown) := by
  have sl := PyData.shown_le 13 (by decide) _ h.l
  have := h.w
  have := h.d
  show (if (PyData.tuple xs).showable = true ∧ (PyData.tuple xs).hasDict = false ∧ (PyData.tuple xs).depth ≤ 60 ∧ (PyData.tuple xs).shown.length ≤ 16777216 then some (PyData.str (PyData.tuple xs).shown) else none) = _
  rw [if_pos ⟨h.s, h.n, by omega, by omega⟩]

def oNeS : F2 := fun d e => match d, e with
  | .str a, .str b => some (.bool (!decide (a = b)))
  | _, _ => none
theorem dec_strV {a b : Str} : decide (V.str a = V.str b) = decide (a = b) := by
  by_cases h : a = b
  · simp [h]
  · simp [h]
theorem rb_neS {K : PySem.W.Frag} : RB K rNe oNeS := fun {G H v w d e z Q} s p1 p2 e1 k => by
  unfold oNeS at e1; split at e1
  · injection e1 with e1; subst e1
    cases p1.str; cases p2.str
    exact ⟨rfl, by rw [dec_strV]; exact k _ G H (.refl s) (.bl _)⟩
  · cases e1
theorem oNeS_same {x : Str} : oNeS (.str x) (.str x) = some (.bool false) := by show some (PyData.bool (!decide (x = x))) = _; simp
end TN
namespace TN
open PySem PySem.Spec PyProof.Rows L2
end TN
set_option Elab.async false
set_option linter.all false
set_option maxRecDepth 100000
set_option maxHeartbeats 2000000
set_option autoImplicit false
namespace TN
open PySem PySem.Spec PyProof.Rows L2
theorem compD_go {α : Type} (enc : α → D) {j : Nat} {vs : List Nat} {C : TDT} {A : TDE} {Q : List D → List Sl → Prop} (I : List α → List D → List Sl → Prop)
    (step : ∀ (x : α) (xs : List α) (acc : List D) (ρ : List Sl) (K : List D → List Sl → Prop), I (x :: xs) acc ρ → (∀ acc' ρ', I xs acc' ρ' → K acc' ρ') →
      (vs.all fun v => plainAt v ρ) = true ∧ C ((wipeD ρ vs).set j (.sh (enc x))) fun b ρ1 => (b = true → A ρ1 fun y ρ2 => acc.length < 100000 ∧ K (acc ++ [y]) (backD ρ ρ2 vs)) ∧ (b = false → K acc (backD ρ ρ1 vs)))
    (done : ∀ acc ρ, I [] acc ρ → Q acc ρ) : ∀ (xs : List α) (acc : List D) (ρ : List Sl), I xs acc ρ → compD j vs C A Q (xs.map enc) acc ρ
  | [], acc, ρ, i => done acc ρ i
  | x :: xs, acc, ρ, i => step x xs acc ρ _ i fun acc' ρ' h => compD_go enc I step done xs acc' ρ' h
theorem compT_fil {α : Type} (enc o : α → D) (p : α → Bool) (J : α → Prop) (ρi : α → List Sl) {tg : TDG} {vs : List Nat} {C : TDT} {A : TDE} {Q : List D → List Sl → Prop} {ρ0 : List Sl}
    (own : (vs.all fun v => plainAt v ρ0) = true) (tgt : ∀ (x : α) (K : List Sl → Prop), K (ρi x) → tg (enc x) (wipeD ρ0 vs) K) (back : ∀ x, backD ρ0 (ρi x) vs = ρ0)
    (test : ∀ (x : α) (R : Bool → List Sl → Prop), J x → R (p x) (ρi x) → C (ρi x) R) (turn : ∀ (x : α) (R : D → List Sl → Prop), J x → p x = true → R (o x) (ρi x) → A (ρi x) R) :
    ∀ (xs : List α) (acc : List D), (∀ x ∈ xs, J x) → acc.length + xs.length ≤ 100000 → Q (acc ++ (xs.filter p).map o) ρ0 → compT tg vs C A Q (xs.map enc) acc ρ0
  | [], acc, _, _, q => by simpa [compT] using q
  | x :: xs, acc, hJ, few, q => by
    rw [List.length_cons] at few
    have jx := hJ x List.mem_cons_self
    have jr : ∀ y ∈ xs, J y := fun y hy => hJ y (List.mem_cons_of_mem _ hy)
    refine ⟨own, tgt x _ (test x _ jx ⟨fun hp => turn x _ jx hp ⟨by omega, ?_⟩, fun hp => ?_⟩)⟩
    · rw [back]
      refine compT_fil enc o p J ρi own tgt back test turn xs (acc ++ [o x]) jr (by rw [List.length_append, List.length_singleton]; omega) ?_
      rw [List.filter_cons_of_pos hp, List.map_cons] at q
      rw [List.append_assoc]
      exact q
    · rw [back]
      refine compT_fil enc o p J ρi own tgt back test turn xs acc jr (by omega) ?_
      rw [List.filter_cons_of_neg (by rw [hp]; simp)] at q
      exact q

def numd {α : Type} : Nat → List α → List (Nat × α)
  | _, [] => []
  | k, x :: xs => (k, x) :: numd (k + 1) xs
theorem numd_get {α : Type} : ∀ (k : Nat) (xs : List α) (i : Nat), (numd k xs)[i]? = xs[i]?.map fun x => (k + i, x)
  | _, [], i => by simp [numd]
  | k, x :: xs, 0 => rfl
  | k, x :: xs, i + 1 => by
    show (numd (k + 1) xs)[i]? = (xs[i]?).map _
    rw [numd_get]
    congr 1
    funext y
    rw [show k + 1 + i = k + (i + 1) by omega]
theorem enumD_map {α : Type} (enc : α → D) (xs : List α) : enumD (xs.map enc) = (numd 0 xs).map fun p => PyData.tuple [.int p.1, enc p.2] := by
  apply List.ext_getElem?
  intro i
  unfold enumD
  rw [List.getElem?_map, List.getElem?_map, numd_get, List.length_map]
  by_cases h : i < xs.length
  · rw [List.getElem?_range h, List.getElem?_eq_getElem h]
    show some (PyData.tuple [.int i, (xs.map enc).getD i .none]) = some (PyData.tuple [.int ((0 + i : Nat) : Int), enc xs[i]])
    rw [List.getD_eq_getElem?_getD, List.getElem?_map, List.getElem?_eq_getElem h, Nat.zero_add]
    rfl
  · rw [List.getElem?_eq_none (by simpa using h), List.getElem?_eq_none (by omega)]
    rfl
theorem rangeD_nat {n : Nat} : rangeD 0 (n : Int).toNat = (List.range n).map fun (k : Nat) => PyData.int k := by
  unfold rangeD
  simp only [Int.zero_add, Int.toNat_natCast]

def sMid (S T : TDS) : TDS := fun E ρ => ∃ I : List Sl → Prop, S { E with nx := I } ρ ∧ ∀ ρ', I ρ' → T E ρ'
theorem ls_mid {K : PySem.W.Frag} {bor : List Nat} {t u : TS} {S T : TDS} (h1 : LS K bor t S) (h2 : LS K bor u T) : LS K bor (tSeq t u) (sMid S T) := fun {c G σ H ρ E D} hc R ⟨I, q, k⟩ l =>
  h1 (D := { D with nx := u D }) hc R q ⟨fun s R' q' => h2 hc R' (k _ q') (l.mono s), fun s => l.rt s, fun s => l.bk s, fun s => l.ct s⟩

section
variable {K : PySem.W.Frag} {bor : List Nat} {te : TE} {ta tr : TA} {A : TDE} {R : TDA}
def mVar (j : Nat) (R : TDA) : TDA := fun ρ Q => (fTp j ρ).isSome = true ∧ R ρ fun ds ρ2 => ∃ d, fTp j ρ2 = some d ∧ Q (d :: ds) ρ2
def dCallM (sem : List D → (Sl → Prop) → Prop) (A : TDA) : TDE := fun ρ Q => A ρ fun ds ρ1 => sem ds fun r => ∃ d, r = .sh d ∧ flatD d = true ∧ Q d ρ1
end
end TN
set_option Elab.async false
set_option linter.all false
set_option maxRecDepth 100000
set_option maxHeartbeats 2000000
set_option autoImplicit false
namespace TN
open PySem PySem.Spec PyProof.Rows L2
def mOwn (i : Nat) : TDL := fun ρ Q => ∃ xs, ownL i ρ = some xs ∧ Q xs (ρ.set i .no)
theorem ll_own {K : PySem.W.Frag} {bor : List Nat} {i : Nat} (hi : i ∉ bor) : LL K bor (tVar i) (mOwn i) := fun {c G σ H ρ Qd Q} hc R ⟨xs, h, q⟩ k => by
  obtain ⟨a, vs, e1, e2, e3, e4, e5⟩ := R.owAt (ownL_some h)
  have hB : ∀ a, (i, a) ∉ c.B := fun a z => hi (hc ▸ R.bs _ _ z)
  have h0 : c.H a = none := e5.resolve_right (hB a)
  exact ⟨.ref a, e1, k a vs H G _ xs (Same.refl _) (R.drop (ownL_some h) e1 hB) ⟨e2, e4, h0, R.others (ownL_some h) e1⟩ e3 q⟩
end TN
set_option Elab.async false
set_option linter.all false
set_option maxRecDepth 100000
set_option maxHeartbeats 2000000
set_option autoImplicit false
namespace TN
open PySem PySem.Spec PyProof.Rows L2
section
variable {s : Shared} {A : Around} {w : World} {prog : Program} {E : Value → Shared → Prop}
end
section
variable {X : Cx}
end
end TN
set_option Elab.async false
set_option linter.all false
set_option maxRecDepth 100000
set_option maxHeartbeats 2000000
set_option autoImplicit false
namespace TN
open PySem PySem.Spec PyProof.Rows L2
abbrev ixS (x : Str) (r : List Str) : Nat := (idxS x r).getD 0
theorem front_perm {x : Str} {r : List Str} (h : x ∈ r) (nd : r.Nodup) : (front x r).Perm r := by
  have e := toF_name h nd
  have p := toF_perm (idx_lt h)
  rw [e] at p
  exact p
theorem toF_ix {x : Str} {r : List Str} (h : x ∈ r) (nd : r.Nodup) : toF r (ixS x r) = front x r := toF_name h nd

end TN
namespace TN
open PySem PySem.Spec PyProof.Rows L2
end TN
namespace TN
open PySem PySem.Spec PyProof.Rows L2
theorem oTIx {x : Str} {r : List Str} (h : x ∈ r) : oTIdx (tupL r) (.str x) = some (.int (ixS x r : Nat)) := oTIdx_of h
theorem frF {x : Str} {r : List Str} (h : x ∈ r) (nd : r.Nodup) (few : r.length ≤ 16) {Q : Sl → Prop} (q : Q (.sh (tupL (front x r)))) : semFront [tupL r, .int (ixS x r : Nat)] Q :=
  ⟨r, ixS x r, rfl, idx_lt h, few, by rw [toF_ix h nd]; exact q⟩
end TN
namespace TN
open PySem PySem.Spec PyProof.Rows L2
abbrev lstN (ks : List Nat) : D := .list (ks.map fun (k : Nat) => PyData.int k)
theorem fine_lstN {ks : List Nat} : Fine 9 (lstN ks) := .list fun d hd => by
  obtain ⟨k, _, rfl⟩ := List.mem_map.mp hd
  exact .int _
theorem lstN_inj {a b : List Nat} : lstN a = lstN b ↔ a = b := by
  constructor
  · intro e
    injection e with e
    exact List.map_inj_right (fun x y z => by injection z with z; omega) |>.mp e
  · rintro rfl; rfl
theorem oEq_lstN {a b : List Nat} : oEq (lstN a) (lstN b) = some (.bool (decide (a = b))) := by
  rw [oEq_is fine_lstN fine_lstN]
  congr 2
  exact decide_eq_decide.mpr lstN_inj
theorem oNe_lstN {a b : List Nat} : oNe (lstN a) (lstN b) = some (.bool (!decide (a = b))) := by
  rw [oNe_is fine_lstN fine_lstN]
  congr 3
  exact decide_eq_decide.mpr lstN_inj
theorem oLen_lstN {ks : List Nat} : oLen [lstN ks] = some (.int ks.length) := by show some (PyData.int (ks.map _).length) = _; rw [List.length_map]
theorem slice1 {a b c : D} : oSlice (some 1) none (.tuple [a, b, c]) = some (.tuple [b, c]) := rfl
theorem nodup_le : ∀ {l t : List Str}, l.Nodup → (∀ x ∈ l, x ∈ t) → l.length ≤ t.length
  | [], _, _, _ => Nat.zero_le _
  | x :: l, t, nd, h => by
    rw [List.nodup_cons] at nd
    have hx := h x List.mem_cons_self
    have ih := nodup_le (t := t.erase x) nd.2 fun y hy => (List.mem_erase_of_ne (show y ≠ x from fun z => nd.1 (by rw [← z]; exact hy))).mpr (h y (List.mem_cons_of_mem _ hy))
    rw [List.length_erase_of_mem hx] at ih
    have := List.length_pos_of_mem hx
    rw [List.length_cons]; omega
end TN
set_option Elab.async false
set_option linter.all false
set_option maxRecDepth 100000
set_option maxHeartbeats 4000000
set_option autoImplicit false
namespace TN
open PySem PySem.Spec PyProof.Rows
section
variable {pg : Program} {wd : World} {A : Around} {E : Value → Shared → Prop} {s : Shared}
end
end TN
namespace TN
open PySem PySem.Spec PyProof.Rows L2
section
variable {X : Cx}
end
end TN
set_option Elab.async false
set_option linter.all false
set_option maxRecDepth 100000
set_option maxHeartbeats 2000000
set_option autoImplicit false
namespace TN
open PySem PySem.Spec PyProof.Rows L2
end TN
set_option Elab.async false
set_option linter.all false
set_option maxRecDepth 100000
set_option maxHeartbeats 2000000
set_option autoImplicit false
namespace TN
open PySem PySem.Spec PyProof.Rows L2
def semBagC (ds : List D) (Q : Sl → Prop) : Prop := ∃ c : Int, ds = [.int c] ∧ ∀ xs : List D, Spl 0 xs → Q (.ow xs)
def semLineC (xs ds : List D) (Q : Sl → List D → Prop) : Prop := ∃ n m : Int, Spl n xs ∧ n + 200 ≤ big ∧ ds = [.int m] ∧ 1 ≤ m ∧ m ≤ 16 ∧
  ∀ (r : List Str) (ys : List D), GRow r → (r.length : Int) ≤ m → Spl (n + 200) ys → Q (.sh (tupL r)) ys
theorem row_sub {l rest L : List Str} (p : (l ++ rest).Perm L) (hL : ∀ x ∈ L, x ∈ alpha 26) (nd : L.Nodup) (h0 : 0 < l.length) (h1 : l.length ≤ 16) : GRow l where
  ne := fun z => by subst z; cases h0
  few := h1
  nd := (List.nodup_append.mp (p.nodup_iff.mpr nd)).1
  let' := fun x hx => alpha_let (by decide) x (hL x (p.mem_iff.mp (List.mem_append_left _ hx)))

def placesL : List Str → List Str → List Nat
  | _, [] => []
  | r, x :: s => ixS x r :: placesL (front x r) s
theorem placesL_len : ∀ (s r : List Str), (placesL r s).length = s.length
  | [], _ => rfl
  | x :: s, r => congrArg (· + 1) (placesL_len s _)

def saidL : List Str → List Nat → List Str
  | _, [] => []
  | r, p :: ps => r.getD p "" :: saidL (toF r p) ps
theorem saidL_len : ∀ (ps : List Nat) (r : List Str), (saidL r ps).length = ps.length
  | [], _ => rfl
  | p :: ps, r => congrArg (· + 1) (saidL_len ps _)
def semNeedRow (ds : List D) (Q : Sl → Prop) : Prop := ∃ r : List Str, ds = [tupL r] ∧ GRow r ∧ Q (.sh .none)
def semPlL (ds : List D) (Q : Sl → Prop) : Prop := ∃ r s : List Str, ds = [tupL r, lstL s] ∧ GRow r ∧ (∀ x ∈ s, x ∈ r) ∧ s.length ≤ 1000 ∧ Q (.ow ((placesL r s).map fun (k : Nat) => PyData.int k))
theorem pop_perm {l L : List Str} {k : Nat} (h : k < L.length) : ((l ++ [L.getD k ""]) ++ (L.take k ++ L.drop (k + 1))).Perm (l ++ L) := by
  rw [List.append_assoc]
  exact List.Perm.append_left _ (toF_perm h)
theorem pop_er {L : List Str} {k : Nat} (h : k < L.length) : (L.map PyData.str).eraseIdx k = (L.take k ++ L.drop (k + 1)).map PyData.str := by
  have e := erase_get h
  have e : PyData.str (L.getD k "") :: (L.map PyData.str).eraseIdx k = PyData.str (L.getD k "") :: (L.take k ++ L.drop (k + 1)).map PyData.str := e
  injection e
theorem pop_len {L : List Str} {k : Nat} (h : k < L.length) : (L.take k ++ L.drop (k + 1)).length + 1 = L.length := by
  have := (toF_perm h).length_eq
  exact this
theorem pw40 : oPow (.int 10) (.int 40) = some (.int 10000000000000000000000000000000000000000) := oPow_p (k := 40) (by decide) (by decide) (by decide +kernel)
theorem pw39 : oPow (.int 10) (.int 39) = some (.int 1000000000000000000000000000000000000000) := oPow_p (k := 39) (by decide) (by decide) (by decide +kernel)
theorem pw36 : oPow (.int 10) (.int 36) = some (.int 1000000000000000000000000000000000000) := oPow_p (k := 36) (by decide) (by decide) (by decide +kernel)
theorem oMul_r {i j : Int} (h : -18446744073709551616 < j ∧ j < 18446744073709551616) : oMul (.int i) (.int j) = some (.int (i * j)) := if_pos (.inr h)
theorem md40 {c : Int} : oMod (.int c) (.int (10000000000000000000000000000000000000000 + 121)) = some (.int (c % 10000000000000000000000000000000000000121)) := oMod_p (by decide)
theorem md39 {c : Int} : oMod (.int c) (.int (1000000000000000000000000000000000000000 + 3)) = some (.int (c % 1000000000000000000000000000000000000003)) := oMod_p (by decide)
theorem md36 {c : Int} : oMod (.int c) (.int (1000000000000000000000000000000000000 + 67)) = some (.int (c % 1000000000000000000000000000000000067)) := oMod_p (by decide)
end TN
set_option Elab.async false
set_option linter.all false
set_option maxRecDepth 100000
set_option maxHeartbeats 2000000
set_option autoImplicit false
namespace TN
open PySem PySem.Spec PyProof.Rows L2
theorem ix_getD {x : Str} {r : List Str} (h : x ∈ r) : r.getD (ixS x r) "" = x := by
  obtain ⟨j, h1, _⟩ := idxS_mem h
  have e := (idxS_is h1).1
  have : ixS x r = j := by show (idxS x r).getD 0 = j; rw [h1]; rfl
  rw [this, List.getD_eq_getElem?_getD, e]; rfl
theorem ix_at {r : List Str} {p : Nat} (nd : r.Nodup) (h : p < r.length) : ixS (r.getD p "") r = p := by
  show (idxS _ r).getD 0 = p
  rw [getD_of h, idxS_nd nd h]; rfl
theorem said_map {f : Str → Str} : ∀ (s u : List Str), u.Nodup → (∀ x ∈ s, x ∈ u) → saidL (u.map f) (placesL u s) = s.map f
  | [], _, _, _ => rfl
  | x :: s, u, nd, hs => by
    have hx := hs x List.mem_cons_self
    have p := front_perm hx nd
    show (u.map f).getD (ixS x u) "" :: saidL (toF (u.map f) (ixS x u)) (placesL (front x u) s) = f x :: s.map f
    rw [getD_map f (idx_lt hx), show u.getD ((idxS x u).getD 0) "" = x from ix_getD hx, toF_map f (idx_lt hx), toF_ix hx nd, said_map s (front x u) (p.nodup_iff.mpr nd) fun y hy => p.mem_iff.mpr (hs y (List.mem_cons_of_mem _ hy))]
theorem said_places {s u : List Str} (nd : u.Nodup) (hs : ∀ x ∈ s, x ∈ u) : saidL u (placesL u s) = s := by
  have := said_map (f := id) s u nd hs
  rwa [List.map_id, List.map_id] at this
theorem places_lt : ∀ (s u : List Str), u.Nodup → (∀ x ∈ s, x ∈ u) → ∀ p ∈ placesL u s, p < u.length
  | [], _, _, _, p, h => by cases h
  | x :: s, u, nd, hs, p, h => by
    have hx := hs x List.mem_cons_self
    have q := front_perm hx nd
    rcases List.mem_cons.mp h with rfl | h
    · exact idx_lt hx
    · have := places_lt s (front x u) (q.nodup_iff.mpr nd) (fun y hy => q.mem_iff.mpr (hs y (List.mem_cons_of_mem _ hy))) p h
      rw [q.length_eq] at this; exact this
theorem places_said : ∀ (ps : List Nat) (u : List Str), u.Nodup → (∀ p ∈ ps, p < u.length) → placesL u (saidL u ps) = ps
  | [], _, _, _ => rfl
  | p :: ps, u, nd, hp => by
    have h0 := hp p List.mem_cons_self
    have q := toF_perm h0
    show ixS (u.getD p "") u :: placesL (front (u.getD p "") u) (saidL (toF u p) ps) = p :: ps
    rw [ix_at nd h0, ← toF_front h0 nd, places_said ps (toF u p) (q.nodup_iff.mpr nd) fun y hy => by rw [q.length_eq]; exact hp y (List.mem_cons_of_mem _ hy)]
end TN
set_option Elab.async false
set_option linter.all false
set_option maxRecDepth 100000
set_option maxHeartbeats 2000000
set_option autoImplicit false
namespace TN
open PySem PySem.Spec PyProof.Rows L2
theorem ext_meets (l b : Addr) (xs zs : Array Value) (n m : Nat) (o : Obj) (oc : o.cls = .type "list") (od : o.data = .seq zs m) (h0 : ¬ (!xs.isEmpty && Builtin.List.listTooLong (xs.size + zs.size)) = true) (h1 : xs.size ≤ sizeLine) (h2 : xs.size + zs.size ≤ sizeLine + 1) :
    Meets (Builtin.«list.extend» ⟨[.ref l, .ref b], []⟩) (fun _ R s => s.heap.get? l = some { cls := .type "list", dict := none, data := .seq xs n, slots := #[] } ∧ s.heap.get? b = some o ∧
      R (.ok (.ret Value.none)) { s with heap := s.heap.update l (Obj.mapSeq fun x => x ++ zs), toks := s.toks }) := by
  obtain ⟨oc', odd, od', osl⟩ := o
  have oc : oc' = .type "list" := oc
  have od : od' = .seq zs m := od
  subst oc od
  refine .of_wp fun prog w A R s h => ?_
  obtain ⟨hp, g, d, tk, os⟩ := s
  obtain ⟨hl, hb, h⟩ := h
  have f1 := AutoSeq1.idx_int; have f2 := AutoSeq1.sub_tuple_tuple; have f3 := AutoSeq1.sub_list_list
  have f4 := AutoSeq1.sub_tuple_list; have f5 := AutoSeq1.sub_list_tuple
  have long : (xs ++ zs).size ≤ sizeLine + 1 := by rw [Array.size_append]; exact h2
  wp_walk using (wpAny_updateSeq hl rfl (hz := h1) (_hz' := long)), AutoSeq1.wpAny_loadPart' hl, AutoSeq1.wpAny_loadPart' hb
  exact ⟨_, rfl, h⟩
def rExtS (K : PySem.W.Frag) : V → List V → Hp → VK → Prop := fun x vs H Q => ∃ l b xs zs, x = .ref l ∧ vs = [.ref b] ∧ H l = some (.lst xs) ∧ SqL K H b zs ∧ xs.length + zs.length ≤ sizeLine ∧ Q .non (upd H l (.lst (xs ++ zs)))
theorem mt_extS {X : Cx} : MtM X "list.extend" (rExtS X.K) := by
  intro pins s σ H x vs v us Q I rx rv hh
  obtain ⟨l, b, xs, zs, rfl, rfl, hH, hB, hz, qq⟩ := hh
  cases rx
  obtain ⟨u, rfl, ru⟩ := rv.one; cases ru
  obtain ⟨z, its, n, r1, hl, e⟩ := I.lstM hH
  obtain ⟨its2, r2, ⟨o, m, e2, oc, od', od⟩, hz2⟩ := I.list hB
  have hl2 := r2.length
  have sz : its.toArray.size + its2.toArray.size ≤ sizeLine := by rw [List.size_toArray, List.size_toArray]; omega
  have short : ¬ (!its.toArray.isEmpty && Builtin.List.listTooLong (its.toArray.size + its2.toArray.size)) = true := by
    rw [notLongL sz, Bool.and_false]; exact Bool.false_ne_true
  refine call_meets F.slot_list_extend ⟨_, e, rfl⟩ F.entry_list_extend (F.args_list_extend_2 _ _) (ext_meets l b its.toArray its2.toArray n m o oc od short (by rw [List.size_toArray]; omega) (by omega)) ⟨e, e2, ?_⟩
  exact ⟨.non, _, I.lset (its' := its ++ its2) hH e (by simp) (r1.append r2) (by rw [List.length_append]; omega), rfl, qq⟩
section
variable {K : PySem.W.Frag} {bor : List Nat} {te : TE}
def dExtS (j : Nat) (A : TDE) : TDE := fun ρ Q => (ownL j ρ).isSome = true ∧ A ρ fun d ρ1 => ∃ zs, d = .list zs ∧ ∃ xs, ownL j ρ1 = some xs ∧ xs.length + zs.length ≤ 100000 ∧ Q .none (ρ1.set j (.ow (xs ++ zs)))
theorem le_extS {j : Nat} {A : TDE} (h : LE K bor te A) : LE K bor (tBM K "list" (rExtS K) (tVar j) (tCons te tNil)) (dExtS j A) := fun {c G σ H ρ Qd Q} hc R ⟨q0, q⟩ k => by
  obtain ⟨a, e1, vs0, e2⟩ := ow_val R q0
  refine ⟨_, e1, tyL e2, h hc R q fun v H1 G1 ρ1 d s R1 p1 ⟨zs, ed, xs, f1, f2, q1⟩ => ?_⟩
  subst ed
  obtain ⟨vs, f3, f4⟩ := ow_at R1 f1 e1
  obtain ⟨b, ws, rfl, g1, g2⟩ := DpM.list R1.sub (.inl p1)
  refine ⟨a, b, vs, ws, rfl, rfl, f3, rdL g1, by rw [dps_len f4, dps_len g2]; exact Nat.le_trans f2 (by decide), k _ _ G1 _ .none s ?_ .non q1⟩
  exact R1.change (ownL_some f1) e1 (dps_app f4 g2)
end
end TN
set_option Elab.async false
set_option linter.all false
set_option maxRecDepth 100000
set_option maxHeartbeats 2000000
set_option autoImplicit false
namespace TN
open PySem PySem.Spec PyProof.Rows L2
def semAct (ds : List D) (Q : Sl → Prop) : Prop := ∃ (t h : List Str) (e : Ev), ds = [pairS t h, e.d] ∧ GPair t h ∧ e.ok t ∧
  Q (.sh (.tuple [pairS (toF t (e.at t)) (takeAll h (e.takes h)).1, .str (t.getD (e.at t) ""), lstL (takeAll h (e.takes h)).2]))
def semGoneC (ds : List D) (Q : Sl → Prop) : Prop := ∃ (t h : List Str) (es : List Ev), ds = [pairS t h, .list (es.map Ev.d)] ∧ GPair t h ∧ es.length ≤ 1000 ∧ (∀ e ∈ es, e.ok t) ∧
  Q (.sh (.tuple [pairS (runT t es).1 (runH h es).1, lstL (runT t es).2, lstL (runH h es).2]))

def semActs (xs ds : List D) (Q : Sl → List D → Prop) : Prop := ∃ (n m : Int) (r ks : List Str), Spl n xs ∧ n + 5000 ≤ big ∧ ds = [tupL r, .int m, lstL ks] ∧ 0 ≤ m ∧ m ≤ 200 ∧ GRow r ∧ (0 < ks.length ∧ ks.length ≤ 10) ∧ (∀ w ∈ ks, w ∈ words) ∧
  ∀ (es : List Ev) (ys : List D), (∀ e ∈ es, e.ok r ∧ (e.kind ∈ ks ∨ ∃ p, e = .place p)) → (es.length : Int) ≤ m → Spl (n + 5000) ys → Q (.ow (es.map Ev.d)) ys
end TN
set_option Elab.async false
set_option linter.all false
set_option maxRecDepth 100000
set_option maxHeartbeats 2000000
set_option autoImplicit false
namespace TN
open PySem PySem.Spec PyProof.Rows L2
theorem callKw {prog : Program} {w : World} {A : Around} {E : Value → Shared → Prop} {s : Shared} {id : String} {b : Builtin} {args : List Value} {kw : List (Str × Value)} {Q : Value → Shared → Prop} (hk : builtinKind id = none) (hp : plainId id = true) (hb : entryFor table id = some b) (ha : argsOk id ⟨args, kw⟩)
    (hc : wpAny (model prog w) A.in1 (b ⟨args, kw⟩) (fun fin s1 => match fin with
      | .done f => (match (Except.ok f : Result) with | .ok (.ret v) => Q v s1 | .ok _ => False | .error e => E e s1)
      | .again c => c.quiet = true ∧ codeAny (model prog w) A c (fun r s1 => match r with | .ok (.ret v) => Q v s1 | .ok _ => False | .error e => E e s1) s1) E s) : wpAny (model prog w) A (call (.builtin id) args kw) Q E s := by
  apply wpAny_call; apply codeAny_call_builtin hp hb; simp only [checkBuiltinCall, hk]
  cases sg : Manifest.signature? id with
  | none => exact wpAny_pure hc
  | some sig =>
    have g : Bind.checkArgs id sig ⟨args, kw⟩ = pure () := by simpa only [argsOk, sg] using ha
    simp only [g]; exact wpAny_pure hc

theorem int_at {xs : List Int} {its : List Value} (rv : Vals (xs.map V.int) its) {i : Nat} {v : Value} (e : its.toArray[i]? = some v) : ∃ t, v = .int (xs.getD i 0) t := by
  have e : its[i]? = some v := by simpa using e
  obtain ⟨x, ex, rx⟩ := vals_ix rv e
  rw [List.getElem?_map] at ex
  obtain ⟨y, ey, rfl⟩ := Option.map_eq_some_iff.mp ex
  obtain ⟨t, rfl⟩ : ∃ t, v = .int y t := rx
  exact ⟨t, by rw [List.getD_eq_getElem?_getD, ey]; rfl⟩

section
variable {R : Result → Shared → Prop} {St : Nat → Heap → Prop} {P : Nat → Value → Prop} {prog : Program} {w : World} {A : Around} {I : Addr} {fp wr : List Addr} {n : Nat}
end
section
variable {w : World} {prog : Program} {A : Around} {E : Value → Shared → Prop} {s : Shared}
end
theorem argsD_min (a d : Value) : argsOk "min" ⟨[a], [("default", d)]⟩ := by unfold argsOk; kernel_rfl
section
variable {R : Result → Shared → Prop} {St : Nat → Heap → Prop} {P : Nat → Value → Prop} {prog : Program} {w : World} {A : Around} {I : Addr} {fp wr : List Addr} {n : Nat}
theorem kwLoop_min (W : Walks prog w A.in1 I fp wr n P St) (bt : Nat → Nat → Bool) (cmp : CmpOf prog w A.in1 .Lt P bt) (T : Addr) (out : T ∉ fp) (kw : List (Str × Value)) :
    ∀ (k j : Nat) (s : Shared) (u : Value) (c : Nat), n - (j + 1) = k → j + 1 ≤ n → St (j + 1) s.heap → P (argBest bt j) u → s.heap.get? T = some { cls := .type "list", dict := none, data := .seq #[u, u] c, slots := #[] } →
    (∀ v h1 t1, P (argBest bt (n - 1)) v → (∀ b o, b ∉ wr → b ≠ T → s.heap.get? b = some o → h1.get? b = some o) → R (.ok (.ret v)) { s with heap := h1, toks := t1 }) → codeAny (model prog w) A (.builtin "min.loop" ⟨[.ref I, .none, .ref T], kw⟩) R s := by
  have out2 : T ∉ wr := fun z => out (W.sub _ z)
  have nm : (toString "min" ++ toString ".loop" : String) = "min.loop" := by decide
  intro k
  induction k with
  | zero =>
    intro j s u c e1 le st pu at0 q
    have en : j + 1 = n := by omega
    apply codeAny_builtin F.entry_min_loop; rw [Around.under_plainId F.plain_min_loop _]
    show wpAny _ A.in1 (seqItems? (.ref T) >>= _) _ _ s
    apply wpAny_bind; apply wpAny_seqItems at0 rfl
    show wpAny _ A.in1 (tryCatch (pyNext (.ref I)) _ >>= _) _ _ s; apply wpAny_bind
    refine wpAny_tryCatch (W.done s _ _ (en ▸ st) fun h1 t1 keep => ?_)
    have at1 := keep T _ out2 at0
    show wpAny _ A.in1 (updateSeq T (fun _ => #[]) >>= _) _ _ _; apply wpAny_bind
    refine wpAny_updateSeq at1 rfl (wpAny_bind (wpAny_letGo (wpAny_pure (q u _ t1 (by rw [← en]; exact pu) fun b o b1 b2 e => ?_))))
    exact (Heap.get?_update_other _ _ (Ne.symm b2)).trans (keep b o b1 e)
  | succ k ih =>
    intro j s u c e1 le st pu at0 q
    have lt : j + 1 < n := by omega
    apply codeAny_builtin F.entry_min_loop; rw [Around.under_plainId F.plain_min_loop _]
    show wpAny _ A.in1 (seqItems? (.ref T) >>= _) _ _ s
    apply wpAny_bind; apply wpAny_seqItems at0 rfl
    show wpAny _ A.in1 (tryCatch (pyNext (.ref I)) _ >>= _) _ _ s; apply wpAny_bind
    refine wpAny_tryCatch (W.item (j + 1) s _ _ lt st fun v h1 t1 pv st1 keep => ?_)
    have at1 := keep T _ out2 at0
    show wpAny _ A.in1 (tryCatch (holding [v, v] (richCompare .Lt v u >>= _)) _ >>= _) _ _ _; apply wpAny_bind
    refine wpAny_tryCatch (wpAny_holding (wpAny_bind (cmp (j + 1) (argBest bt j) v u _ _ _ pv pu ?_)))
    apply wpAny_bind; refine wpAny_holding (wpAny_truthy_bool (wpAny_bind (wpAny_letGo (wpAny_pure ?_))))
    cases hbt : bt (j + 1) (argBest bt j) with
    | true =>
      simp only [if_true]; apply wpAny_bind
      refine wpAny_updateSeq at1 rfl (wpAny_bind (wpAny_letGo ?_)); rw [nm]
      refine wpAny_pure ⟨plainId_quiet F.plain_min_loop _, ih (j + 1) _ v _ (by omega) lt (W.frame _ _ _ st1 fun b bf o e => ?_) (by simp only [argBest, hbt, if_true]; exact pv) (Heap.get?_update_self _ at1 rfl) fun v2 h2 t2 pv2 keep2 => ?_⟩
      · exact (Heap.get?_update_other _ _ fun z : T = b => out (by rw [z]; exact bf)).trans e
      · exact q v2 h2 t2 pv2 fun b o b1 b2 e => keep2 b o b1 b2 ((Heap.get?_update_other _ _ (Ne.symm b2)).trans (keep b o b1 e))
    | false =>
      simp only [Bool.false_eq_true, if_false]; apply wpAny_bind; apply wpAny_letGo; rw [nm]
      exact wpAny_pure ⟨plainId_quiet F.plain_min_loop _, ih (j + 1) _ u c (by omega) lt st1 (by simp only [argBest, hbt, Bool.false_eq_true, if_false]; exact pu) at1 fun v2 h2 t2 pv2 keep2 => q v2 h2 t2 pv2 fun b o b1 b2 e => keep2 b o b1 b2 (keep b o b1 e)⟩
theorem kwFirst_min (W : Walks prog w A.in1 I fp wr n P St) (bt : Nat → Nat → Bool) (cmp : CmpOf prog w A.in1 .Lt P bt) (T : Addr) (out : T ∉ fp) (d : Value) {s : Shared} {c : Nat} (st : St 0 s.heap) (at0 : s.heap.get? T = some { cls := .type "list", dict := none, data := .seq #[] c, slots := #[] })
    (q : 0 < n → ∀ v h1 t1, P (argBest bt (n - 1)) v → (∀ b o, b ∉ wr → b ≠ T → s.heap.get? b = some o → h1.get? b = some o) → R (.ok (.ret v)) { s with heap := h1, toks := t1 })
    (q0 : n = 0 → ∀ h1 t1, (∀ b o, b ∉ wr → b ≠ T → s.heap.get? b = some o → h1.get? b = some o) → R (.ok (.ret d)) { s with heap := h1, toks := t1 }) : codeAny (model prog w) A (.builtin "min.loop" ⟨[.ref I, .none, .ref T], [("default", d)]⟩) R s := by
  have out2 : T ∉ wr := fun z => out (W.sub _ z)
  have nm : (toString "min" ++ toString ".loop" : String) = "min.loop" := by decide
  apply codeAny_builtin F.entry_min_loop; rw [Around.under_plainId F.plain_min_loop _]
  show wpAny _ A.in1 (seqItems? (.ref T) >>= _) _ _ s
  apply wpAny_bind; apply wpAny_seqItems at0 rfl
  show wpAny _ A.in1 (tryCatch (pyNext (.ref I)) _ >>= _) _ _ s; apply wpAny_bind
  by_cases n0 : 0 < n
  · refine wpAny_tryCatch (W.item 0 s _ _ n0 st fun v h1 t1 pv st1 keep => ?_)
    have at1 := keep T _ out2 at0
    show wpAny _ A.in1 (updateSeq T (fun _ => #[v, v]) >>= _) _ _ _; apply wpAny_bind; apply wpAny_updateSeq at1 rfl; rw [nm]
    refine wpAny_pure ⟨plainId_quiet F.plain_min_loop _, kwLoop_min W bt cmp T out [("default", d)] _ 0 _ v _ rfl n0 (W.frame _ _ _ st1 fun b bf o e => ?_) pv (Heap.get?_update_self _ at1 rfl) fun v2 h2 t2 pv2 keep2 => ?_⟩
    · exact (Heap.get?_update_other _ _ fun z : T = b => out (by rw [z]; exact bf)).trans e
    · exact q n0 v2 h2 t2 pv2 fun b o b1 b2 e => keep2 b o b1 b2 ((Heap.get?_update_other _ _ (Ne.symm b2)).trans (keep b o b1 e))
  · have en : n = 0 := by omega
    refine wpAny_tryCatch (W.done s _ _ (en ▸ st) fun h1 t1 keep => ?_)
    show wpAny _ A.in1 (rule _ >>= fun _ => _) _ _ _
    exact wpAny_bind (wpAny_rule (wpAny_pure (q0 en h1 t1 fun b o b1 _ e => keep b o b1 e)))
end
section
variable {w : World} {prog : Program} {A : Around} {E : Value → Shared → Prop} {s : Shared}
theorem callD_min {x d : Value} {Q : Value → Shared → Prop}
    (h : wpAny (model prog w) A.in1 (pyIter x) (fun it s1 => ∃ I fp wr n P St bt, it = .ref I ∧ Walks prog w A.in1 I fp wr n P St ∧ St 0 s1.heap ∧ (∀ b ∈ fp, b < s1.heap.objs.size) ∧ CmpOf prog w A.in1 .Lt P bt ∧
      (0 < n → ∀ v h1 t1, P (argBest bt (n - 1)) v → (∀ b o, b ∉ wr → s1.heap.get? b = some o → h1.get? b = some o) → Q v { s1 with heap := h1, toks := t1 }) ∧
      (n = 0 → ∀ h1 t1, (∀ b o, b ∉ wr → s1.heap.get? b = some o → h1.get? b = some o) → Q d { s1 with heap := h1, toks := t1 })) E s) : wpAny (model prog w) A (call (.builtin "min") [x] [("default", d)]) Q E s := by
  have nm : (toString "min" ++ toString ".loop" : String) = "min.loop" := by decide
  refine callKw F.kind_min F.plain_min F.entry_min (argsD_min _ _) ?_
  show wpAny _ A.in1 (Builtin.Builtins.bindParams "min" ["key", "default"] 0 ⟨[], [("default", d)]⟩ >>= _) _ _ s; apply wpAny_bind
  refine wpAny_of_eq (show Builtin.Builtins.bindParams "min" ["key", "default"] 0 ⟨[], [("default", d)]⟩ = pure [none, some d] from rfl) (wpAny_bind (wpAny_pure (wpAny_bind (wpAny_mono h (fun it s1 g => ?_) fun _ _ e => e))))
  obtain ⟨I, fp, wr, n, P, St, bt, rfl, W, st, hfp, cmp, q, q0⟩ := g
  apply wpAny_bind; refine wpAny_newObj_type ?_
  have out : s1.heap.objs.size ∉ fp := fun z => Nat.lt_irrefl _ (hfp _ z)
  rw [nm]
  refine wpAny_pure ⟨plainId_quiet F.plain_min_loop _, kwFirst_min W bt cmp s1.heap.objs.size out d (W.frame _ _ _ st fun b _ o e => Heap.get?_push_of_some _ e) (Heap.get?_push_size _ rfl) (fun n0 v h1 t1 pv keep => ?_) fun n0 h1 t1 keep => ?_⟩
  · exact q n0 v h1 t1 pv fun b o b1 e => keep b o b1 (Nat.ne_of_lt (Heap.lt_size e)) (Heap.get?_push_of_some _ e)
  · exact q0 n0 h1 t1 fun b o b1 e => keep b o b1 (Nat.ne_of_lt (Heap.lt_size e)) (Heap.get?_push_of_some _ e)
end
abbrev lqmin (x y : Int) : Prop := y ≤ x

theorem best_min (val : Nat → Int) : ∀ k, argBest (fun i j => decide (val i < val j)) k ≤ k ∧ ∀ j, j ≤ k → lqmin (val j) (val (argBest (fun i j => decide (val i < val j)) k))
  | 0 => ⟨Nat.le_refl _, fun j hj => by
    have : j = 0 := Nat.le_zero.mp hj
    subst this; exact Int.le_refl _⟩
  | k + 1 => by
    obtain ⟨h1, h2⟩ := best_min val k
    have e : argBest (fun i j => decide (val i < val j)) (k + 1) = if decide (val (k + 1) < val (argBest (fun i j => decide (val i < val j)) k)) = true then k + 1 else argBest (fun i j => decide (val i < val j)) k := rfl
    rw [e]
    generalize argBest (fun i j => decide (val i < val j)) k = b at h1 h2
    by_cases c : val (k + 1) < val b
    · rw [if_pos (decide_eq_true c)]
      refine ⟨Nat.le_refl _, fun j hj => ?_⟩
      by_cases hjk : j = k + 1
      · subst hjk; exact Int.le_refl _
      · have := h2 j (by omega)
        simp only [lqmin] at this ⊢; omega
    · rw [if_neg (by simpa using c)]
      refine ⟨by omega, fun j hj => ?_⟩
      by_cases hjk : j = k + 1
      · subst hjk; simp only [lqmin]; omega
      · exact h2 j (by omega)
def rD_min (K : PySem.W.Frag) : List V → List V → Hp → VK → Prop := fun vs zs H Q => ∃ (a : Addr) (xs : List Int) (d : V), vs = [V.ref a] ∧ zs = [d] ∧ SqL K H a (xs.map V.int) ∧ (xs = [] → Q d H) ∧ ∀ m, m ∈ xs → (∀ y ∈ xs, lqmin y m) → Q (.int m) H
theorem crD_min {X : Cx} (hc : X.calm = true) : CallRK X (.builtin "min") [Str.ofString "default"] (rD_min X.K) := by
  intro pins s σ H vs zs us ws Q I r rz hh
  obtain ⟨a, xs, d, rfl, rfl, hs, q0, q⟩ := hh
  obtain rfl := Vals.ref1 r
  obtain ⟨w1, rfl, e1⟩ := vals1 rz
  obtain ⟨its, rv, hl, _⟩ := I.list hs
  have l := rv.length
  rw [List.length_map] at l
  have hl := hl.isList
  have lt : a < s.heap.objs.size := by obtain ⟨_, e, _⟩ := hl; exact Heap.lt_size e
  show wpAny _ _ (call (.builtin "min") [.ref a] [("default", w1)]) _ _ _
  apply callD_min; apply wpAny_pyIter_list hl
  refine ⟨_, _, _, _, _, _, _, rfl, Walks.list (A := X.A.in1) (I.ok.hd hc) _ a (Nat.ne_of_lt lt) its.toArray, ⟨⟨_, Heap.get?_push_size _ rfl, rfl, rfl⟩, hl.push _⟩, fun b hb => ?_, CmpOf.ints_lt (fun i => xs.getD i 0) (fun _ _ e => int_at rv e), fun n0 v h1 t1 pv keep => ?_, fun n0 h1 t1 keep => ?_⟩
  · show b < (s.heap.push _).objs.size
    rw [Heap.size_push]
    rcases List.mem_cons.mp hb with rfl | hb
    · exact Nat.lt_succ_self _
    · rw [List.mem_singleton.mp hb]; exact Nat.lt_succ_of_lt lt
  · obtain ⟨t, rfl⟩ := int_at rv pv
    obtain ⟨b1, b2⟩ := best_min (fun i => xs.getD i 0) (its.toArray.size - 1)
    rw [List.size_toArray] at b1 b2 n0
    refine ⟨.int (xs.getD (argBest (fun i j => decide (xs.getD i 0 < xs.getD j 0)) (its.length - 1)) 0), H, I.kept (t' := t1) fun b o e => ?_, ⟨t, rfl⟩, q _ ?_ fun y hy => ?_⟩
    · exact keep b o (fun z => by rw [List.mem_singleton.mp z] at e; exact absurd (Heap.lt_size e) (Nat.lt_irrefl _)) (Heap.get?_push_of_some _ e)
    · rw [List.getD_eq_getElem?_getD, List.getElem?_eq_getElem (by omega)]; exact List.getElem_mem _
    · obtain ⟨j, hj, rfl⟩ := List.mem_iff_getElem.mp hy
      have g := b2 j (by omega)
      have ej : xs.getD j 0 = xs[j] := by rw [List.getD_eq_getElem?_getD, List.getElem?_eq_getElem hj]; rfl
      rw [ej] at g; exact g
  · refine ⟨d, H, I.kept (t' := t1) fun b o e => ?_, e1, q0 (List.length_eq_zero_iff.mp (by rw [List.size_toArray] at n0; omega))⟩
    exact keep b o (fun z => by rw [List.mem_singleton.mp z] at e; exact absurd (Heap.lt_size e) (Nat.lt_irrefl _)) (Heap.get?_push_of_some _ e)
def minL : List Int → Int
  | [] => 0
  | [x] => x
  | x :: y :: xs => min x (minL (y :: xs))
theorem minL_is : ∀ {xs : List Int} {m : Int}, m ∈ xs → (∀ y ∈ xs, lqmin y m) → minL xs = m
  | [], _, h, _ => by cases h
  | [x], m, h, _ => (List.mem_singleton.mp h).symm
  | x :: y :: xs, m, h, g => by
    show min x (minL (y :: xs)) = m
    have gx : lqmin x m := g x List.mem_cons_self
    have gt : ∀ z ∈ y :: xs, lqmin z m := fun z hz => g z (List.mem_cons_of_mem _ hz)
    simp only [lqmin] at gx
    by_cases hm : m ∈ y :: xs
    · rw [minL_is hm gt]; omega
    · rcases List.mem_cons.mp h with rfl | h
      · have : ∀ (ys : List Int), ys ≠ [] → (∀ z ∈ ys, lqmin z m) → lqmin (minL ys) m := by
          intro ys
          induction ys with
          | nil => intro z; exact absurd rfl z
          | cons a ys ih =>
            intro _ k
            cases ys with
            | nil => exact k a List.mem_cons_self
            | cons b ys =>
              have i1 := ih (by simp) fun z hz => k z (List.mem_cons_of_mem _ hz)
              have i2 := k a List.mem_cons_self
              simp only [lqmin] at i1 i2 ⊢
              show _ ≤ _
              simp only [minL]; omega
        have i1 := this (y :: xs) (by simp) gt
        simp only [lqmin] at i1; omega
      · exact absurd h hm

def ominD (dd : D) : OC := fun ds => match ds with
  | [.list xs] => (intsOf xs).map fun is => if is = [] then dd else .int (minL is)
  | _ => none
theorem rcD_min {K : PySem.W.Frag} {c : V} {dd : D} (hd : ∀ G, Dq K G c dd) : RC K (fun vs H Q => rD_min K vs [c] H Q) (ominD dd) := fun {G H vs ds z Q} s p e k => by
  unfold ominD at e
  split at e
  · rename_i xs
    obtain ⟨is, e1, rfl⟩ := Option.map_eq_some_iff.mp e
    cases p with
    | cons a b =>
      cases b
      rw [intsOf_is e1] at a
      obtain ⟨x, us, rfl, h1, h2⟩ := a.list s
      rw [dq_ints h2] at h1
      refine ⟨x, is, c, rfl, rfl, h1, fun z => ?_, fun m a1 a2 => ?_⟩
      · subst z; exact k _ G H (.refl s) (hd _)
      · have ne : is ≠ [] := fun z => by subst z; cases a1
        rw [if_neg ne, minL_is a1 a2] at k
        exact k _ G H (.refl s) (.int _)
  · cases e

section
variable {K : PySem.W.Frag} {bor : List Nat} {r : List V → List V → Hp → VK → Prop} {o : OC} {ta : TA} {c : V}
theorem le_cbK {A : TDA} (h : LEs K bor ta A) (hr : RC K (fun vs H Q => r vs [c] H Q) o) : LE K bor (tCKw r ta (tCons (tC c) tNil)) (dCB o A) := le_cb (r := fun vs H Q => r vs [c] H Q) h hr
end
end TN
set_option Elab.async false
set_option linter.all false
set_option maxRecDepth 100000
set_option maxHeartbeats 2000000
set_option autoImplicit false
namespace TN
open PySem PySem.Spec PyProof.Rows L2
def oD (j : Nat) (ρ : List Sl) : Option (List (Key × D)) := match ρ[j]? with
  | some (.od kvs) => some kvs
  | _ => none
def valD (kvs : List (Key × D)) (k : Key) : Option D := (kvs.find? fun kv => decide (kv.1 = k)).map (·.2)
def putD (kvs : List (Key × D)) (k : Key) (d : D) : List (Key × D) :=
  if (kvs.any fun kv => decide (kv.1 = k)) = true then kvs.map (fun kv => if kv.1 = k then (kv.1, d) else kv) else kvs ++ [(k, d)]
section
variable {K : PySem.W.Frag} {bor : List Nat} {te ti tx : TE} {A B : TDE} {f g h : FE}
def sDNew (i : Nat) : TDS := fun E ρ => E.nx (ρ.set i (.od []))
def sPutD (j : Nat) (A B : TDE) : TDS := fun E ρ => A ρ fun d ρ1 => (oD j ρ1).isSome = true ∧ B ρ1 fun e ρ2 => ∃ kvs k, oD j ρ2 = some kvs ∧ keyK e = some k ∧ kvs.length < 100000 ∧ E.nx (ρ2.set j (.od (putD kvs k d)))
def fGetO (j : Nat) (g : FE) : FE := fun ρ => match oD j ρ, g ρ with
  | some kvs, some e => (keyK e).bind fun k => valD kvs k
  | _, _ => none
def fGetO2 (j : Nat) (g h : FE) : FE := fun ρ => match oD j ρ, g ρ, h ρ with
  | some kvs, some e, some z => (keyK e).map fun k => (valD kvs k).getD z
  | _, _, _ => none
def fInO (j : Nat) (g : FE) : FE := fun ρ => match oD j ρ, g ρ with
  | some kvs, some e => (keyK e).map fun k => .bool (valD kvs k).isSome
  | _, _ => none
def fNinO (j : Nat) (g : FE) : FE := fun ρ => match oD j ρ, g ρ with
  | some kvs, some e => (keyK e).map fun k => .bool (!(valD kvs k).isSome)
  | _, _ => none
def dVarD (i : Nat) : TDE := fun ρ Q => ∃ kvs, oD i ρ = some kvs ∧ Q (.dict (dctD kvs)) (ρ.set i (.sh (.dict (dctD kvs))))
end
end TN
set_option Elab.async false
set_option linter.all false
set_option maxRecDepth 100000
set_option maxHeartbeats 1000000
set_option autoImplicit false
namespace TN
open PySem PySem.Spec PyProof.Rows L2 RT RZ
section
variable {K : PySem.W.Frag} {bor : List Nat} {te : TE} {A : TDE} {P P1 : PIt}
def compT2 (tg : TDG) (vs : List Nat) (C : TDT) (T1 : TDI) (tg1 : TDG) (vs1 : List Nat) (C1 : TDT) (A : TDE) (Q : List D → List Sl → Prop) : List D → List D → List Sl → Prop
  | [], acc, ρ => Q acc ρ
  | d :: ds, acc, ρ => (vs.all fun v => plainAt v ρ) = true ∧ tg d (wipeD ρ vs) fun ρ0 => C ρ0 fun b ρ1 =>
      (b = true → T1 ρ1 fun es ρ2 => compT tg1 vs1 C1 A (fun acc' ρ3 => compT2 tg vs C T1 tg1 vs1 C1 A Q ds acc' (backD ρ ρ3 vs)) es acc ρ2) ∧ (b = false → compT2 tg vs C T1 tg1 vs1 C1 A Q ds acc (backD ρ ρ1 vs))
def dCompI2 (T : TDI) (tg : TDG) (vs : List Nat) (C : TDT) (T1 : TDI) (tg1 : TDG) (vs1 : List Nat) (C1 : TDT) (A : TDE) : TDL := fun ρ Q => T ρ fun ds ρ1 => compT2 tg vs C T1 tg1 vs1 C1 A Q ds [] ρ1
end
section
variable {K : PySem.W.Frag} {bor : List Nat}
end
end TN
set_option Elab.async false
set_option linter.all false
set_option maxRecDepth 100000
set_option maxHeartbeats 2000000
set_option autoImplicit false
namespace TN
open PySem PySem.Spec PyProof.Rows L2
section
variable {prog : Program} {w : World} {A : Around} {E : Value → Shared → Prop} {s : Shared}
end
section
variable {X : Cx} {K : PySem.W.Frag} {bor : List Nat} {te ta tb : TE} {f g : FE} {A B : TDE}
def dLAddE (A B : TDE) : TDL := fun ρ Q => A ρ fun d ρ1 => B ρ1 fun e ρ2 => ∃ xs ys, d = .list xs ∧ e = .list ys ∧ xs.length + ys.length ≤ 100000 ∧ Q (xs ++ ys) ρ2
theorem ll_addE (ha : LE K bor ta A) (hb : LE K bor tb B) : LL K bor (tOp (rAddU K) ta tb) (dLAddE A B) := fun {c G σ H ρ Qd Q} hc R q k =>
  ha hc R q fun v H1 G1 ρ1 d s1 R1 p1 q1 => hb hc R1 q1 fun w H2 G2 ρ2 e s2 R2 p2 ⟨xs, ys, e1, e2, hl, q2⟩ => by
    subst e1 e2
    cases dpS s2 p1 with
    | @lst x vs _ h1 h2 =>
      cases p2 with
      | @lst y ws _ h3 h4 =>
        refine .inr (.inr (.inl ⟨x, y, vs, ws, rfl, rfl, rdS R2.sub h1, rdS R2.sub h3, by rw [dps_len h2, dps_len h4]; exact Nat.le_trans hl (by decide), fun p hp => ?_⟩))
        exact k p _ _ G2 ρ2 _ (s1.trans s2) (R2.grow (grow_own R2.sub hp)) (mine_new R2 hp) (dps_app h2 h4) q2
end
end TN
set_option Elab.async false
set_option linter.all false
set_option maxRecDepth 100000
set_option maxHeartbeats 2000000
set_option autoImplicit false
namespace TN
open PySem PySem.Spec PyProof.Rows L2
theorem ringsL_is {ks : List Str} {f : Str → Str} (g : RG ks f) {r : List Str} (h : r ∈ ringsL f ks.length (sortS ks)) : ∃ a ∈ ks, r = ringL f ks.length a ∧ Ch ks f a r ∧ 2 ≤ r.length ∧ minS r = some a := by
  obtain ⟨h1, h2⟩ := List.mem_filter.mp h
  obtain ⟨a, ha, rfl⟩ := List.mem_map.mp h1
  have ak := (sortS_perm ks).mem_iff.mp ha
  have c := ringL_ok g ak ks.length
  unfold ringOk at h2
  rw [Bool.and_eq_true, decide_eq_true_eq, decide_eq_true_eq, c.hd] at h2
  exact ⟨a, ak, rfl, c, h2.1, h2.2.symm⟩
theorem rings_apart {ks : List Str} {f : Str → Str} (g : RG ks f) : (ringsL f ks.length (sortS ks)).Pairwise fun r s => ∀ x ∈ r, x ∉ s := by
  unfold ringsL
  rw [List.pairwise_filter, List.pairwise_map]
  have nd : (sortS ks).Nodup := sortS_nd g.nd
  refine List.Pairwise.imp_of_mem ?_ nd
  intro a b ha hb ne oa ob x xa xb
  have ak := (sortS_perm ks).mem_iff.mp ha
  have bk := (sortS_perm ks).mem_iff.mp hb
  have ca := ringL_ok g ak ks.length
  have cb := ringL_ok g bk ks.length
  have s1 := ring_same g ak xa
  have s2 := ring_same g bk xb
  have e := minS_set fun z => (s1 z).symm.trans (s2 z)
  unfold ringOk at oa ob
  rw [Bool.and_eq_true, decide_eq_true_eq, decide_eq_true_eq, ca.hd] at oa
  rw [Bool.and_eq_true, decide_eq_true_eq, decide_eq_true_eq, cb.hd] at ob
  rw [← oa.2, ← ob.2] at e
  injection e with e
  exact ne e
theorem rings_flat_nd {ks : List Str} {f : Str → Str} (g : RG ks f) : (ringsL f ks.length (sortS ks)).flatten.Nodup := by
  unfold List.Nodup
  rw [List.pairwise_flatten]
  refine ⟨fun r hr => ?_, (rings_apart g).imp (by intro r s h x hx y hy z; subst z; exact h x hx hy)⟩
  obtain ⟨a, _, _, c, _⟩ := ringsL_is g hr
  exact c.nd
theorem rings_flat_sub {ks : List Str} {f : Str → Str} (g : RG ks f) : ∀ x ∈ (ringsL f ks.length (sortS ks)).flatten, x ∈ ks := fun x hx => by
  obtain ⟨r, hr, hx⟩ := List.mem_flatten.mp hx
  obtain ⟨a, _, _, c, _⟩ := ringsL_is g hr
  exact c.mem x hx
theorem GPair.run {t h : List Str} (gp : GPair t h) {es : List Ev} (ok : ∀ e ∈ es, e.ok t) : GPair (runT t es).1 (runH h es).1 := by
  have p1 := (runT_ok es t ok).1
  have p2 := (runH_ok es h fun e he => Ev.ok_perm gp.pm (ok e he)).1
  exact ⟨gp.gt.perm p1, gp.gh.perm p2, p1.trans (gp.pm.trans p2.symm)⟩

section
variable {t h : List Str} {f : Str → Str}
end
end TN
set_option Elab.async false
set_option linter.all false
set_option maxRecDepth 100000
set_option maxHeartbeats 2000000
set_option autoImplicit false
namespace TN
open PySem PySem.Spec PyProof.Rows L2 RT RZ
section
variable {K : PySem.W.Frag} {bor : List Nat} {te ta : TE} {A : TDE} {P : PIt}
def iK (A : TDE) : TDI := fun ρ Q => A ρ fun d ρ1 => ∃ kvs, d = .dict kvs ∧ Q (kvs.map (·.1)) ρ1
def iV (A : TDE) : TDI := fun ρ Q => A ρ fun d ρ1 => ∃ kvs, d = .dict kvs ∧ Q (kvs.map (·.2)) ρ1
end
end TN
set_option Elab.async false
set_option linter.all false
set_option maxRecDepth 100000
set_option maxHeartbeats 1000000
set_option autoImplicit false
namespace TN
open PySem PySem.Spec PyProof.Rows L2
section
variable {K : PySem.W.Frag} {bor : List Nat} {te : TE} {A : TDL} {R : TDP}
def pNew (A : TDL) (R : TDP) : TDP := fun ρ Q => A ρ fun xs ρ1 => R ρ1 fun ps ρ2 => Q (.ow xs :: ps) ρ2
end
open RT RZ
section
variable {X : Cx} {tg : Expr}
end
section
variable {K : PySem.W.Frag} {bor : List Nat} {te : TE} {A : TDE}
def iLT (A : TDE) : TDI := fun ρ Q => A ρ fun d ρ1 => ∃ ds, (d = .list ds ∨ d = .tuple ds) ∧ Q ds ρ1
end
end TN
set_option Elab.async false
set_option linter.all false
set_option maxRecDepth 100000
set_option maxHeartbeats 2000000
set_option autoImplicit false
namespace TN
open PySem PySem.Spec PyProof.Rows L2
end TN
set_option Elab.async false
set_option linter.all false
set_option maxRecDepth 100000
set_option maxHeartbeats 2000000
set_option autoImplicit false
namespace TN
open PySem PySem.Spec PyProof.Rows L2
theorem getD_mem {w : List Str} {i : Nat} (h : i < w.length) : w.getD i "" ∈ w := by
  rw [getD_of h]; exact List.getElem_mem _
theorem getD_inj {w : List Str} (nd : w.Nodup) {i j : Nat} (hi : i < w.length) (hj : j < w.length) (e : w.getD i "" = w.getD j "") : i = j := getD_nd nd hi hj e

end TN
set_option Elab.async false
set_option linter.all false
set_option maxRecDepth 100000
set_option maxHeartbeats 2000000
set_option autoImplicit false
namespace TN
open PySem PySem.Spec PyProof.Rows L2
section
variable {X : Cx}
end
def leT (x y : List Str) : Bool := !ltT y x
def sortT (rs : List (List Str)) : List (List Str) := rs.mergeSort leT
theorem leT_iff {x y : List Str} : leT x y = true ↔ ltT y x = false := by unfold leT; simp
theorem leT_trans (x y z : List Str) (h1 : leT x y = true) (h2 : leT y z = true) : leT x z = true := leT_iff.mpr (ltT_no_trans (leT_iff.mp h1) (leT_iff.mp h2))
theorem leT_total (x y : List Str) : (leT x y || leT y x) = true := by
  unfold leT
  cases h : ltT y x with
  | false => rfl
  | true => rw [ltT_asym h]; rfl
theorem leT_anti {x y : List Str} (h1 : leT x y = true) (h2 : leT y x = true) : x = y := ltT_tri (leT_iff.mp h2) (leT_iff.mp h1)
theorem sortT_perm (rs : List (List Str)) : (sortT rs).Perm rs := List.mergeSort_perm rs leT
theorem sortT_is {rs qs : List (List Str)} (hp : qs.Perm rs) (hs : qs.Pairwise fun x y => ltT y x = false) : qs = sortT rs := by
  refine List.Perm.eq_of_pairwise (le := fun a b => leT a b = true) (fun a b _ _ h1 h2 => leT_anti h1 h2) (hs.imp fun h => leT_iff.mpr h) (List.pairwise_mergeSort leT_trans leT_total rs) (hp.trans (sortT_perm rs).symm)

end TN
set_option Elab.async false
set_option linter.all false
set_option maxRecDepth 100000
set_option maxHeartbeats 2000000
set_option autoImplicit false
namespace TN
open PySem PySem.Spec PyProof.Rows L2
structure RgOk (t : List Str) (R : List (List Str)) : Prop where
  two : ∀ r ∈ R, 2 ≤ r.length
  nd : R.flatten.Nodup
  sub : ∀ x ∈ R.flatten, x ∈ t
theorem RgOk.apart {t : List Str} {R : List (List Str)} (g : RgOk t R) : R.Pairwise fun r s => ∀ x ∈ r, x ∉ s := by
  have := g.nd
  unfold List.Nodup at this
  rw [List.pairwise_flatten] at this
  refine this.2.imp ?_
  intro r s h x hx hy
  exact h x hx x hy rfl
theorem RgOk.each {t : List Str} {R : List (List Str)} (g : RgOk t R) : ∀ r ∈ R, r.Nodup := by
  have := g.nd
  unfold List.Nodup at this
  rw [List.pairwise_flatten] at this
  exact this.1
theorem RgOk.perm {t u : List Str} {R : List (List Str)} (g : RgOk t R) (p : u.Perm t) : RgOk u R := ⟨g.two, g.nd, fun x hx => p.mem_iff.mpr (g.sub x hx)⟩
end TN
set_option Elab.async false
set_option linter.all false
set_option maxRecDepth 100000
set_option maxHeartbeats 2000000
set_option autoImplicit false
namespace TN
open PySem PySem.Spec PyProof.Rows L2 RT RZ
structure RgCan (t : List Str) (R : List (List Str)) : Prop where
  ok : RgOk t R
  min : ∀ r ∈ R, minS r = r.head?
  srt : sortT R = R
theorem RgOk.few {t : List Str} {R : List (List Str)} (g : RgOk t R) (gt : GRow t) : R.flatten.length ≤ 16 := Nat.le_trans (nodup_le g.nd g.sub) gt.few
end TN
namespace TN
open PySem PySem.Spec PyProof.Rows L2
end TN
set_option Elab.async false
set_option linter.all false
set_option maxRecDepth 100000
set_option maxHeartbeats 2000000
set_option autoImplicit false
namespace TN
open PySem PySem.Spec PyProof.Rows L2
section
variable {prog : Program} {w : World} {A : Around} {E : Value → Shared → Prop} {s : Shared}
end
section
variable {prog : Program} {w : World} {A : Around} {R : Result → Shared → Prop} {I : Addr} {fp wr : List Addr} {n : Nat} {P : Nat → Value → Prop} {St : Nat → Heap → Prop}
def SumAt (h0 : Heap) (b0 : Addr) (h : Heap) (T : Addr) (its : List Value) : Prop := (T = b0 ∧ its = [] ∧ h.IsList b0 #[]) ∨ (h0.objs.size ≤ T ∧ ∃ c, h.get? T = some { cls := .type "list", data := .seq its.toArray c })
theorem SumAt.isList {h0 h : Heap} {b0 T : Addr} {its : List Value} (H : SumAt h0 b0 h T its) : h.IsList T its.toArray := by
  rcases H with ⟨rfl, rfl, e⟩ | ⟨_, c, e⟩
  · exact e
  · exact ⟨_, e, rfl, _, rfl⟩
theorem SumAt.kept {h0 h h' : Heap} {b0 T : Addr} {its : List Value} (H : SumAt h0 b0 h T its) (k : ∀ o, h.get? T = some o → h'.get? T = some o) : SumAt h0 b0 h' T its := by
  rcases H with ⟨rfl, rfl, o, e, r⟩ | ⟨h1, c, e⟩
  · exact .inl ⟨rfl, rfl, o, k o e, r⟩
  · exact .inr ⟨h1, c, k _ e⟩
end
section
variable {prog : Program} {w : World} {A : Around} {E : Value → Shared → Prop} {s : Shared}
end
section
variable {X : Cx}
end
section
variable {K : PySem.W.Frag} {bor : List Nat} {ta : TA} {r : List V → Hp → VK → Prop} {o : OC}
end
end TN
set_option Elab.async false
set_option linter.all false
set_option maxRecDepth 100000
set_option maxHeartbeats 2000000
set_option autoImplicit false
namespace TN
open PySem PySem.Spec PyProof.Rows L2
theorem ltT_heads {a b : Str} {l m : List Str} (h : leS a b = true) (ne : a ≠ b) : ltT (b :: m) (a :: l) = false := by
  show (if b = a then ltT m l else decide (b.cps.toList < a.cps.toList)) = false
  rw [if_neg (Ne.symm ne)]
  unfold leS at h
  simpa using h
end TN
set_option Elab.async false
set_option linter.all false
set_option maxRecDepth 100000
set_option maxHeartbeats 2000000
set_option autoImplicit false
namespace TN
open PySem PySem.Spec PyProof.Rows L2
def WishOk (r : List Str) (R : List (List Str)) : Prop := R = [] ∨ ∃ (ks : List Str) (f : Str → Str), RG ks f ∧ (∀ x ∈ ks, x ∈ r) ∧ R = ringsL f ks.length (sortS ks)
theorem up_heads {ks : List Str} {f : Str → Str} (g : RG ks f) : (ringsL f ks.length (sortS ks)).Pairwise fun r s => ltT s r = false := by
  unfold ringsL
  rw [List.pairwise_filter, List.pairwise_map]
  have nd : (sortS ks).Nodup := sortS_nd g.nd
  have so : (sortS ks).Pairwise (fun a b => leS a b = true) := List.pairwise_mergeSort leS_trans leS_total ks
  refine List.Pairwise.imp_of_mem ?_ (so.and nd)
  intro a b ha hb ⟨le, ne⟩ _ _
  have ca := ringL_ok g ((sortS_perm ks).mem_iff.mp ha) ks.length
  have cb := ringL_ok g ((sortS_perm ks).mem_iff.mp hb) ks.length
  have : ∀ {l : List Str} {a : Str}, l.head? = some a → ∃ m, l = a :: m := fun {l a} h => by
    cases l with
    | nil => cases h
    | cons b l => injection h with h; subst h; exact ⟨_, rfl⟩
  obtain ⟨l, el⟩ := this ca.hd
  obtain ⟨m, em⟩ := this cb.hd
  rw [el, em]
  exact ltT_heads le ne
theorem can_rings {t ks : List Str} {f : Str → Str} (g : RG ks f) (sub : ∀ x ∈ ks, x ∈ t) : RgCan t (ringsL f ks.length (sortS ks)) := by
  refine ⟨⟨fun r hr => ?_, rings_flat_nd g, fun x hx => sub x (rings_flat_sub g x hx)⟩, fun r hr => ?_, ?_⟩
  · obtain ⟨a, _, _, _, l2, _⟩ := ringsL_is g hr
    exact l2
  · obtain ⟨a, _, _, c, l2, m⟩ := ringsL_is g hr
    rw [m, c.hd]
  · exact (sortT_is (.refl _) (up_heads g)).symm
theorem can_nil (t : List Str) : RgCan t [] := ⟨⟨(fun r hr => by cases hr), .nil, (fun x hx => by cases hx)⟩, (fun r hr => by cases hr), List.length_eq_zero_iff.mp (sortT_perm []).length_eq⟩
theorem WishOk.can {r : List Str} {R : List (List Str)} (h : WishOk r R) : RgCan r R := by
  rcases h with rfl | ⟨ks, f, g, sub, rfl⟩
  · exact can_nil r
  · exact can_rings g sub
end TN
set_option Elab.async false
set_option linter.all false
set_option maxRecDepth 100000
set_option maxHeartbeats 2000000
set_option autoImplicit false
namespace TN
open PySem PySem.Spec PyProof.Rows L2
structure WP (P : List (Str × Str)) : Prop where
  k : (P.map (·.1)).Nodup
  v : (P.map (·.2)).Nodup
  s : ∀ x ∈ P.map (·.2), x ∈ P.map (·.1)
end TN
set_option Elab.async false
set_option linter.all false
set_option maxRecDepth 100000
set_option maxHeartbeats 2000000
set_option autoImplicit false
namespace TN
open PySem PySem.Spec PyProof.Rows L2
def nextR (r : List Str) (x : Str) : Str := if x ∈ r then r.getD ((ixS x r + 1) % r.length) "" else x
theorem nextR_out {r : List Str} {x : Str} (h : x ∉ r) : nextR r x = x := if_neg h
theorem nextR_at {r : List Str} {j : Nat} (nd : r.Nodup) (h : j < r.length) : nextR r (r.getD j "") = r.getD ((j + 1) % r.length) "" := by
  unfold nextR
  rw [if_pos (getD_mem h)]
  unfold ixS
  rw [idx_getD nd h]
section
variable {t : List Str} {a b : Nat}
end
def leastAt (r : List Str) : Nat := ixS ((minS r).getD "") r
def begun (r : List Str) : List Str := if r.length < 2 then [] else r.drop (leastAt r) ++ r.take (leastAt r)
theorem begun_get {r : List Str} {k j : Nat} (hk : k < r.length) (hj : j < r.length) : (r.drop k ++ r.take k).getD j "" = r.getD ((k + j) % r.length) "" := by
  have l : (r.drop k ++ r.take k).length = r.length := by simp; omega
  rw [getD_of (by omega)]
  by_cases c : k + j < r.length
  · rw [Nat.mod_eq_of_lt c, getD_of c, List.getElem_append_left (by rw [List.length_drop]; omega), List.getElem_drop]
  · have e : (k + j) % r.length = k + j - r.length := by
      rw [Nat.mod_eq_sub_mod (by omega), Nat.mod_eq_of_lt (by omega)]
    rw [e, getD_of (by omega), List.getElem_append_right (by rw [List.length_drop]; omega), List.getElem_take]
    congr 1; rw [List.length_drop]; omega
theorem rot_next {r : List Str} {k : Nat} (nd : r.Nodup) (hk : k < r.length) (x : Str) : nextR (r.drop k ++ r.take k) x = nextR r x := by
  have pm : (r.drop k ++ r.take k).Perm r := List.perm_append_comm.trans (List.Perm.of_eq (List.take_append_drop k r))
  by_cases hx : x ∈ r
  · obtain ⟨j, hj, rfl⟩ := List.mem_iff_getElem.mp (pm.mem_iff.mpr hx)
    rw [← getD_of (x := ("" : Str)) hj, nextR_at (pm.nodup_iff.mpr nd) hj]
    rw [pm.length_eq] at hj ⊢
    have h0 : 0 < r.length := by omega
    rw [begun_get hk hj, nextR_at nd (Nat.mod_lt _ h0), begun_get hk (Nat.mod_lt _ h0)]
    congr 1
    rw [Nat.add_mod_mod, Nat.mod_add_mod, Nat.add_assoc]
  · rw [nextR_out hx, nextR_out fun z => hx (pm.mem_iff.mp z)]
theorem leastAt_lt {r : List Str} (h : 0 < r.length) : leastAt r < r.length := by
  unfold leastAt
  have : ∃ m, minS r = some m := by
    unfold minS
    have := (sortS_perm r).length_eq
    cases e : sortS r with
    | nil => rw [e] at this; simp at this; omega
    | cons a b => exact ⟨a, rfl⟩
  obtain ⟨m, e⟩ := this
  rw [e]
  exact idx_lt (minS_mem e).1
theorem begun_next {r : List Str} (nd : r.Nodup) (x : Str) : nextR (begun r) x = nextR r x := by
  unfold begun
  split
  · rename_i h
    rw [nextR_out (by simp)]
    match r, h with
    | [], _ => exact (nextR_out (by simp)).symm
    | [y], _ =>
      unfold nextR
      split
      · rename_i hx
        rw [List.mem_singleton] at hx
        subst hx
        show x = [x].getD ((ixS x [x] + 1) % 1) ""
        rw [Nat.mod_one]; rfl
      · rfl
  · rename_i h
    exact rot_next nd (leastAt_lt (by omega)) x

theorem RG.congr {ks : List Str} {f f' : Str → Str} (g : RG ks f) (h : ∀ x ∈ ks, f x = f' x) : RG ks f' :=
  ⟨g.ne, g.few, g.nd, g.isl, fun x hx => by rw [← h x hx]; exact g.mem x hx, fun x hx y hy e => g.inj x hx y hy (by rw [h x hx, h y hy]; exact e)⟩

end TN
set_option Elab.async false
set_option linter.all false
set_option maxRecDepth 100000
set_option maxHeartbeats 2000000
set_option autoImplicit false
namespace TN
open PySem PySem.Spec PyProof.Rows L2
def swapS (a b x : Str) : Str := if x = a then b else if x = b then a else x
theorem swap_comm (a b x : Str) : swapS a b x = swapS b a x := by
  unfold swapS
  by_cases h1 : x = a
  · by_cases h2 : x = b
    · rw [if_pos h1, if_pos h2, ← h1, ← h2]
    · rw [if_pos h1, if_neg h2, if_pos h1]
  · by_cases h2 : x = b
    · rw [if_neg h1, if_pos h2, if_pos h2]
    · rw [if_neg h1, if_neg h2, if_neg h2, if_neg h1]
theorem swap_out {a b x : Str} (h1 : x ≠ a) (h2 : x ≠ b) : swapS a b x = x := by unfold swapS; rw [if_neg h1, if_neg h2]
theorem swap_l (a b : Str) : swapS a b a = b := if_pos rfl
theorem swap_r (a b : Str) : swapS a b b = a := by rw [swap_comm]; exact if_pos rfl
theorem swap_swap (a b x : Str) : swapS a b (swapS a b x) = x := by
  by_cases h1 : x = a
  · subst h1; rw [swap_l, swap_r]
  · by_cases h2 : x = b
    · subst h2; rw [swap_r, swap_l]
    · rw [swap_out h1 h2, swap_out h1 h2]
theorem RG.swap {ks : List Str} {f : Str → Str} (g : RG ks f) {a b : Str} (ha : a ∈ ks) (hb : b ∈ ks) : RG ks fun x => f (swapS a b x) := by
  have m : ∀ x ∈ ks, swapS a b x ∈ ks := fun x hx => by
    unfold swapS
    split
    · exact hb
    · split
      · exact ha
      · exact hx
  refine ⟨g.ne, g.few, g.nd, g.isl, fun x hx => g.mem _ (m x hx), fun x hx y hy e => ?_⟩
  have := g.inj _ (m x hx) _ (m y hy) e
  rw [← swap_swap a b x, this, swap_swap]
theorem next_cons {a b : Str} {r : List Str} (nd : (a :: b :: r).Nodup) (x : Str) : nextR (a :: b :: r) x = swapS a b (nextR (b :: r) x) := by
  obtain ⟨ha, nb⟩ := List.nodup_cons.mp nd
  by_cases hx : x ∈ b :: r
  · obtain ⟨j, hj, rfl⟩ := List.mem_iff_getElem.mp hx
    have e0 : (b :: r)[j] = (a :: b :: r).getD (j + 1) "" := by rw [getD_of (by simp at hj ⊢; omega)]; rfl
    have e1 : (b :: r)[j] = (b :: r).getD j "" := (getD_of hj).symm
    have l2 : (a :: b :: r).length = (b :: r).length + 1 := rfl
    have lhs := nextR_at nd (j := j + 1) (by rw [l2]; omega)
    rw [← e0] at lhs
    have rhs := nextR_at nb hj
    rw [← e1] at rhs
    rw [lhs, rhs, l2]
    by_cases c : j + 1 = (b :: r).length
    · rw [c, Nat.mod_self, Nat.mod_self]
      show a = swapS a b b
      rw [swap_r]
    · rw [Nat.mod_eq_of_lt (by omega), Nat.mod_eq_of_lt (by omega)]
      show (b :: r).getD (j + 1) "" = _
      have hm : (b :: r).getD (j + 1) "" ∈ b :: r := getD_mem (by omega)
      rw [swap_out (fun z => ha (by rw [← z]; exact hm)) fun z => ?_]
      have := getD_inj nb (i := j + 1) (j := 0) (by omega) (by omega) z
      omega
  · by_cases h : x = a
    · subst h
      rw [nextR_out hx, swap_l]
      have := nextR_at nd (j := 0) (by simp)
      rw [show (0 + 1) % (x :: b :: r).length = 1 from Nat.mod_eq_of_lt (by simp)] at this
      exact this
    · rw [nextR_out hx, nextR_out (by simp only [List.mem_cons] at hx ⊢; intro z; rcases z with z | z; exact h z; exact hx z), swap_out h fun z => hx (by rw [z]; exact List.mem_cons_self)]
theorem RG.next {ks : List Str} {f : Str → Str} (g : RG ks f) : ∀ (r : List Str), r.Nodup → (∀ x ∈ r, x ∈ ks) → RG ks fun x => f (nextR r x)
  | [], _, _ => g.congr fun x _ => by rw [nextR_out (by simp)]
  | [a], nd, _ => g.congr fun x _ => by
    have := begun_next (r := [a]) nd x
    rw [← this]
    show f x = f (nextR [] x)
    rw [nextR_out (by simp)]
  | a :: b :: r, nd, sub => by
    obtain ⟨na, nb⟩ := List.nodup_cons.mp nd
    exact (RG.next (g.swap (sub a List.mem_cons_self) (sub b (by simp))) (b :: r) nb fun x hx => sub x (List.mem_cons_of_mem _ hx)).congr fun x _ => by rw [next_cons nd]
theorem RG.id {ks : List Str} {f : Str → Str} (g : RG ks f) : RG ks fun x => x := ⟨g.ne, g.few, g.nd, g.isl, fun x hx => hx, fun x _ y _ e => e⟩
end TN
set_option Elab.async false
set_option linter.all false
set_option maxRecDepth 100000
set_option maxHeartbeats 2000000
set_option autoImplicit false
namespace TN
open PySem PySem.Spec PyProof.Rows L2
end TN
set_option Elab.async false
set_option linter.all false
set_option maxRecDepth 100000
set_option maxHeartbeats 2000000
set_option autoImplicit false
namespace TN
open PySem PySem.Spec PyProof.Rows L2
structure RowsOk (Rs : List (List Str)) (r0 : List Str) : Prop where
  hd : Rs.head? = some r0
  few : Rs.length ≤ 100
  nd : r0.Nodup
  len : r0.length ≤ 16
  isl : ∀ x ∈ r0, isL x
  all : ∀ r ∈ Rs, r.Perm r0
end TN
set_option Elab.async false
set_option linter.all false
set_option maxRecDepth 100000
set_option maxHeartbeats 2000000
set_option autoImplicit false
namespace TN
open PySem PySem.Spec PyProof.Rows L2
section
variable {Rs : List (List Str)} {r0 : List Str}
theorem RowsOk.mem (ro : RowsOk Rs r0) : r0 ∈ Rs := List.mem_of_mem_head? ro.hd
end
section
variable {K : PySem.W.Frag} {bor : List Nat} {ta tb tc : TE} {A B C : TDE}
end
section
variable {K : PySem.W.Frag} {bor : List Nat} {ta tb : TE} {A : TDL} {B : TDE}
end
end TN
set_option Elab.async false
set_option linter.all false
set_option maxRecDepth 100000
set_option maxHeartbeats 2000000
set_option autoImplicit false
namespace TN
open PySem PySem.Spec PyProof.Rows L2
section
variable {w : List Str} {p : Nat}
end
end TN
set_option Elab.async false
set_option linter.all false
set_option maxRecDepth 100000
set_option maxHeartbeats 2000000
set_option autoImplicit false
namespace TN
open PySem PySem.Spec PyProof.Rows L2
section
variable {a b c d : List Str}
end
end TN
set_option Elab.async false
set_option linter.all false
set_option maxRecDepth 100000
set_option maxHeartbeats 1000000
set_option autoImplicit false
namespace TN
open PySem PySem.Spec PyProof.Rows L2
open Sem (wp)
section
variable {prog : Program} {w : World} {A : Around} {E : Value → Shared → Prop} {s : Shared}
end
section
variable {X : Cx} {pos : Pos}
end
section
variable {K : PySem.W.Frag} {bor : List Nat}
def tgLst (n : Nat) (r : List D → List Sl → (List Sl → Prop) → Prop) : TDG := fun d ρ Q => ∃ ds, d = .list ds ∧ ds.length = n ∧ r ds ρ Q
end
end TN
set_option Elab.async false
set_option linter.all false
set_option maxRecDepth 100000
set_option maxHeartbeats 1000000
set_option autoImplicit false
namespace TN
open PySem PySem.Spec PyProof.Rows L2
open Sem (wp)
section
variable {prog : Program} {w : World} {A : Around} {E : Value → Shared → Prop} {s : Shared}
end
section
variable {X : Cx}
end
section
variable {K : PySem.W.Frag} {bor : List Nat} {te : TE} {A : TDL}
def sCut (j : Nat) (c : Int) (A : TDL) : TDS := fun E ρ => A ρ fun ys ρ1 => ∃ xs, ownL j ρ1 = some xs ∧ 0 ≤ c ∧ xs.length + ys.length ≤ 100000 ∧ E.nx (ρ1.set j (.ow (ys ++ xs.drop c.toNat)))
end
end TN
set_option Elab.async false
set_option linter.all false
set_option maxRecDepth 100000
set_option maxHeartbeats 1000000
set_option autoImplicit false
namespace TN
open PySem PySem.Spec PyProof.Rows L2
mutual
def noList : D → Bool
  | .none => true
  | .bool _ => true
  | .int _ => true
  | .str _ => true
  | .tuple ds => noLists ds
  | _ => false
def noLists : List D → Bool
  | [] => true
  | d :: ds => noList d && noLists ds
end
section
variable {K : PySem.W.Frag} {c : C0} {G G' H H' : Hp} {σ : L2.St} {ρ : List Sl}
mutual
theorem dq_un {G1 G2 : Hp} (h : ∀ b u o, G1 b = some (.frz u o) → G2 b = some (.frz u o)) : ∀ {d : D} {v : V}, noList d = true → Dq K G1 v d → Dq K G2 v d
  | .none, _, _, p => by cases p; exact .non
  | .bool _, _, _, p => by cases p; exact .bl _
  | .int _, _, _, p => by cases p; exact .int _
  | .str _, _, _, p => by cases p; exact .str _
  | .list _, _, n, _ => by simp only [noList] at n; cases n
  | .dict _, _, n, _ => by simp only [noList] at n; cases n
  | .tuple ds, _, n, p => by
    cases p with
    | tup s a =>
      refine .tup ?_ (dqs_un h (by simpa only [noList] using n) a)
      rcases s with ⟨o, e, q⟩ | s
      · exact .inl ⟨o, h _ _ _ e, q⟩
      · exact .inr s
theorem dqs_un {G1 G2 : Hp} (h : ∀ b u o, G1 b = some (.frz u o) → G2 b = some (.frz u o)) : ∀ {ds : List D} {vs : List V}, noLists ds = true → DqAll K G1 vs ds → DqAll K G2 vs ds
  | [], _, _, p => by cases p; exact .nil
  | d :: ds, _, n, p => by
    have n : (noList d && noLists ds) = true := by simpa only [noLists] using n
    rw [Bool.and_eq_true] at n
    cases p with
    | cons a b => exact .cons (dq_un h n.1 a) (dqs_un h n.2 b)
end
end
section
variable {K : PySem.W.Frag} {bor : List Nat} {te : TE} {ta tr tk : TA} {A : TDE} {R : TDA} {is : List Nat}
def oVar (j : Nat) (R : TDA) : TDA := fun ρ Q => (ownL j ρ).isSome = true ∧ R ρ fun ds ρ2 => ∃ xs, ownL j ρ2 = some xs ∧ Q (.list xs :: ds) ρ2
def dCallO (sem : List D → (Sl → Prop) → Prop) (A : TDA) : TDE := fun ρ Q => A ρ fun ds ρ1 => sem ds fun r => ∃ d, r = .sh d ∧ noList d = true ∧ Q d ρ1
def dCallOI (sem : List D → (Sl → Prop) → Prop) (i : Int) (A : TDA) : TDE := fun ρ Q => A ρ fun ds ρ1 => sem ds fun r => ∃ e d, r = .sh e ∧ oIx e (.int i) = some d ∧ noList d = true ∧ Q d ρ1
def dCallNO (sem : List D → (Sl → Prop) → Prop) (is : List Nat) (A : TDA) : TDE := fun ρ Q => A ρ fun ds ρ1 => sem (pick is ds) fun r => ∃ d, r = .sh d ∧ noList d = true ∧ Q d ρ1
end
end TN
set_option Elab.async false
set_option linter.all false
set_option maxRecDepth 100000
set_option maxHeartbeats 2000000
set_option autoImplicit false
namespace TN
open PySem PySem.Spec PyProof.Rows L2
section
variable {K : PySem.W.Frag} {bor : List Nat} {te : TE}
end
end TN
set_option Elab.async false
set_option linter.all false
set_option maxRecDepth 100000
set_option maxHeartbeats 2000000
set_option autoImplicit false
namespace TN
open PySem PySem.Spec PyProof.Rows L2
section
variable {t h : List Str}
end
end TN
namespace TN
open PySem PySem.Spec PyProof.Rows L2
end TN
namespace TN
open PySem PySem.Spec PyProof.Rows L2
end TN
namespace TN
open PySem PySem.Spec PyProof.Rows L2
section
variable {t h : List Str}
end
end TN
set_option Elab.async false
set_option linter.all false
set_option maxRecDepth 100000
set_option maxHeartbeats 2000000
set_option autoImplicit false
namespace TN
open PySem PySem.Spec PyProof.Rows L2
section
variable {R : Result → Shared → Prop} {St : Nat → Heap → Prop} {P : Nat → Value → Prop} {prog : Program} {w : World} {A : Around} {I : Addr} {fp wr : List Addr} {n : Nat}
end
section
variable {w : World} {prog : Program} {A : Around} {E : Value → Shared → Prop} {s : Shared}
end
end TN
namespace TN
open PySem PySem.Spec PyProof.Rows L2
open PySem.SeqAt
end TN
namespace TN
open PySem PySem.Spec PyProof.Rows L2
end TN
set_option Elab.async false
set_option linter.all false
set_option maxRecDepth 100000
set_option maxHeartbeats 2000000
set_option autoImplicit false
namespace TN
open PySem PySem.Spec PyProof.Rows L2
section
variable {t h : List Str}
end
end TN
namespace TN
open PySem PySem.Spec PyProof.Rows L2
end TN
set_option Elab.async false
set_option linter.all false
set_option maxRecDepth 100000
set_option maxHeartbeats 2000000
set_option autoImplicit false
namespace TN
open PySem PySem.Spec PyProof.Rows L2
structure Folk (t : List Str) (hs : List (List Str)) : Prop where
  gt : GRow t
  ne : hs ≠ []
  few : hs.length ≤ 4
  all : ∀ h ∈ hs, GPair t h
section
variable {Rs : List (List Str)} {r0 : List Str}
end
section
variable {t : List Str} {hs : List (List Str)}
abbrev inF (hs : List (List Str)) (M : List Str) : Bool := decide ((hs.filter fun h => !decide ((h.filter fun x => decide (x ∈ M)) = M)) = [])
end
end TN
set_option Elab.async false
set_option linter.all false
set_option maxRecDepth 100000
set_option maxHeartbeats 2000000
set_option autoImplicit false
namespace TN
open PySem PySem.Spec PyProof.Rows L2
section
variable {K : PySem.W.Frag} {bor : List Nat} {te ti tx : TE} {ta : TA} {A B : TDE} {f g h : FE} {r : TDA}
end
end TN
set_option Elab.async false
set_option linter.all false
set_option maxRecDepth 100000
set_option maxHeartbeats 2000000
set_option autoImplicit false
namespace TN
open PySem PySem.Spec PyProof.Rows L2
section
variable {X : List Str → Nat → List Str}
end
end TN
set_option Elab.async false
set_option linter.all false
set_option maxRecDepth 100000
set_option maxHeartbeats 2000000
set_option autoImplicit false
namespace TN
open PySem PySem.Spec PyProof.Rows L2
section
variable {ks : List Str} {f f' : Str → Str}
end
end TN
set_option Elab.async false
set_option linter.all false
set_option maxRecDepth 100000
set_option maxHeartbeats 2000000
set_option autoImplicit false
namespace TN
open PySem PySem.Spec PyProof.Rows L2
abbrev Nb := Option Str
def lettersN (h : List Nb) : List Str := h.filterMap id
structure Lrn (t : List Str) (h : List Nb) : Prop where
  few : t.length ≤ 16
  nd : t.Nodup
  isl : ∀ x ∈ t, isL x
  hfew : h.length ≤ 1000
  hnd : (lettersN h).Nodup
  hisl : ∀ x ∈ lettersN h, isL x
  last : h.getLast? ≠ some none
def reachN (h : List Nb) (p : Nat) : List Nb := h ++ List.replicate (p + 1 - h.length) none
def trimN (h : List Nb) : List Nb := (h.reverse.dropWhile fun w => decide (w = none)).reverse
def toFN (h : List Nb) (p : Nat) : List Nb := h.getD p none :: (h.take p ++ h.drop (p + 1))
def takenN (h : List Nb) (p : Nat) : List Nb × Nb := (trimN (toFN (reachN h p) p), (reachN h p).getD p none)

inductive Le where
  | place (p : Nat) | lost (p : Nat) | twice (p : Nat) | named (p : Nat) (x : Str) | new (x : Str) | lostnew (x : Str)
def Le.d : Le → D
  | .place p => .tuple [.str "place", .int p]
  | .lost p => .tuple [.str "lost", .int p]
  | .twice p => .tuple [.str "twice", .int p]
  | .named p x => .tuple [.str "named", .int p, .str x]
  | .new x => .tuple [.str "new", .str x]
  | .lostnew x => .tuple [.str "lostnew", .str x]
theorem trim_len (h : List Nb) : (trimN h).length ≤ h.length := by
  unfold trimN
  rw [List.length_reverse]
  have := (List.dropWhile_sublist (l := h.reverse) fun w => decide (w = none)).length_le
  rw [List.length_reverse] at this
  exact this
theorem reach_len (h : List Nb) (p : Nat) : (reachN h p).length = max h.length (p + 1) := by
  unfold reachN
  rw [List.length_append, List.length_replicate]; omega
theorem front_len {h : List Nb} {p : Nat} (hp : p < h.length) : (toFN h p).length = h.length := by
  unfold toFN
  rw [List.length_cons, List.length_append, List.length_take, List.length_drop]; omega
end TN
set_option Elab.async false
set_option linter.all false
set_option maxRecDepth 100000
set_option maxHeartbeats 2000000
set_option autoImplicit false
namespace L2
open PySem PySem.Spec PyProof.Rows
end L2
namespace TN
open PySem PySem.Spec PyProof.Rows L2
section
variable {K : PySem.W.Frag}
end
end TN
set_option Elab.async false
set_option linter.all false
set_option maxRecDepth 100000
set_option maxHeartbeats 2000000
set_option autoImplicit false
namespace TN
open PySem PySem.Spec PyProof.Rows L2
def ixN' (x : Str) (h : List Nb) : Nat := h.findIdx fun w => decide (w = some x)
section
variable {K : PySem.W.Frag} {bor : List Nat} {ta tb : TE} {f g : FE}
end
def learnedN (h : List Nb) (p : Nat) (x : Str) : List Nb :=
  let w := reachN h p
  (if some x ∈ w then w.set (ixN' x w) (w.getD p none) else w).set p (some x)
def Le.ok (t : List Str) (h : List Nb) : Le → Prop
  | .place p | .lost p | .twice p => p < t.length
  | .named p x => p < t.length ∧ t.getD p "" = x
  | .new x | .lostnew x => isL x ∧ x ∉ t ∧ some x ∉ h ∧ t.length < 16
def Le.told (t : List Str) : Le → List Str
  | .place p | .lost p | .twice p | .named p _ => toF t p
  | .new x | .lostnew x => x :: t
def Le.heard (h : List Nb) : Le → List Nb × List Nb
  | .lost _ | .lostnew _ => (h, [])
  | .new x => (some x :: h, [some x])
  | .named p x => ((takenN (learnedN h p x) p).1, [some x])
  | .place p => ((takenN h p).1, [(takenN h p).2])
  | .twice p => ((takenN (takenN h p).1 p).1, [(takenN h p).2, (takenN (takenN h p).1 p).2])
end TN
set_option Elab.async false
set_option linter.all false
set_option maxRecDepth 100000
set_option maxHeartbeats 2000000
set_option autoImplicit false
namespace TN
open PySem PySem.Spec PyProof.Rows L2
theorem taken_len (h : List Nb) (p : Nat) : (takenN h p).1.length ≤ max h.length (p + 1) := by
  have h1 := trim_len (toFN (reachN h p) p)
  have h2 := front_len (h := reachN h p) (p := p) (by rw [reach_len]; omega)
  have h3 := reach_len h p
  show (trimN (toFN (reachN h p) p)).length ≤ _
  omega
theorem learned_len (h : List Nb) (p : Nat) (x : Str) : (learnedN h p x).length = max h.length (p + 1) := by
  unfold learnedN
  rw [List.length_set]
  split
  · rw [List.length_set, reach_len]
  · exact reach_len h p
theorem ixN'_lt {x : Str} {h : List Nb} (hm : some x ∈ h) : ixN' x h < h.length := List.findIdx_lt_length.mpr ⟨some x, hm, by simp⟩
end TN
set_option Elab.async false
set_option linter.all false
set_option maxRecDepth 100000
set_option maxHeartbeats 2000000
set_option autoImplicit false
namespace TN
open PySem PySem.Spec PyProof.Rows L2
def okAll : List Str → List Nb → List Le → Prop
  | _, _, [] => True
  | t, h, e :: es => e.ok t h ∧ okAll (e.told t) (e.heard h).1 es
def endL : List Str → List Nb → List Le → List Str × List Nb
  | t, h, [] => (t, h)
  | t, h, e :: es => endL (e.told t) (e.heard h).1 es
theorem told_ok {t : List Str} {h : List Nb} {e : Le} (ok : e.ok t h) (few : t.length ≤ 16) (isl : ∀ x ∈ t, isL x) : (e.told t).length ≤ 16 ∧ ∀ x ∈ e.told t, isL x := by
  have tf : ∀ {p : Nat}, p < t.length → (toF t p).length ≤ 16 ∧ ∀ x ∈ toF t p, isL x := fun {p} hp => by
    have pm := toF_perm hp
    exact ⟨by rw [pm.length_eq]; exact few, fun x hx => isl x (pm.mem_iff.mp hx)⟩
  have nw : ∀ {x : Str}, isL x → t.length < 16 → (x :: t).length ≤ 16 ∧ ∀ y ∈ x :: t, isL y := fun {x} lx hl => by
    refine ⟨by rw [List.length_cons]; omega, fun y hy => ?_⟩
    rcases List.mem_cons.mp hy with rfl | hy
    · exact lx
    · exact isl y hy
  cases e with
  | place p => exact tf ok
  | lost p => exact tf ok
  | twice p => exact tf ok
  | named p x => exact tf ok.1
  | new x => exact nw ok.1 ok.2.2.2
  | lostnew x => exact nw ok.1 ok.2.2.2
theorem heard_len {t : List Str} {h : List Nb} {e : Le} (ok : e.ok t h) (few : t.length ≤ 16) : (e.heard h).1.length ≤ max h.length 16 + 1 ∧ (e.heard h).2.length ≤ 2 := by
  cases e with
  | place p =>
    have hp : p < t.length := ok
    have := taken_len h p
    exact ⟨by show (takenN h p).1.length ≤ _; omega, by show 1 ≤ 2; omega⟩
  | lost p => exact ⟨by show h.length ≤ _; omega, Nat.zero_le _⟩
  | lostnew x => exact ⟨by show h.length ≤ _; omega, Nat.zero_le _⟩
  | new x => exact ⟨by show h.length + 1 ≤ _; omega, by show 1 ≤ 2; omega⟩
  | named p x =>
    have hp : p < t.length := ok.1
    have h1 := taken_len (learnedN h p x) p
    have h2 := learned_len h p x
    exact ⟨by show (takenN (learnedN h p x) p).1.length ≤ _; omega, by show 1 ≤ 2; omega⟩
  | twice p =>
    have hp : p < t.length := ok
    have h1 := taken_len h p
    have h2 := taken_len (takenN h p).1 p
    exact ⟨by show (takenN (takenN h p).1 p).1.length ≤ _; omega, by show 2 ≤ 2; omega⟩
theorem trim_snoc_none (L : List Nb) : trimN (L ++ [none]) = trimN L := by
  unfold trimN
  rw [List.reverse_append, List.reverse_singleton, List.singleton_append, List.dropWhile_cons_of_pos (by rfl)]
theorem trim_snoc_some (L : List Nb) (x : Str) : trimN (L ++ [some x]) = L ++ [some x] := by
  unfold trimN
  rw [List.reverse_append, List.reverse_singleton, List.singleton_append, List.dropWhile_cons_of_neg (by simp)]
  simp
theorem toFN_mem {W : List Nb} {p : Nat} (hp : p < W.length) {w : Nb} (h : w ∈ toFN W p) : w ∈ W := by
  unfold toFN at h
  rcases List.mem_cons.mp h with rfl | h
  · rw [getD_of hp]; exact List.getElem_mem _
  · rcases List.mem_append.mp h with h | h
    · exact List.mem_of_mem_take h
    · exact List.mem_of_mem_drop h
end TN
set_option Elab.async false
set_option linter.all false
set_option maxRecDepth 100000
set_option maxHeartbeats 2000000
set_option autoImplicit false
namespace TN
open PySem PySem.Spec PyProof.Rows L2
theorem getD_pad (L : List Nb) (n k : Nat) : (L ++ List.replicate n none).getD k none = L.getD k none := by
  rw [List.getD_eq_getElem?_getD, List.getD_eq_getElem?_getD]
  by_cases h : k < L.length
  · rw [List.getElem?_append_left h]
  · rw [List.getElem?_append_right (by omega), List.getElem?_eq_none (by omega : L.length ≤ k)]
    cases q : (List.replicate n (none : Nb))[k - L.length]? with
    | none => rfl
    | some w =>
      have := List.mem_of_getElem? q
      rw [(List.mem_replicate.mp this).2]; rfl

theorem trim_getD (L : List Nb) (k : Nat) : (trimN L).getD k none = L.getD k none := by
  have : ∀ (n : Nat) (L : List Nb), L.length = n → (trimN L).getD k none = L.getD k none := by
    intro n
    induction n with
    | zero =>
      intro L hl
      rw [List.length_eq_zero_iff.mp hl]; rfl
    | succ n ih =>
      intro L hl
      rcases List.eq_nil_or_concat L with rfl | ⟨L', w, rfl⟩
      · cases hl
      rw [List.concat_eq_append] at hl ⊢
      have l1 : L'.length = n := by rw [List.length_append, List.length_singleton] at hl; omega
      cases w with
      | none =>
        rw [trim_snoc_none, ih L' l1]
        exact (getD_pad L' 1 k).symm
      | some x => rw [trim_snoc_some]
  exact this L.length L rfl
theorem toFN_getD (L : List Nb) (p k : Nat) : (toFN L p).getD k none = if k = 0 then L.getD p none else if k ≤ p then L.getD (k - 1) none else L.getD k none := by
  unfold toFN
  cases k with
  | zero => rfl
  | succ k =>
    rw [if_neg (by omega), Nat.add_sub_cancel]
    show (L.take p ++ L.drop (p + 1)).getD k none = _
    rw [List.getD_eq_getElem?_getD]
    by_cases c : k + 1 ≤ p
    · rw [if_pos c]
      by_cases hl : k < L.length
      · rw [List.getElem?_append_left (by rw [List.length_take]; omega), List.getElem?_take_of_lt (by omega), ← List.getD_eq_getElem?_getD]
      · have e1 : (L.take p ++ L.drop (p + 1))[k]? = none := List.getElem?_eq_none (by rw [List.length_append, List.length_take, List.length_drop]; omega)
        rw [e1, List.getD_eq_getElem?_getD, List.getElem?_eq_none (by omega)]
    · rw [if_neg c]
      by_cases hl : p ≤ L.length
      · rw [List.getElem?_append_right (by rw [List.length_take]; omega), List.length_take, List.getElem?_drop, Nat.min_eq_left hl, show p + 1 + (k - p) = k + 1 by omega, ← List.getD_eq_getElem?_getD]
      · have e1 : (L.take p ++ L.drop (p + 1))[k]? = none := List.getElem?_eq_none (by rw [List.length_append, List.length_take, List.length_drop]; omega)
        rw [e1, List.getD_eq_getElem?_getD, List.getElem?_eq_none (by omega)]
theorem reach_getD (h : List Nb) (p k : Nat) : (reachN h p).getD k none = h.getD k none := getD_pad h _ k
theorem getD_set {L : List Nb} {p : Nat} (hp : p < L.length) (w : Nb) (k : Nat) : (L.set p w).getD k none = if k = p then w else L.getD k none := by
  rw [List.getD_eq_getElem?_getD, List.getElem?_set]
  by_cases c : p = k
  · subst c; rw [if_pos rfl, if_pos hp, if_pos rfl]; rfl
  · rw [if_neg c, if_neg (fun z => c z.symm), List.getD_eq_getElem?_getD]
theorem ixN'_app {x : Str} {h r : List Nb} (hm : some x ∈ h) : ixN' x (h ++ r) = ixN' x h := by
  unfold ixN'
  rw [List.findIdx_append, if_pos (List.findIdx_lt_length.mpr ⟨some x, hm, by simp⟩)]
def wideL (W : List Nb) (p : Nat) (x : Str) : List Nb := (if some x ∈ W then W.set (ixN' x W) (W.getD p none) else W).set p (some x)
theorem in_pad {x : Str} {h : List Nb} {n : Nat} : some x ∈ h ++ List.replicate n none ↔ some x ∈ h := by
  rw [List.mem_append]
  exact ⟨fun z => z.elim id (fun z => absurd (List.mem_replicate.mp z).2 (by simp)), fun z => Or.inl z⟩
end TN
set_option Elab.async false
set_option linter.all false
set_option maxRecDepth 100000
set_option maxHeartbeats 2000000
set_option autoImplicit false
namespace TN
open PySem PySem.Spec PyProof.Rows L2
section
variable {X : Cx} {e : Expr} {td : TE} {p pos cpos apos : Pos}
end
section
variable {K : PySem.W.Frag} {bor : List Nat} {te : TE} {A : TDE}
end
section
variable {prog : Program} {w : World} {A : Around} {E : Value → Shared → Prop} {s : Shared}
end
section
variable {X : Cx} {o i : Expr} {td ty : TE}
end
section
variable {K : PySem.W.Frag} {bor : List Nat} {ti td : TE} {f g : FE}
end
section
variable {P : PIt} {K : PySem.W.Frag} {bor : List Nat} {tk tv : TE} {A B : TDE}
end
end TN
set_option Elab.async false
set_option linter.all false
set_option maxRecDepth 100000
set_option maxHeartbeats 2000000
set_option autoImplicit false
namespace TN
open PySem PySem.Spec PyProof.Rows L2
def rdN (t : List Str) (h : List Nb) (x : Str) : Nb := h.getD (ixS x t) none
structure GN (t : List Str) (g : Str → Nb) : Prop where
  few : t.length ≤ 16
  nd : t.Nodup
  isl : ∀ x ∈ t, isL x
  okg : ∀ x ∈ t, ∀ y, g x = some y → isL y
  inj : ∀ x ∈ t, ∀ y ∈ t, g x ≠ none → g x = g y → x = y
theorem letters_mem {x : Str} {h : List Nb} : x ∈ lettersN h ↔ some x ∈ h := by
  unfold lettersN
  rw [List.mem_filterMap]
  exact ⟨fun ⟨a, ha, e⟩ => by rw [show a = some x from e] at ha; exact ha, fun z => ⟨some x, z, rfl⟩⟩
theorem getD_who {h : List Nb} {i : Nat} {y : Str} (e : h.getD i none = some y) : some y ∈ h := by
  rw [List.getD_eq_getElem?_getD] at e
  cases q : h[i]? with
  | none => rw [q] at e; cases e
  | some w =>
    rw [q] at e
    have e : w = some y := e
    rw [← e]; exact List.mem_of_getElem? q
theorem letters_inj : ∀ {h : List Nb}, (lettersN h).Nodup → ∀ {i j : Nat} {y : Str}, h.getD i none = some y → h.getD j none = some y → i = j
  | [], _, i, j, y, e, _ => by cases e
  | none :: h, nd, i, j, y, e1, e2 => by
    cases i with
    | zero => cases e1
    | succ i =>
      cases j with
      | zero => cases e2
      | succ j => rw [letters_inj (h := h) nd (i := i) (j := j) e1 e2]
  | some x :: h, nd, i, j, y, e1, e2 => by
    have nd : (x :: lettersN h).Nodup := nd
    rw [List.nodup_cons] at nd
    cases i with
    | zero =>
      cases j with
      | zero => rfl
      | succ j =>
        have e1 : some x = some y := e1
        injection e1 with e1; subst e1
        exact absurd (letters_mem.mpr (getD_who (h := h) (i := j) e2)) nd.1
    | succ i =>
      cases j with
      | zero =>
        have e2 : some x = some y := e2
        injection e2 with e2; subst e2
        exact absurd (letters_mem.mpr (getD_who (h := h) (i := i) e1)) nd.1
      | succ j => rw [letters_inj (h := h) nd.2 (i := i) (j := j) e1 e2]
theorem GN.of {t : List Str} {h : List Nb} (lr : Lrn t h) : GN t (rdN t h) where
  few := lr.few
  nd := lr.nd
  isl := lr.isl
  okg := fun x hx y e => lr.hisl y (letters_mem.mpr (getD_who e))
  inj := fun x hx y hy n e => by
    cases q : rdN t h x with
    | none => exact absurd q n
    | some z =>
      have q2 : rdN t h y = some z := by rw [← e]; exact q
      have := letters_inj lr.hnd (i := ixS x t) (j := ixS y t) q q2
      rw [← ix_getD hx, ← ix_getD hy, this]
def nxN (t : List Str) (g : Str → Nb) (x : Str) : Option Str := match g x with
  | some y => if y ∈ t then some y else none
  | none => none
theorem nx_some {t : List Str} {g : Str → Nb} {x y : Str} : nxN t g x = some y ↔ g x = some y ∧ y ∈ t := by
  unfold nxN
  cases q : g x with
  | none => simp
  | some z =>
    by_cases c : z ∈ t
    · simp [c]; exact fun e => e ▸ c
    · simp [c]; intro e; subst e; exact c
structure ChN (t : List Str) (g : Str → Nb) (x : Str) (S : List Str) : Prop where
  hd : S.head? = some x
  nd : S.Nodup
  mem : ∀ y ∈ S, y ∈ t
  step : ∀ i (h : i + 1 < S.length), g (S[i]'(by omega)) = some S[i + 1]
section
variable {t : List Str} {g : Str → Nb} {x y : Str} {S : List Str}
theorem ChN.ne (c : ChN t g x S) : 0 < S.length := List.length_pos_iff.mpr fun z => by have := c.hd; rw [z] at this; cases this
theorem ChN.last (c : ChN t g x S) : S.getLastD "" ∈ t := by rw [last_is c.ne]; exact c.mem _ (List.getElem_mem _)
theorem ChN.one (h : x ∈ t) : ChN t g x [x] := ⟨rfl, by simp, fun y hy => by rw [List.mem_singleton.mp hy]; exact h, fun i hi => by simp at hi⟩
theorem ChN.fresh (G : GN t g) (hx : some x ∉ t.map g) (c : ChN t g x S) (h : g (S.getLastD "") = some y) : y ∉ S := by
  intro z
  obtain ⟨j, hj, e⟩ := List.mem_iff_getElem.mp z
  have c0 := c.ne
  cases j with
  | zero =>
    have := c.hd
    rw [List.head?_eq_getElem?, List.getElem?_eq_getElem (by omega)] at this
    injection this with this
    rw [this] at e
    subst e
    exact hx (List.mem_map.mpr ⟨_, c.last, h⟩)
  | succ i =>
    have s := c.step i hj
    rw [e] at s
    have q := G.inj _ (c.mem _ (List.getElem_mem (by omega))) _ c.last (by rw [s]; simp) (s.trans h.symm)
    rw [last_is c0] at q
    have := (List.getElem_inj c.nd).mp q
    omega
theorem ChN.grow (G : GN t g) (hx : some x ∉ t.map g) (c : ChN t g x S) (h : g (S.getLastD "") = some y) (hy : y ∈ t) : ChN t g x (S ++ [y]) where
  hd := by rw [List.head?_append, c.hd]; rfl
  nd := by
    rw [List.nodup_append]
    refine ⟨c.nd, by simp, fun a ha b hb => ?_⟩
    rw [List.mem_singleton.mp hb]
    exact fun z => c.fresh G hx h (z ▸ ha)
  mem := fun z hz => by
    rcases List.mem_append.mp hz with a | a
    · exact c.mem z a
    · rw [List.mem_singleton.mp a]; exact hy
  step := fun i hi => by
    have c0 := c.ne
    have hi2 := hi
    rw [List.length_append, List.length_singleton] at hi2
    by_cases hl : i + 1 < S.length
    · have e1 : (S ++ [y])[i]'(by omega) = S[i] := List.getElem_append_left (by omega)
      have e2 : (S ++ [y])[i + 1] = S[i + 1] := List.getElem_append_left hl
      rw [e1, e2]; exact c.step i hl
    · have : i + 1 = S.length := by omega
      have e1 : (S ++ [y])[i]'(by omega) = S[i] := List.getElem_append_left (by omega)
      have e2 : (S ++ [y])[i + 1] = y := by rw [List.getElem_append_right (by omega)]; simp
      rw [last_is c0] at h
      rw [e1, e2, ← h]
      congr 2
      omega
theorem ChN.few (c : ChN t g x S) : S.length ≤ t.length := c.nd.length_le_of_subset (fun y hy => c.mem y hy)
theorem ChN.full (G : GN t g) (hx : some x ∉ t.map g) (c : ChN t g x S) (h : S.length = t.length) : nxN t g (S.getLastD "") = none := by
  cases q : nxN t g (S.getLastD "") with
  | none => rfl
  | some y =>
    obtain ⟨q1, q2⟩ := nx_some.mp q
    have := (c.grow G hx q1 q2).few
    rw [List.length_append, List.length_singleton] at this
    omega
end
end TN
set_option Elab.async false
set_option linter.all false
set_option maxRecDepth 100000
set_option maxHeartbeats 2000000
set_option autoImplicit false
namespace TN
open PySem PySem.Spec PyProof.Rows L2
end TN
set_option Elab.async false
set_option linter.all false
set_option maxRecDepth 100000
set_option maxHeartbeats 2000000
set_option autoImplicit false
namespace TN
open PySem PySem.Spec PyProof.Rows L2
def Le.kind : Le → Str
  | .place _ => "place"
  | .lost _ => "lost"
  | .twice _ => "twice"
  | .named _ _ => "named"
  | .new _ => "new"
  | .lostnew _ => "lostnew"
end TN
set_option Elab.async false
set_option linter.all false
set_option maxRecDepth 100000
set_option maxHeartbeats 2000000
set_option autoImplicit false
namespace TN
open PySem PySem.Spec PyProof.Rows L2
end TN
set_option Elab.async false
set_option linter.all false
set_option maxRecDepth 100000
set_option maxHeartbeats 2000000
set_option autoImplicit false
namespace TN
open PySem PySem.Spec PyProof.Rows L2
end TN
set_option Elab.async false
set_option linter.all false
set_option maxRecDepth 100000
set_option maxHeartbeats 2000000
set_option autoImplicit false
namespace TN
open PySem PySem.Spec PyProof.Rows L2
section
variable {P : Program} {w : World} {K : PySem.W.Frag} {mg : Str → Option Value} {base : Heap} {name : Str} {k : Nat} {f : Addr} {ps ks : List Str} {pl : List Nat} {sem sem' : List D → (Sl → Prop) → Prop}
theorem sp0_imp (h : ∀ ds Q, sem ds Q → sem' ds Q) : ∀ vs H Q E, sp0 K sem vs H Q E → sp0 K sem' vs H Q E := fun vs H Q E ⟨G, ds, Qd, tb, nt, a, b, c, d⟩ => ⟨G, ds, Qd, tb, nt, a, b, h ds Qd c, d⟩
theorem Has.imp (F : Has P w K mg base name k ps (sp0 K sem')) (h : ∀ ds Q, sem ds Q → sem' ds Q) : Has P w K mg base name k ps (sp0 K sem) := by
  obtain ⟨f, fd, a, b, c, d⟩ := F.ex
  exact ⟨f, fd, a.less (sp0_imp h), b, c, d⟩
theorem HasAt.imp (F : HasAt P w K mg base f k ps (sp0 K sem')) (h : ∀ ds Q, sem ds Q → sem' ds Q) : HasAt P w K mg base f k ps (sp0 K sem) := by
  obtain ⟨fd, a, c, d⟩ := F.ex
  exact ⟨fd, a.less (sp0_imp h), c, d⟩
end
end TN
set_option Elab.async false
set_option linter.all false
set_option maxRecDepth 100000
set_option maxHeartbeats 2000000
set_option autoImplicit false
namespace TN
open PySem PySem.Spec PyProof.Rows L2
section
variable {ks : List Str} {f f' : Str → Str}
end
def Ev.le : Ev → Le
  | .lost p => .lost p
  | .twice p => .twice p
  | .place p => .place p
  | .name _ => .place 0
  | .as' _ _ => .place 0
section
variable {t h : List Str} {x : Str}
end
end TN
namespace TN
open PySem PySem.Spec PyProof.Rows L2
end TN
namespace TN
open PySem PySem.Spec PyProof.Rows L2
end TN
set_option Elab.async false
set_option linter.all false
set_option maxRecDepth 100000
set_option maxHeartbeats 2000000
set_option autoImplicit false
namespace TN
open PySem PySem.Spec PyProof.Rows L2
inductive EndsN (t : List Str) (g : Str → Nb) : Str → Prop
  | stop {y : Str} : nxN t g y = none → EndsN t g y
  | step {y z : Str} : nxN t g y = some z → EndsN t g z → EndsN t g y
section
variable {t : List Str} {g g' : Str → Nb} {x y z : Str}
structure NamedN (t : List Str) (g : Str → Nb) (x : Str) (g' : Str → Nb) : Prop where
  here : g' x = some x
  back : ∀ y ∈ t, y ≠ x → g y = some x → g' y = g x
  else' : ∀ y ∈ t, y ≠ x → g y ≠ some x → g' y = g y
end
section
variable {t t' : List Str} {g g' : Str → Nb} {x : Str}
theorem GN.congr (G : GN t g) (p : t'.Perm t) (e : ∀ y ∈ t, g' y = g y) : GN t' g' where
  few := by rw [p.length_eq]; exact G.few
  nd := p.nodup_iff.mpr G.nd
  isl := fun y hy => G.isl y (p.mem_iff.mp hy)
  okg := fun y hy w q => G.okg y (p.mem_iff.mp hy) w (by rw [← e y (p.mem_iff.mp hy)]; exact q)
  inj := fun y hy w hw n q => by
    have hy := p.mem_iff.mp hy
    have hw := p.mem_iff.mp hw
    rw [e y hy] at n q
    rw [e w hw] at q
    exact G.inj y hy w hw n q
end
end TN
set_option Elab.async false
set_option linter.all false
set_option maxRecDepth 100000
set_option maxHeartbeats 2000000
set_option autoImplicit false
namespace TN
open PySem PySem.Spec PyProof.Rows L2
section
variable {ks ks' : List Str} {f f' : Str → Str} {x : Str}
end
section
variable {t : List Str} {g g' : Str → Nb} {x y : Str}
end
end TN
set_option Elab.async false
set_option linter.all false
set_option maxRecDepth 100000
set_option maxHeartbeats 2000000
set_option autoImplicit false
namespace TN
open PySem PySem.Spec PyProof.Rows L2
def InjN (h : List Nb) : Prop := ∀ i j y, h.getD i none = some y → h.getD j none = some y → i = j
abbrev IslN (h : List Nb) : Prop := ∀ y, some y ∈ h → isL y
theorem mem_getD {h : List Nb} {y : Str} (m : some y ∈ h) : ∃ i, h.getD i none = some y := by
  obtain ⟨i, hi, e⟩ := List.mem_iff_getElem.mp m
  exact ⟨i, by rw [getD_of hi, e]⟩
theorem inj_nd : ∀ {h : List Nb}, InjN h → (lettersN h).Nodup
  | [], _ => List.nodup_nil
  | none :: h, I => inj_nd (h := h) fun i j y e1 e2 => by have := I (i + 1) (j + 1) y e1 e2; omega
  | some x :: h, I => by
    show (x :: lettersN h).Nodup
    rw [List.nodup_cons]
    refine ⟨fun m => ?_, inj_nd (h := h) fun i j y e1 e2 => by have := I (i + 1) (j + 1) y e1 e2; omega⟩
    obtain ⟨i, e⟩ := mem_getD (letters_mem.mp m)
    have := I 0 (i + 1) x rfl e
    omega
theorem Lrn.injN {t : List Str} {h : List Nb} (lr : Lrn t h) : InjN h := fun i j y e1 e2 => letters_inj lr.hnd e1 e2
theorem Lrn.islN {t : List Str} {h : List Nb} (lr : Lrn t h) : IslN h := fun y m => lr.hisl y (letters_mem.mpr m)
theorem trim_last (L : List Nb) : (trimN L).getLast? ≠ some none := by
  unfold trimN
  rw [List.getLast?_reverse]
  intro z
  have := List.head?_dropWhile_not (fun w : Nb => decide (w = none)) L.reverse
  rw [z] at this
  simp at this
theorem Lrn.mk' {t : List Str} {h : List Nb} (few : t.length ≤ 16) (nd : t.Nodup) (isl : ∀ x ∈ t, isL x) (hf : h.length ≤ 1000) (I : InjN h) (l : IslN h) (la : h.getLast? ≠ some none) : Lrn t h :=
  ⟨few, nd, isl, hf, inj_nd I, fun x hx => l x (letters_mem.mp hx), la⟩
theorem taken_inj {h : List Nb} (I : InjN h) (p : Nat) : InjN (takenN h p).1 := fun i j y e1 e2 => by
  have ea : ∀ k, (takenN h p).1.getD k none = h.getD (if k = 0 then p else if k ≤ p then k - 1 else k) none := fun k => by
    show (trimN (toFN (reachN h p) p)).getD k none = _
    rw [trim_getD, toFN_getD]
    simp only [reach_getD]
    split
    · rfl
    · split <;> rfl
  rw [ea] at e1 e2
  have := I _ _ y e1 e2
  repeat' split at this
  all_goals omega
theorem trim_mem {L : List Nb} {y : Str} (m : some y ∈ trimN L) : some y ∈ L := by
  obtain ⟨i, e⟩ := mem_getD m
  rw [trim_getD] at e
  exact getD_who e
theorem taken_mem {h : List Nb} {p : Nat} {y : Str} (m : some y ∈ (takenN h p).1) : some y ∈ h :=
  in_pad.mp (toFN_mem (W := reachN h p) (by rw [reach_len]; omega) (trim_mem m))
theorem ixN'_getD {x : Str} {h : List Nb} (m : some x ∈ h) : h.getD (ixN' x h) none = some x := by
  rw [getD_of (ixN'_lt m)]
  exact of_decide_eq_true (p := h[ixN' x h]'(ixN'_lt m) = some x) (List.findIdx_getElem (w := ixN'_lt m))

theorem learned_getD {h : List Nb} {p : Nat} {x : Str} (k : Nat) : (learnedN h p x).getD k none = if k = p then some x else if some x ∈ h ∧ k = ixN' x h then h.getD p none else h.getD k none := by
  have rl := reach_len h p
  show (wideL (reachN h p) p x).getD k none = _
  unfold wideL
  by_cases m : some x ∈ h
  · have m2 : some x ∈ reachN h p := in_pad.mpr m
    have i2 : ixN' x (reachN h p) = ixN' x h := ixN'_app m
    have lt := ixN'_lt m
    rw [if_pos m2, i2, getD_set (by rw [List.length_set]; omega), getD_set (by omega), reach_getD, reach_getD]
    simp only [m, true_and]
  · have m2 : some x ∉ reachN h p := fun z => m (in_pad.mp z)
    rw [if_neg m2, getD_set (by omega), reach_getD]
    simp only [m, false_and, if_false]
theorem learned_inj {h : List Nb} (I : InjN h) (p : Nat) (x : Str) : InjN (learnedN h p x) := fun i j y e1 e2 => by
  rw [learned_getD] at e1 e2
  by_cases m : some x ∈ h
  · have gx := ixN'_getD m
    simp only [m, true_and] at e1 e2
    have one : ∀ k, h.getD k none = some x → k = ixN' x h := fun k e => I _ _ x e gx
    by_cases a1 : i = p
    · by_cases b1 : j = p
      · omega
      · rw [if_pos a1] at e1; rw [if_neg b1] at e2
        injection e1 with e1; subst e1
        by_cases b2 : j = ixN' x h
        · rw [if_pos b2] at e2
          have := one p e2; omega
        · rw [if_neg b2] at e2
          exact absurd (one j e2) b2
    · rw [if_neg a1] at e1
      by_cases b1 : j = p
      · rw [if_pos b1] at e2
        injection e2 with e2; subst e2
        by_cases a2 : i = ixN' x h
        · rw [if_pos a2] at e1
          have := one p e1; omega
        · rw [if_neg a2] at e1
          exact absurd (one i e1) a2
      · rw [if_neg b1] at e2
        by_cases a2 : i = ixN' x h
        · by_cases b2 : j = ixN' x h
          · omega
          · rw [if_pos a2] at e1; rw [if_neg b2] at e2
            exact absurd (I _ _ y e1 e2).symm b1
        · rw [if_neg a2] at e1
          by_cases b2 : j = ixN' x h
          · rw [if_pos b2] at e2
            exact absurd (I _ _ y e1 e2) a1
          · rw [if_neg b2] at e2
            exact I _ _ y e1 e2
  · have no : ∀ k, h.getD k none ≠ some x := fun k e => m (getD_who e)
    simp only [m, false_and, if_false] at e1 e2
    by_cases a1 : i = p
    · by_cases b1 : j = p
      · omega
      · rw [if_pos a1] at e1; rw [if_neg b1] at e2
        injection e1 with e1; subst e1
        exact absurd e2 (no j)
    · rw [if_neg a1] at e1
      by_cases b1 : j = p
      · rw [if_pos b1] at e2
        injection e2 with e2; subst e2
        exact absurd e1 (no i)
      · rw [if_neg b1] at e2
        exact I _ _ y e1 e2
theorem learned_isl {h : List Nb} (l : IslN h) {p : Nat} {x : Str} (lx : isL x) : IslN (learnedN h p x) := fun y m => by
  obtain ⟨k, e⟩ := mem_getD m
  rw [learned_getD] at e
  split at e
  · injection e with e; exact e ▸ lx
  · split at e
    · exact l y (getD_who e)
    · exact l y (getD_who e)

theorem Lrn.next {t : List Str} {h : List Nb} {e : Le} (lr : Lrn t h) (ok : e.ok t h) (hf : h.length ≤ 900) : Lrn (e.told t) (e.heard h).1 := by
  have tk := told_ok ok lr.few lr.isl
  have hl := heard_len (h := h) ok lr.few
  have tf := lr.few
  have nd : (e.told t).Nodup := by
    cases e with
    | new x => exact List.nodup_cons.mpr ⟨ok.2.1, lr.nd⟩
    | lostnew x => exact List.nodup_cons.mpr ⟨ok.2.1, lr.nd⟩
    | named p x => exact (toF_perm ok.1).nodup_iff.mpr lr.nd
    | place p => exact (toF_perm (show p < t.length from ok)).nodup_iff.mpr lr.nd
    | lost p => exact (toF_perm (show p < t.length from ok)).nodup_iff.mpr lr.nd
    | twice p => exact (toF_perm (show p < t.length from ok)).nodup_iff.mpr lr.nd
  have I := lr.injN
  have l := lr.islN
  refine .mk' tk.1 nd tk.2 (by omega) ?_ ?_ ?_
  · cases e with
    | lost p => exact I
    | lostnew x => exact I
    | place p => exact taken_inj I p
    | twice p => exact taken_inj (taken_inj I p) p
    | named p x => exact taken_inj (learned_inj I p x) p
    | new x =>
      have nx : some x ∉ h := ok.2.2.1
      intro i j y e1 e2
      cases i with
      | zero =>
        cases j with
        | zero => rfl
        | succ j =>
          have e1 : some x = some y := e1
          injection e1 with e1; subst e1
          exact absurd (getD_who (h := h) (i := j) e2) nx
      | succ i =>
        cases j with
        | zero =>
          have e2 : some x = some y := e2
          injection e2 with e2; subst e2
          exact absurd (getD_who (h := h) (i := i) e1) nx
        | succ j => rw [I i j y e1 e2]
  · cases e with
    | lost p => exact l
    | lostnew x => exact l
    | place p => exact fun y m => l y (taken_mem m)
    | twice p => exact fun y m => l y (taken_mem (taken_mem m))
    | named p x =>
      have lx : isL x := by
        have e := ok.2
        rw [getD_of ok.1] at e
        exact lr.isl x (e ▸ List.getElem_mem ok.1)
      exact fun y m => learned_isl l lx y (taken_mem m)
    | new x =>
      intro y m
      rcases List.mem_cons.mp m with e | m
      · injection e with e; exact e ▸ ok.1
      · exact l y m
  · cases e with
    | lost p => exact lr.last
    | lostnew x => exact lr.last
    | place p => exact trim_last _
    | twice p => exact trim_last _
    | named p x => exact trim_last _
    | new x =>
      show (some x :: h).getLast? ≠ some none
      cases h with
      | nil => intro z; cases z
      | cons a h => rw [List.getLast?_cons_cons]; exact lr.last
theorem Lrn.run : ∀ {es : List Le} {t : List Str} {h : List Nb}, Lrn t h → okAll t h es → max h.length 16 + es.length ≤ 900 → Lrn (endL t h es).1 (endL t h es).2 ∧ (endL t h es).2.length ≤ max h.length 16 + es.length
  | [], t, h, lr, _, _ => ⟨lr, by show h.length ≤ _; omega⟩
  | e :: es, t, h, lr, ⟨oe, os⟩, hf => by
    rw [List.length_cons] at hf
    have hl := heard_len (h := h) oe lr.few
    obtain ⟨a, b⟩ := Lrn.run (es := es) (lr.next oe (by omega)) os (by omega)
    refine ⟨a, ?_⟩
    show (endL (e.told t) (e.heard h).1 es).2.length ≤ _
    rw [List.length_cons]; omega

section
variable {t : List Str} {h : List Nb} {x : Str}
end
end TN
set_option Elab.async false
set_option linter.all false
set_option maxRecDepth 100000
set_option maxHeartbeats 2000000
set_option autoImplicit false
namespace TN
open PySem PySem.Spec PyProof.Rows L2
end TN
namespace TN
open PySem PySem.Spec PyProof.Rows L2
end TN
namespace TN
open PySem PySem.Spec PyProof.Rows L2
end TN
namespace TN
open PySem PySem.Spec PyProof.Rows L2
theorem oEq_self {d : D} (h : Fine 9 d) : oEq d d = some (.bool true) := by
  rw [oEq_is h h]; simp
end TN
namespace TN
open PySem PySem.Spec PyProof.Rows L2
section
variable {α β : Type} {f : α → β} {z : α} {L l : List α} {k : Nat}
end
end TN
namespace TN
open PySem PySem.Spec PyProof.Rows L2
end TN
namespace TN
open PySem PySem.Spec PyProof.Rows L2
end TN
namespace TN
open PySem PySem.Spec PyProof.Rows L2
end TN
set_option Elab.async false
set_option linter.all false
set_option maxRecDepth 100000
set_option maxHeartbeats 2000000
set_option autoImplicit false
namespace TN
open PySem PySem.Spec PyProof.Rows L2
inductive Any : Nat → D → Prop
  | none {k : Nat} : Any k .none
  | bool {k : Nat} (b : Bool) : Any k (.bool b)
  | int {k : Nat} (i : Int) : Any k (.int i)
  | str {k : Nat} {x : Str} (h : okS x) (few : x.cps.size ≤ 100000) : Any k (.str x)
  | list {k : Nat} {xs : List D} (h : ∀ x ∈ xs, Any k x) (few : xs.length ≤ 1000) : Any (k + 1) (.list xs)
  | tuple {k : Nat} {xs : List D} (h : ∀ x ∈ xs, Any k x) (few : xs.length ≤ 1000) : Any (k + 1) (.tuple xs)
  | nod {k : Nat} : Any k (.dict [])
end TN
namespace TN
open PySem PySem.Spec PyProof.Rows L2
end TN
namespace TN
open PySem PySem.Spec PyProof.Rows L2
end TN
namespace TN
open PySem PySem.Spec PyProof.Rows L2
end TN
namespace TN
open PySem PySem.Spec PyProof.Rows L2
end TN
namespace TN
open PySem PySem.Spec PyProof.Rows L2
end TN
namespace TN
open PySem PySem.Spec PyProof.Rows L2
end TN
namespace TN
open PySem PySem.Spec PyProof.Rows L2
end TN
set_option Elab.async false
set_option linter.all false
set_option maxRecDepth 100000
set_option maxHeartbeats 2000000
set_option autoImplicit false
namespace TN
open PySem PySem.Spec PyProof.Rows L2
section
variable {K : PySem.W.Frag} {bor : List Nat} {te : TE} {A : TDE}
end
end TN
set_option Elab.async false
set_option linter.all false
set_option maxRecDepth 100000
set_option maxHeartbeats 2000000
set_option autoImplicit false
namespace TN
open PySem PySem.Spec PyProof.Rows L2
section
variable {α β : Type}
def Ev.pl : Ev → Nat
  | .place p | .lost p | .twice p | .as' p _ => p
  | .name _ => 0
def Ev.tk : Ev → List Nat
  | .place p => [p]
  | .twice p => [p, p]
  | .as' _ q => [q]
  | .lost _ | .name _ => []
end
def itF (f : Nat → Nat) : Nat → Nat → Nat
  | 0, x => x
  | k + 1, x => f (itF f k x)
structure Tn (a : List Nat) (n : Nat) : Prop where
  len : a.length = n
  lt : ∀ x ∈ a, x < n
  nd : a.Nodup
abbrev tf (a : List Nat) (k : Nat) : Nat := a.getD k 0
section
variable {a : List Nat} {n : Nat}
theorem Tn.at' (T : Tn a n) {k : Nat} (h : k < n) : tf a k < n := by
  have hk : k < a.length := by rw [T.len]; exact h
  unfold tf
  rw [List.getD_eq_getElem?_getD, List.getElem?_eq_getElem hk]
  exact T.lt _ (List.getElem_mem hk)
theorem Tn.inj (T : Tn a n) {j k : Nat} (hj : j < n) (hk : k < n) (e : tf a j = tf a k) : j = k := by
  have h1 : j < a.length := by rw [T.len]; exact hj
  have h2 : k < a.length := by rw [T.len]; exact hk
  unfold tf at e
  rw [List.getD_eq_getElem?_getD, List.getD_eq_getElem?_getD, List.getElem?_eq_getElem h1, List.getElem?_eq_getElem h2] at e
  exact (List.getElem_inj T.nd).mp e
theorem Tn.it (T : Tn a n) {x : Nat} (hx : x < n) : ∀ k, itF (tf a) k x < n
  | 0 => hx
  | k + 1 => T.at' (T.it hx k)
theorem Tn.back (T : Tn a n) {x : Nat} (hx : x < n) : ∀ (i d : Nat), itF (tf a) i x = itF (tf a) (d + i) x → itF (tf a) d x = x
  | 0, d, e => e.symm
  | i + 1, d, e => T.back hx i d (T.inj (T.it hx i) (T.it hx (d + i)) e)

structure Per (f : Nat → Nat) (x L : Nat) : Prop where
  pos : 0 < L
  back : itF f L x = x
  first : ∀ m, 0 < m → m < L → itF f m x ≠ x
end
theorem Tn.of {a : List Nat} {n : Nat} (p : a.Perm (List.range n)) : Tn a n := ⟨by rw [p.length_eq, List.length_range], fun x hx => List.mem_range.mp (p.mem_iff.mp hx), p.nodup_iff.mpr List.nodup_range⟩

def far {α : Type} (r : List α) (f : Nat → Nat) (m : Nat) : List α := (List.range r.length).flatMap fun x => r[itF f m x]?.toList
end TN
set_option Elab.async false
set_option linter.all false
set_option maxRecDepth 100000
set_option maxHeartbeats 2000000
set_option autoImplicit false
namespace TN
open PySem PySem.Spec PyProof.Rows L2
end TN
set_option Elab.async false
set_option linter.all false
set_option maxRecDepth 100000
set_option maxHeartbeats 2000000
set_option autoImplicit false
namespace TN
open PySem PySem.Spec PyProof.Rows L2
theorem oIx_snoc {l : List D} {d : D} : oIx (.list (l ++ [d])) (.int (-1)) = some d := by
  show atI (l ++ [d]) (-1) = _
  unfold atI
  have e : ixN (l ++ [d]).length (-1) = some l.length := by
    unfold ixN
    rw [List.length_append, List.length_singleton]
    split <;> first | (split <;> first | (congr 1; omega) | omega) | omega
  rw [e]
  show (l ++ [d])[l.length]? = _
  simp
end TN
namespace TN
open PySem PySem.Spec PyProof.Rows L2
section
variable {P : Program} {w : World} {K : PySem.W.Frag} {mg : Str → Option Value} {base : Heap} {name : Str} {k : Nat} {ps : List Str} {sem sem' : List D → List D → (Sl → List D → Prop) → Prop}
end
end TN
namespace TN
open PySem PySem.Spec PyProof.Rows L2
end TN
namespace TN
open PySem PySem.Spec PyProof.Rows L2
section
variable {K : PySem.W.Frag} {bor : List Nat} {tb : TE} {f : FE}
end
end TN
namespace TN
open PySem PySem.Spec PyProof.Rows L2
end TN
namespace TN
open PySem PySem.Spec PyProof.Rows L2
section
variable {K : PySem.W.Frag} {bor : List Nat} {ta : TA} {f : FA}
end
end TN
namespace TN
open PySem PySem.Spec PyProof.Rows L2
end TN
namespace TN
open PySem PySem.Spec PyProof.Rows L2
end TN
namespace TN
open PySem PySem.Spec PyProof.Rows L2
end TN
namespace TN
open PySem PySem.Spec PyProof.Rows L2
end TN
set_option Elab.async false
set_option linter.all false
set_option maxRecDepth 100000
set_option maxHeartbeats 2000000
set_option autoImplicit false
namespace TN
open PySem PySem.Spec PyProof.Rows L2
theorem argsK_min (a d : Value) : argsOk "min" ⟨[a], [("key", d)]⟩ := by unfold argsOk; kernel_rfl
section
variable {X : Cx} {pins : List (Addr × Obj)} {σ : L2.St} {H : Hp} {a f I T : Addr} {xs : List V} {fo : Obj} {R : Result → Shared → Prop}
abbrev bestK (val : Nat → Int) (j : Nat) : Nat := argBest (fun i j => decide (val i < val j)) j
theorem bestK_is (val : Nat → Int) : ∀ k, bestK val k ≤ k ∧ (∀ j, j ≤ k → val (bestK val k) ≤ val j) ∧ ∀ j, j < bestK val k → val (bestK val k) < val j
  | 0 => ⟨Nat.le_refl _, fun j hj => by cases Nat.le_zero.mp hj; exact Int.le_refl _, fun j hj => absurd hj (Nat.not_lt_zero _)⟩
  | k + 1 => by
    obtain ⟨h1, h2, h3⟩ := bestK_is val k
    have e : bestK val (k + 1) = if decide (val (k + 1) < val (bestK val k)) = true then k + 1 else bestK val k := rfl
    rw [e]
    generalize bestK val k = b at h1 h2 h3
    by_cases c : val (k + 1) < val b
    · rw [if_pos (decide_eq_true c)]
      refine ⟨Nat.le_refl _, fun j hj => ?_, fun j hj => ?_⟩
      · by_cases hjk : j = k + 1
        · subst hjk; exact Int.le_refl _
        · have := h2 j (by omega); omega
      · have := h2 j (by omega); omega
    · rw [if_neg (by simpa using c)]
      refine ⟨by omega, fun j hj => ?_, h3⟩
      by_cases hjk : j = k + 1
      · subst hjk; omega
      · exact h2 j (by omega)

def KeyAsk (X : Cx) (pins : List (Addr × Obj)) (σ : L2.St) (H : Hp) (f : Addr) (fo : Obj) (xs : List V) (val : Nat → Int) : Prop :=
  ∀ (i : Nat) (x : V) (u : Value) (s : Shared), xs[i]? = some x → RelV x u → Inv X pins σ H s → s.heap.get? f = some fo →
    wpAny (model X.prog X.w) X.A.in1 (call (.ref f) [u]) (fun r s1 => (∃ t, r = .int (val i) t) ∧ Inv X pins σ H s1 ∧ ∀ b o, H b = none → b ∉ frs X.stack → s.heap.get? b = some o → s1.heap.get? b = some o) (fun _ _ => False) s
theorem fp_out {s : Shared} {b : Addr} (Iv : Inv X pins σ H s) (h : FpOk X pins H b) : b ∉ frs X.stack := fun z => by
  rcases List.mem_cons.mp (Iv.stkSub b z) with e | e
  · exact h.2.1 e
  · exact h.2.2.1 e
theorem keyLoop (hd : X.A.handled = none) (hs : SqL X.K H a xs) (val : Nat → Int) (ask : KeyAsk X pins σ H f fo xs val) (hf : H f = none) (hff : f ∉ frs X.stack) (oI : FpOk X pins H I) (oT : FpOk X pins H T) (nIT : I ≠ T) (nfI : f ≠ I) (nfT : f ≠ T) (naI : a ≠ I)
    (q : ∀ x u s1, xs[bestK val (xs.length - 1)]? = some x → RelV x u → Inv X pins σ H s1 → R (.ok (.ret u)) s1) :
    ∀ (k j : Nat) (s : Shared) (x : V) (u : Value) (tb c : Nat), xs.length - (j + 1) = k → j + 1 ≤ xs.length → Inv X pins σ H s → s.heap.get? f = some fo → s.heap.IsListIter I a (j + 1) → xs[bestK val j]? = some x → RelV x u →
      s.heap.get? T = some { cls := .type "list", dict := none, data := .seq #[u, .int (val (bestK val j)) tb] c, slots := #[] } → codeAny (model X.prog X.w) X.A (.builtin "min.loop" ⟨[.ref I, .ref f, .ref T], []⟩) R s := by
  have nm : (toString "min" ++ toString ".loop" : String) = "min.loop" := by decide
  intro k
  induction k with
  | zero =>
    intro j s x u tb c e1 le Iv fat it ex ru at0
    have en : j + 1 = xs.length := by omega
    obtain ⟨its, rv, pl, _⟩ := Iv.list hs
    have sz : its.toArray.size = xs.length := by rw [List.size_toArray, rv.length]
    have W := Walks.list (prog := X.prog) (w := X.w) (A := X.A.in1) hd I a naI its.toArray
    apply codeAny_builtin F.entry_min_loop; rw [Around.under_plainId F.plain_min_loop _]
    show wpAny _ X.A.in1 (seqItems? (.ref T) >>= _) _ _ s
    apply wpAny_bind; apply wpAny_seqItems at0 rfl
    show wpAny _ X.A.in1 (tryCatch (pyNext (.ref I)) _ >>= _) _ _ s; apply wpAny_bind
    refine wpAny_tryCatch (W.done s _ _ ⟨by rw [sz, ← en]; exact it, pl.isList⟩ fun h1 t1 keep => ?_)
    have at1 := keep T _ (fun z => nIT (List.mem_singleton.mp z).symm) at0
    show wpAny _ X.A.in1 (updateSeq T (fun _ => #[]) >>= _) _ _ _; apply wpAny_bind
    refine wpAny_updateSeq at1 rfl (wpAny_bind (wpAny_letGo (wpAny_pure (q x u _ (by rw [← en]; exact ex) ru ?_))))
    exact (Iv.turnedL (t' := t1) (ch := [I]) keep fun b hb => List.mem_singleton.mp hb ▸ oI).turnedL (t' := t1) (ch := [T]) (fun b o nb e => (Heap.get?_update_other _ _ fun z => nb (List.mem_singleton.mpr z.symm)).trans e) fun b hb => List.mem_singleton.mp hb ▸ oT
  | succ k ih =>
    intro j s x u tb c e1 le Iv fat it ex ru at0
    have lt : j + 1 < xs.length := by omega
    obtain ⟨its, rv, pl, _⟩ := Iv.list hs
    have sz : its.toArray.size = xs.length := by rw [List.size_toArray, rv.length]
    have W := Walks.list (prog := X.prog) (w := X.w) (A := X.A.in1) hd I a naI its.toArray
    apply codeAny_builtin F.entry_min_loop; rw [Around.under_plainId F.plain_min_loop _]
    show wpAny _ X.A.in1 (seqItems? (.ref T) >>= _) _ _ s
    apply wpAny_bind; apply wpAny_seqItems at0 rfl
    show wpAny _ X.A.in1 (tryCatch (pyNext (.ref I)) _ >>= _) _ _ s; apply wpAny_bind
    refine wpAny_tryCatch (W.item (j + 1) s _ _ (by rw [sz]; exact lt) ⟨it, pl.isList⟩ fun v h1 t1 pv st1 keep => ?_)
    have at1 := keep T _ (fun z => nIT (List.mem_singleton.mp z).symm) at0
    have fat1 := keep f _ (fun z => nfI (List.mem_singleton.mp z)) fat
    have I1 : Inv X pins σ H { s with heap := h1, toks := t1 } := Iv.turnedL (ch := [I]) keep fun b hb => List.mem_singleton.mp hb ▸ oI
    obtain ⟨y, ey, ry⟩ : ∃ y, xs[j + 1]? = some y ∧ RelV y v := vals_ix rv (by simpa using pv)
    show wpAny _ X.A.in1 (tryCatch (holding [v] (call (.ref f) [v])) _ >>= _) _ _ _; apply wpAny_bind
    refine wpAny_tryCatch (wpAny_holding (wpAny_mono (ask (j + 1) y v _ ey ry I1 fat1) (fun r s2 he => ?_) fun _ _ z => z.elim))
    obtain ⟨⟨t2, rfl⟩, I2, kp⟩ := he
    have at2 := kp T _ oT.1 (fp_out I1 oT) at1
    have fat2 := kp f _ hf hff fat1
    have it2 : s2.heap.IsListIter I a (j + 1 + 1) := by
      obtain ⟨o, g1, g2, g3⟩ := st1.1
      exact ⟨o, kp I _ oI.1 (fp_out I1 oI) g1, g2, g3⟩
    show wpAny _ X.A.in1 (tryCatch (holding [v, .int (val (j + 1)) t2] (richCompare .Lt (.int (val (j + 1)) t2) (.int (val (bestK val j)) tb) >>= _)) _ >>= _) _ _ _; apply wpAny_bind
    refine wpAny_tryCatch (wpAny_holding (wpAny_bind (CmpOf.ints_lt (prog := X.prog) (w := X.w) (A := X.A.in1) (P := fun i z => ∃ t, z = .int (val i) t) val (fun _ _ e => e) (j + 1) (bestK val j) _ _ _ _ _ ⟨t2, rfl⟩ ⟨tb, rfl⟩ ?_)))
    apply wpAny_bind; refine wpAny_holding (wpAny_truthy_bool (wpAny_bind (wpAny_letGo (wpAny_pure ?_))))
    have eb : bestK val (j + 1) = if decide (val (j + 1) < val (bestK val j)) = true then j + 1 else bestK val j := rfl
    cases hbt : decide (val (j + 1) < val (bestK val j)) with
    | true =>
      rw [if_pos (show decide (val (j + 1) < val (bestK val j)) = true from hbt)] at eb
      rw [if_pos (show decide (val (j + 1) < val (bestK val j)) = true from hbt)]; apply wpAny_bind
      refine wpAny_updateSeq at2 rfl (wpAny_bind (wpAny_letGo ?_)); rw [nm]
      have up : ∀ b o, b ∉ [T] → s2.heap.get? b = some o → (s2.heap.update T (Obj.mapSeq fun _ => #[v, .int (val (j + 1)) t2])).get? b = some o := fun b o nb e => (Heap.get?_update_other _ _ fun z => nb (List.mem_singleton.mpr z.symm)).trans e
      refine wpAny_pure ⟨plainId_quiet F.plain_min_loop _, ih (j + 1) _ y v t2 _ (by omega) lt (I2.turnedL (t' := s2.toks) (ch := [T]) up fun b hb => List.mem_singleton.mp hb ▸ oT) (up f _ (fun z => nfT (List.mem_singleton.mp z)) fat2) ?_ (by rw [eb]; exact ey) ry (by rw [eb]; exact Heap.get?_update_self _ at2 rfl)⟩
      obtain ⟨o, g1, g2, g3⟩ := it2
      exact ⟨o, up I _ (fun z => nIT (List.mem_singleton.mp z)) g1, g2, g3⟩
    | false =>
      rw [if_neg (show ¬ decide (val (j + 1) < val (bestK val j)) = true from by rw [hbt]; exact Bool.false_ne_true)] at eb
      rw [if_neg (show ¬ decide (val (j + 1) < val (bestK val j)) = true from by rw [hbt]; exact Bool.false_ne_true)]; apply wpAny_bind; apply wpAny_letGo; rw [nm]
      exact wpAny_pure ⟨plainId_quiet F.plain_min_loop _, ih (j + 1) _ x u tb c (by omega) lt I2 fat2 it2 (by rw [eb]; exact ex) ru (by rw [eb]; exact at2)⟩
theorem keyCall {s : Shared} {Q : Value → Shared → Prop} {E : Value → Shared → Prop} (hd : X.A.handled = none) (Iv : Inv X pins σ H s) (hs : SqL X.K H a xs) (ne : 0 < xs.length) (val : Nat → Int) (ask : KeyAsk X pins σ H f fo xs val) (hf : H f = none) (hff : f ∉ frs X.stack) (fat : s.heap.get? f = some fo)
    (q : ∀ x u s1, xs[bestK val (xs.length - 1)]? = some x → RelV x u → Inv X pins σ H s1 → Q u s1) : wpAny (model X.prog X.w) X.A (call (.builtin "min") [.ref a] [("key", .ref f)]) Q E s := by
  have nm : (toString "min" ++ toString ".loop" : String) = "min.loop" := by decide
  obtain ⟨its, rv, pl, _⟩ := Iv.list hs
  have hl := pl.isList
  have lt : a < s.heap.objs.size := by obtain ⟨_, e, _⟩ := hl; exact Heap.lt_size e
  have sz : its.toArray.size = xs.length := by rw [List.size_toArray, rv.length]
  refine callKw F.kind_min F.plain_min F.entry_min (argsK_min _ _) ?_
  show wpAny _ X.A.in1 (Builtin.Builtins.bindParams "min" ["key", "default"] 0 ⟨[], [("key", .ref f)]⟩ >>= _) _ _ s; apply wpAny_bind
  refine wpAny_of_eq (show Builtin.Builtins.bindParams "min" ["key", "default"] 0 ⟨[], [("key", .ref f)]⟩ = pure [some (.ref f), none] from rfl) (wpAny_bind (wpAny_pure (wpAny_bind (wpAny_pyIter_list hl ?_))))
  apply wpAny_bind; refine wpAny_newObj_type ?_
  rw [nm]
  obtain ⟨h1, eh1⟩ : ∃ h1, h1 = s.heap.push { cls := .type "list_iterator", data := .fields #[.ref a, .int 0 0] } := ⟨_, rfl⟩
  have z1 : h1.objs.size = s.heap.objs.size + 1 := by rw [eh1]; exact Heap.size_push ..
  obtain ⟨h2, eh2⟩ : ∃ h2, h2 = h1.push { cls := .type "list", data := .seq #[] } := ⟨_, rfl⟩
  have k1 : ∀ b o, s.heap.get? b = some o → h1.get? b = some o := fun b o e => by rw [eh1]; exact Heap.get?_push_of_some _ e
  have k2 : ∀ b o, h1.get? b = some o → h2.get? b = some o := fun b o e => by rw [eh2]; exact Heap.get?_push_of_some _ e
  have J : Inv X pins σ H { s with heap := h2 } := Iv.kept (t' := s.toks) fun b o e => k2 b o (k1 b o e)
  have oI : FpOk X pins H s.heap.objs.size := Iv.fpOk (Nat.le_refl _) (Iv.hok.fresh (Nat.le_refl _))
  have oT : FpOk X pins H h1.objs.size := Iv.fpOk (by omega) (Iv.hok.fresh (by omega))
  have nIT : s.heap.objs.size ≠ h1.objs.size := by omega
  have fI : f ≠ s.heap.objs.size := Nat.ne_of_lt (Heap.lt_size fat)
  have fT : f ≠ h1.objs.size := Nat.ne_of_lt (by rw [z1]; exact Nat.lt_succ_of_lt (Heap.lt_size fat))
  have itI : h1.get? s.heap.objs.size = some { cls := .type "list_iterator", data := .fields #[.ref a, .int 0 0] } := by rw [eh1]; exact Heap.get?_push_size _ rfl
  have atT : h2.get? h1.objs.size = some { cls := .type "list", data := .seq #[] } := by rw [eh2]; exact Heap.get?_push_size _ rfl
  have naI : a ≠ s.heap.objs.size := Nat.ne_of_lt lt
  rw [← eh1, ← eh2]
  refine wpAny_pure ⟨plainId_quiet F.plain_min_loop _, ?_⟩
  have W := Walks.list (prog := X.prog) (w := X.w) (A := X.A.in1) hd s.heap.objs.size a naI its.toArray
  apply codeAny_builtin F.entry_min_loop; rw [Around.under_plainId F.plain_min_loop _]
  show wpAny _ X.A.in1 (seqItems? (.ref h1.objs.size) >>= _) _ _ _
  apply wpAny_bind; apply wpAny_seqItems atT rfl
  show wpAny _ X.A.in1 (tryCatch (pyNext (.ref s.heap.objs.size)) _ >>= _) _ _ _; apply wpAny_bind
  refine wpAny_tryCatch (W.item 0 _ _ _ (by rw [sz]; exact ne) ⟨⟨_, k2 _ _ itI, rfl, rfl⟩, hl.at fun o e => k2 _ _ (k1 _ _ e)⟩ fun v h3 t3 pv st3 keep => ?_)
  have at3 := keep h1.objs.size _ (fun z => nIT (List.mem_singleton.mp z).symm) atT
  have fat3 := keep f _ (fun z => fI (List.mem_singleton.mp z)) (k2 _ _ (k1 _ _ fat))
  have J3 : Inv X pins σ H { s with heap := h3, toks := t3 } := Inv.turnedL (s := { s with heap := h2 }) (ch := [s.heap.objs.size]) J keep fun b hb => List.mem_singleton.mp hb ▸ oI
  obtain ⟨y, ey, ry⟩ : ∃ y, xs[0]? = some y ∧ RelV y v := vals_ix rv (by simpa using pv)
  show wpAny _ X.A.in1 (tryCatch (holding [v] (call (.ref f) [v])) _ >>= _) _ _ _; apply wpAny_bind
  refine wpAny_tryCatch (wpAny_holding (wpAny_mono (ask 0 y v _ ey ry J3 fat3) (fun r s4 he => ?_) fun _ _ z => z.elim))
  obtain ⟨⟨t4, rfl⟩, J4, kp⟩ := he
  have at4 := kp _ _ oT.1 (fp_out J3 oT) at3
  have fat4 := kp f _ hf hff fat3
  have up : ∀ b o, b ∉ [h1.objs.size] → s4.heap.get? b = some o → (s4.heap.update h1.objs.size (Obj.mapSeq fun _ => #[v, .int (val 0) t4])).get? b = some o := fun b o nb e => (Heap.get?_update_other _ _ fun z => nb (List.mem_singleton.mpr z.symm)).trans e
  show wpAny _ X.A.in1 (updateSeq h1.objs.size (fun _ => #[v, .int (val 0) t4]) >>= _) _ _ _; apply wpAny_bind; apply wpAny_updateSeq at4 rfl; rw [nm]
  refine wpAny_pure ⟨plainId_quiet F.plain_min_loop _, keyLoop hd hs val ask hf hff oI oT nIT fI fT naI (fun x u s1 e1 e2 e3 => q x u s1 e1 e2 e3) _ 0 _ y v t4 _ rfl ne (J4.turnedL (t' := s4.toks) (ch := [h1.objs.size]) up fun b hb => List.mem_singleton.mp hb ▸ oT) (up f _ (fun z => fT (List.mem_singleton.mp z)) fat4) ?_ ey ry (Heap.get?_update_self _ at4 rfl)⟩
  obtain ⟨o, g1, g2, g3⟩ := st3.1
  exact ⟨o, up _ _ (fun z => nIT (List.mem_singleton.mp z)) (kp _ _ oI.1 (fp_out J3 oI) g1), g2, g3⟩
end
end TN
set_option Elab.async false
set_option linter.all false
set_option maxRecDepth 100000
set_option maxHeartbeats 2000000
set_option autoImplicit false
namespace TN
open PySem PySem.Spec PyProof.Rows L2
section
variable {X : Cx} {pins : List (Addr × Obj)} {σ : L2.St} {H : Hp} {a f : Addr} {xs : List V}
theorem lam_runs {P : Program} {w : World} {K : PySem.W.Frag} {mg : Str → Option Value} {base : Heap} {A : Around} {outer : List Env} {s : Shared} {H : Hp} {f c' : Addr} {q : Str} {params : Arguments} {body : Expr} {scope : Scope} {pm ctv u : Value} {x : V} {p : Str} {N : List Str} {k : Nat} {tb : TE} {Q : VK}
    (e0 : Env0 P w K mg base A outer s H) (hr : Room (k + 1) A) (fat : s.heap.get? f = some (PySem.W.kla_obj "<lambda>" q params body scope [] pm c' ctv)) (hc : H c' = some (LamX.CodeO c' q)) (S : FnScope N [p] scope)
    (hbind : ∀ (pm cv ctv u : Value), bindArgs (PySem.W.kla_fn "<lambda>" q params body scope [] pm cv ctv) ⟨[u], []⟩ = pure [(p, u)])
    (hbody : ∀ (A : Around) (outer : List Env) (s : Shared) (H : Hp) (E : XK) (f : Addr) (cd : Value), Room k (A.deeper (envOfC q scope s.heap.objs.size f cd)) → PE (cxOf CX0 P w K mg base N q scope f cd A outer s H E).nox body tb)
    (ru : RelV x u) (h : tb (L2.start N [x]) H Q) : codeAny (model P w) A (.call (.ref f) ⟨[u], []⟩) (CR CX0 outer P w H s Q fun _ _ _ => False) s := by
  have stays : ∀ b o, base.get? b = some o → s.heap.get? b = some o := fun b o e => (e0.bs b o e).1
  have hlim : s.heap.NoLimit := e0.mod.nolimit.keeps stays
  obtain ⟨⟨oc, vs, t, g1, g2, g3⟩, _, _⟩ := e0.hok c' _ hc
  refine PySem.W.kla_callFunE hr.depth fat rfl S.co S.gen rfl ⟨c', oc, vs, t, rfl, g1, g2, g3⟩ ?_
  rw [hbind]
  have kinds : ∀ y ∈ [(p, u)], scope.names.lookup y.1 = some .local ∨ (scope.names.lookup y.1 = some .cell ∧ ((cellsFrom (s.heap.objs.size + 1) scope.names []).lookup y.1).isSome = true) := fun y hy => by
    rw [List.mem_singleton.mp hy]
    rcases S.par p (List.mem_singleton.mpr rfl) with h | h
    · exact .inl h
    · exact .inr ⟨h, PySem.W.cellsFrom_some _ _ _ (.inl h)⟩
  refine wpAny_pure (wpAny_newFunctionEnv_cells S.kind kinds fun env ee s1 x1 => ?_)
  subst ee
  refine ⟨hlim.keeps x1.toInCall.keep, PySem.W.kla_codeExpr ?_⟩
  have I0 : Inv (cxOf CX0 P w K mg base N q scope f (.ref c') A outer s H fun _ _ _ => False) [] (L2.start N [x]) H s1 := inv_start (us := [u]) S hr.hd e0 rfl (.cons ru .nil) x1
  refine wpAny_mono ((PE.nox (hbody A outer s H (fun _ _ _ => False) f (.ref c') (hr.deeper _))).run [] s1 _ H _ I0 h) (fun r s2 hq => ?_) fun e s2 z => z
  obtain ⟨v, H2, J, rv, qq⟩ := hq
  exact ⟨v, H2, J.os, J.bare, J.base, J.hok, rv, qq⟩
theorem lam_ask {c' : Addr} {q : Str} {params : Arguments} {body : Expr} {scope : Scope} {pm ctv : Value} {p : Str} {N : List Str} {k : Nat} {tb : TE} {val : Nat → Int} (hr : Room (k + 2) X.A) (hc : H c' = some (LamX.CodeO c' q)) (S : FnScope N [p] scope)
    (hbind : ∀ (pm cv ctv u : Value), bindArgs (PySem.W.kla_fn "<lambda>" q params body scope [] pm cv ctv) ⟨[u], []⟩ = pure [(p, u)])
    (hbody : ∀ (A : Around) (outer : List Env) (s : Shared) (H : Hp) (E : XK) (f : Addr) (cd : Value), Room k (A.deeper (envOfC q scope s.heap.objs.size f cd)) → PE (cxOf CX0 X.prog X.w X.K X.mg X.base N q scope f cd A outer s H E).nox body tb)
    (h : ∀ i x, xs[i]? = some x → tb (L2.start N [x]) H fun v H' => v = .int (val i) ∧ H' = H) :
    KeyAsk X pins σ H f (PySem.W.kla_obj "<lambda>" q params body scope [] pm c' ctv) xs val := fun i x u s ex ru Iv fat => by
  refine wpAny_call (codeAny_mono (lam_runs (A := X.A.in1) (outer := X.stack) Iv.env0.in1 hr.in1 fat hc S hbind hbody ru (h i x ex)) fun r s2 hq => ?_)
  cases r with
  | error e => exact hq
  | ok fl =>
    cases fl with
    | ret v =>
      obtain ⟨w, H', os, bare, un, hok, rv, ew, eH⟩ := hq
      subst ew
      rw [eH] at un hok
      refine ⟨rv, ?_, fun b o n nf e => un.keep b o e n nf (by simp)⟩
      obtain ⟨_, H2, J, _, e2⟩ := Iv.after (Q := fun _ H' => H' = H) ⟨_, H, os, bare, un, hok, rv, rfl⟩
      rw [e2] at J; exact J
    | next => exact hq
    | brk => exact hq
    | cont => exact hq
end
end TN
set_option Elab.async false
set_option linter.all false
set_option maxRecDepth 100000
set_option maxHeartbeats 2000000
set_option autoImplicit false
namespace TN
open PySem PySem.Spec PyProof.Rows L2
structure LamAt (K : PySem.W.Frag) (mg : Str → Option Value) (base : Heap) (c t : Addr) (q : Str) : Prop where
  tab : LamX.TabB base mg c t
  mem : (t, q) ∈ tabsOf K
  one : ∀ p ∈ tabsOf K, p.1 = t → p.2 = q
section
variable {X : Cx} {pins : List (Addr × Obj)} {σ : L2.St} {H : Hp}
theorem lam_made {c t : Addr} {params : Arguments} {body : Expr} {scope : Scope} {pos : Pos} {s : Shared} {E : Value → Shared → Prop} {Q : Value → Shared → Prop} (Iv : Inv X pins σ H s) (L : LamAt X.K X.mg X.base c t (X.env.qual ++ "<lambda>")) (code : X.env.code = .ref c)
    (tb : TabsK X.K H) (nod : defaultsOf params X.env = ([], [])) (clo : closureFor scope X.env = pure [])
    (q : ∀ (f c1 : Addr) (pm ctv : Value) (H1 : Hp) (s1 : Shared), Inv X pins σ H1 s1 → Stays H H1 → (∀ b, H b ≠ none → H1 b ≠ none) → TabsK X.K H1 →
      s1.heap.get? f = some (PySem.W.kla_obj "<lambda>" (X.env.qual ++ "<lambda>") params body scope [] pm c1 ctv) → H1 f = none → f ∉ frs X.stack → H1 c1 = some (LamX.CodeO c1 (X.env.qual ++ "<lambda>")) → Q (.ref f) s1) :
    wpAny (model X.prog X.w) X.A (eval (.Lambda params body scope pos) X.env) Q E s := by
  obtain ⟨TB, hm, hu⟩ := L
  obtain ⟨ps, tt, tr, among⟩ := tb _ hm
  have bT := TB.bm.keeps Iv.bk
  have cT := TB.code.keeps Iv.bk
  have gT := Iv.mod.glob.keeps Iv.bk
  have atT : s.heap.get? t = some { cls := .none, data := .fields ps } := Iv.hok t _ tt
  have off : ∀ f, s.heap.objs.size ≤ f → f ∉ frs X.stack := fun f hf z => by
    rcases List.mem_cons.mp (Iv.stkSub _ z) with e | e
    · exact Nat.lt_irrefl _ (Nat.lt_of_lt_of_le (e ▸ Iv.lt) hf)
    · exact Iv.nofs hf e
  apply PySem.W.kla_eval nod
  rcases hf : codeAmong pos ps.toList with _ | cv
  · apply PySem.W.kla_makeFunction clo Iv.ok.glob gT code cT atT tr hf TB.gP bT
    intro c1 ctv h1 tk ext ge lt rec at1
    obtain ⟨_, oc, vs, tq, e0, r1, r2, r3⟩ := rec
    cases e0
    have le1 : s.heap.objs.size ≤ h1.objs.size := Nat.le_trans ge (Nat.le_of_lt lt)
    have n1 : H c1 = none := Iv.hok.fresh ge
    let fo : Obj := PySem.W.kla_obj "<lambda>" (X.env.qual ++ "<lambda>") params body scope [] ((X.mg "__name__").getD .none) c1 ctv
    have J := LamX.inv_table (t' := tk) (q := X.env.qual ++ "<lambda>") (c := c1) (more := #[rawInt pos.line, rawInt pos.col, .ref c1]) (h' := h1.push fo) Iv tt (fun b o ne e => Heap.get?_push_of_some _ (ext b o ne e)) (Heap.get?_push_of_some _ at1) ge ⟨oc, vs, tq, Heap.get?_push_of_some _ r1, r2, r3⟩
    have tc : t ≠ c1 := ne_of_none tt n1
    have st : Stays H (upd (upd H t (.tbl (ps ++ #[rawInt pos.line, rawInt pos.col, .ref c1]))) c1 (LamX.CodeO c1 (X.env.qual ++ "<lambda>"))) := fun b o e nt => by
      rw [upd_ne (ne_of_none e n1), upd_ne (fun z => by subst z; rw [tt] at e; injection e with e; exact nt _ e.symm)]; exact e
    have li : (ps ++ #[rawInt pos.line, rawInt pos.col, .ref c1]).toList = ps.toList ++ [rawInt pos.line, rawInt pos.col, .ref c1] := by simp
    refine q h1.objs.size c1 _ ctv _ _ J st (fun b e => upd_there (upd_there e)) (fun p hp => ?_) (Heap.get?_push_size _ rfl) ?_ (off _ le1) upd_same
    · by_cases hb : p.1 = t
      · rw [hu p hp hb, hb]
        refine ⟨_, by rw [upd_ne tc, upd_same], by rw [li]; exact PySem.TriplesOk_snoc _ _ _ _ tr, fun pos2 cv hcv => ?_⟩
        rw [li] at hcv
        rcases LamX.among_app _ tr hcv with z | z
        · obtain ⟨c2, g1, g2⟩ := among pos2 cv z
          exact ⟨c2, g1, st _ _ g2 LamX.codeO_ne⟩
        · exact ⟨c1, z, upd_same⟩
      · obtain ⟨ps2, a1, a2, a3⟩ := tb p hp
        refine ⟨ps2, by rw [upd_ne (ne_of_none a1 n1), upd_ne hb]; exact a1, a2, fun pos2 cv hcv => ?_⟩
        obtain ⟨c2, g1, g2⟩ := a3 pos2 cv hcv
        exact ⟨c2, g1, st _ _ g2 LamX.codeO_ne⟩
    · have m1 : h1.objs.size ≠ c1 := Nat.ne_of_gt lt
      have m2 : h1.objs.size ≠ t := Nat.ne_of_gt (Nat.lt_of_lt_of_le (Heap.lt_size atT) le1)
      rw [upd_ne m1, upd_ne m2]; exact Iv.hok.fresh le1
  · obtain ⟨c1, rfl, g⟩ := among pos cv hf
    apply PySem.W.kla_makeFunctionHit clo Iv.ok.glob gT code cT atT tr hf bT
    intro ctv h1 tk keep le1
    exact q h1.objs.size c1 _ ctv H _ (Iv.kept fun b o e => Heap.get?_push_of_some _ (keep b o e)) (fun _ _ e _ => e) (fun _ e => e) tb (Heap.get?_push_size _ rfl) (Iv.hok.fresh le1) (off _ le1) g

def tMinK (K : PySem.W.Frag) (N : List Str) (tb te : TE) : TE := fun σ H Q => te σ H fun v H1 => TabsK K H1 ∧ ∃ (a : Addr) (xs : List V) (val : Nat → Int), v = .ref a ∧ SqL K H1 a xs ∧ 0 < xs.length ∧
  (∀ H2, Stays H1 H2 → ∀ i x, xs[i]? = some x → tb (L2.start N [x]) H2 fun r H3 => r = .int (val i) ∧ H3 = H2) ∧
  ∀ H2 x, Stays H1 H2 → (∀ b, H1 b ≠ none → H2 b ≠ none) → TabsK K H2 → xs[bestK val (xs.length - 1)]? = some x → Q x H2
theorem pe_minKey {c t : Addr} {N : List Str} {p : Str} {k : Nat} {tb te : TE} {e : Expr} {params : Arguments} {body : Expr} {scope : Scope} {np kp lpos pos : Pos} (hc : X.calm = true) (hg : Gl X "min") (hm : X.mg "min" = none) (hr : Room (k + 2) X.A) (pa : PA X [e] (tCons te tNil))
    (L : LamAt X.K X.mg X.base c t (X.env.qual ++ "<lambda>")) (code : X.env.code = .ref c) (nod : defaultsOf params X.env = ([], [])) (clo : closureFor scope X.env = pure []) (S : FnScope N [p] scope)
    (hbind : ∀ (q : Str) (pm cv ctv u : Value), bindArgs (PySem.W.kla_fn "<lambda>" q params body scope [] pm cv ctv) ⟨[u], []⟩ = pure [(p, u)])
    (hbody : ∀ (q : Str) (A : Around) (outer : List Env) (s : Shared) (H : Hp) (E : XK) (f : Addr) (cd : Value), Room k (A.deeper (envOfC q scope s.heap.objs.size f cd)) → PE (cxOf CX0 X.prog X.w X.K X.mg X.base N q scope f cd A outer s H E).nox body tb)
    (he : backTo pos (starEach [e] X.env) = (false, eval e X.env) :: backTo pos (starEach [] X.env) := by rfl) (hpl : (backTo pos (starEach [e] X.env)).any (·.1) = false := by rfl) :
    PE X (.Call (.Name "min" np) [e] [⟨some "key", .Lambda params body scope lpos, kp⟩] pos) (tMinK X.K N tb te) := by
  refine ⟨fun pins s σ H Q Iv h => ?_⟩
  refine wpAny_Call_Name_kw (ld_blt (u := .builtin "min") Iv hg hm (by rfl) ?_ (by decide) (by decide))
  refine PyProof.Rows.callWith_kw (thn (pa.run pos pins s σ H (fun vs H1 => ∃ v, vs = [v] ∧ TabsK X.K H1 ∧ ∃ (a : Addr) (xs : List V) (val : Nat → Int), v = .ref a ∧ SqL X.K H1 a xs ∧ 0 < xs.length ∧
    (∀ H2, Stays H1 H2 → ∀ i x, xs[i]? = some x → tb (L2.start N [x]) H2 fun r H3 => r = .int (val i) ∧ H3 = H2) ∧
    ∀ H2 x, Stays H1 H2 → (∀ b, H1 b ≠ none → H2 b ≠ none) → TabsK X.K H2 → xs[bestK val (xs.length - 1)]? = some x → Q x H2) Iv ?_) fun us s1 ⟨vs, H1, I1, r1, v, evv, tbs, a, xs, val, ea, hs, ne, hk, q⟩ => ?_) he hpl (by rfl) (by rfl)
  · obtain ⟨R, hR⟩ : ∃ R : V → Hp → Prop, R = fun v H1 => TabsK X.K H1 ∧ ∃ (a : Addr) (xs : List V) (val : Nat → Int), v = .ref a ∧ SqL X.K H1 a xs ∧ 0 < xs.length ∧
      (∀ H2, Stays H1 H2 → ∀ i x, xs[i]? = some x → tb (L2.start N [x]) H2 fun r H3 => r = .int (val i) ∧ H3 = H2) ∧
      ∀ H2 x, Stays H1 H2 → (∀ b, H1 b ≠ none → H2 b ≠ none) → TabsK X.K H2 → xs[bestK val (xs.length - 1)]? = some x → Q x H2 := ⟨_, rfl⟩
    have h : te σ H R := by rw [hR]; exact h
    show te σ H fun v H1 => ∃ w, [v] = [w] ∧ _
    have e2 : (fun v H1 => ∃ w, [v] = [w] ∧ R w H1) = R := by
      funext v H1
      refine propext ⟨fun ⟨w, e, r⟩ => ?_, fun r => ⟨v, rfl, r⟩⟩
      injection e with e _
      rw [e]; exact r
    rw [hR] at e2
    rw [e2, ← hR]; exact h
  · subst evv ea
    cases r1 with
    | cons ru rn =>
      cases rn
      cases ru
      show wpAny _ _ (evalAll ((do let v ← eval (.Lambda params body scope lpos) X.env; standAt pos; pure v) :: [])) _ _ s1
      refine wpAny_evalAll_cons (wpAny_bind (lam_made I1 L code tbs nod clo fun f c1 pm ctv H2 s2 I2 st there tb2 fat fn ff fc => wpAny_bind (wpAny_standAt (wpAny_pure (wpAny_evalAll_nil ?_)))))
      show wpAny _ _ (call (.builtin "min") [.ref a] [("key", .ref f)]) _ _ s2
      refine keyCall (I2.ok.hd hc) I2 (rdSt st hs) ne val (lam_ask hr fc S (fun pm cv ctv u => hbind _ pm cv ctv u) (fun A o s H E f cd r => hbody _ A o s H E f cd r) fun i x ex => hk H2 st i x ex) fn ff fat fun x u s3 ex rx I3 => ?_
      exact ⟨x, H2, I3, rx, q H2 x st there tb2 ex⟩
end
def KeyD (K : PySem.W.Frag) (tb : TE) (kd : D → Option Int) : Prop := ∀ ⦃G H : Hp⦄ ⦃v : V⦄ ⦃d : D⦄ ⦃k : Int⦄, Same G H → Dq K G v d → kd d = some k → tb [some v] H fun r H3 => r = .int k ∧ H3 = H
def kd0 : D → Option Int
  | .tuple (.int k :: _) => some k
  | _ => none
section
variable {K : PySem.W.Frag} {bor : List Nat} {te tb : TE} {A : TDE}
theorem ix0_runs {G H : Hp} {v : V} {d : D} {ds : List D} {Q : VK} (s : Same G H) (p : Dq K G v (.tuple (d :: ds))) (q : ∀ u, Dq K G u d → Q u H) : tOp (rIx K) (tVar 0) (tC (.int 0)) [some v] H Q := by
  cases p with
  | @tup a xs _ h1 h2 =>
    cases h2 with
    | @cons u us _ _ h3 h4 =>
      exact ⟨.ref a, rfl, .inr (.inl ⟨a, u :: us, 0, u, rfl, rfl, (tupS s h1).sq, atI_nat (p := 0) (xs := u :: us) (Nat.zero_lt_succ _), q u h3⟩)⟩
theorem keyD_0 : KeyD K (tOp (rIx K) (tVar 0) (tC (.int 0))) kd0 := fun G H v d k s p e => by
  unfold kd0 at e
  split at e
  · injection e with e; subst e
    refine ix0_runs s p fun u pu => ?_
    cases pu; exact ⟨rfl, rfl⟩
  · cases e
def dMinK (kd : D → Option Int) (A : TDE) : TDE := fun ρ Q => A ρ fun d ρ1 => ∃ (ds : List D) (val : Nat → Int), d = .list ds ∧ 0 < ds.length ∧ (∀ i x, ds[i]? = some x → kd x = some (val i)) ∧ ∀ e, ds[bestK val (ds.length - 1)]? = some e → Q e ρ1
theorem le_minK {kd : D → Option Int} {p : Str} (hk : KeyD K tb kd) (h : LE K bor te A) : LE K bor (tMinK K [p] tb te) (dMinK kd A) := fun {c G σ H ρ Qd Q} hc R q k =>
  h hc R q fun v H1 G1 ρ1 d s1 R1 pd ⟨ds, val, e, ne, kv, q1⟩ => by
    subst e
    cases pd with
    | @lst a xs _ h1 h2 =>
      have el := dps_len h2
      have sub : ∀ H2, Stays H1 H2 → Same G1 H2 := fun H2 st b o e => st b o (R1.sub b o e) fun ps z => R1.nt b ps (z ▸ e)
      refine ⟨R1.tb, a, xs, val, rfl, rdS R1.sub h1, by rw [el]; exact ne, fun H2 st i x ex => ?_, fun H2 x st th tb2 ex => ?_⟩
      · obtain ⟨y, ey, py⟩ := dps_get h2 ex
        exact hk (sub H2 st) py (kv i y ey)
      · obtain ⟨y, ey, py⟩ := dps_get h2 ex
        rw [el] at ey
        exact k x H2 G1 ρ1 y s1 (R1.extN st th (fun _ => tb2) (Same.refl _) (sub H2 st) (fun _ _ z => z) R1.nt) py (q1 y ey)
end
end TN
namespace TN
open PySem PySem.Spec PyProof.Rows L2
section
variable {P : Program} {w : World} {K : PySem.W.Frag} {mg : Str → Option Value} {base : Heap} {CX : CXT} {k : Nat} {f : Addr} {fd : FuncData} {ps : List Str} {sp : Sp}
theorem fnG_bodyL {cA : Addr} {x qual : Str} {st : Stmt} {N : List Str} (F : Fun K x qual st f fd) (cd : fd.code = .ref cA) (S : FnScope N ps (defScope st)) (hn : ∀ vs H Q E, sp vs H Q E → vs.length = ps.length)
    (body : ∀ (A : Around) (outer : List Env) (s : Shared) (H : Hp) (vs : List V) (Q : VK) (E : XK), A.guards = some [] → Room k (A.deeper (envOfC qual (defScope st) s.heap.objs.size f (.ref cA))) → sp vs H Q E →
      ∃ t, PSs (cxOf CX P w K mg base N qual (defScope st) f (.ref cA) A outer s H E) (defBody st) t ∧ t { nx := fun _ H' => Q .non H', rt := Q } (L2.start N vs) H) :
    FnG P w K mg base CX (k + 1) f fd ps sp := by
  obtain ⟨oc, od, kV, doc, pm, an, cdv, ct, osl, hfd, hlk, hcode⟩ := F.ex
  subst hfd
  have cd : cdv = .ref cA := cd
  subst cd
  constructor
  · exact hn
  · intro A outer s H args us vs Q E hg hr he hb hv hs
    have count := hn vs H Q E hs
    have stays : ∀ b o, base.get? b = some o → s.heap.get? b = some o := fun b o e => (he.bs b o e).1
    have hK : K.In s.heap := he.mod.kin.keeps stays
    have hlim : s.heap.NoLimit := he.mod.nolimit.keeps stays
    have kinds : ∀ y ∈ ps.zip us, (defScope st).names.lookup y.1 = some .local ∨
        ((defScope st).names.lookup y.1 = some .cell ∧ ((cellsFrom (s.heap.objs.size + 1) (defScope st).names []).lookup y.1).isSome = true) := by
      rintro ⟨y, u⟩ hy
      rcases S.par y (List.of_mem_zip hy).1 with h | h
      · exact Or.inl h
      · exact Or.inr ⟨h, PySem.W.cellsFrom_some _ _ _ (Or.inl h)⟩
    apply codeAny_call_function hr.depth (hK _ _ hlk) rfl S.co S.gen rfl (PySem.W.codeRec_of hK hcode)
    apply hb
    apply wpAny_newFunctionEnv_cells S.kind kinds
    intro env eenv s1 x1
    subst eenv
    refine And.intro (hlim.keeps x1.toInCall.keep) (codeAny_func ?_)
    obtain ⟨t, ht, hq⟩ := body A outer s H vs Q E hg (hr.deeper _) hs
    have I0 := inv_start (CX := CX) (E := E) (mg := mg) (K := K) S hr.hd he count hv x1
    apply wpAny_mono (ht.run [] s1 (L2.start N vs) H _ I0 hq)
    · intro fl s' hfl
      cases fl with
      | next =>
        obtain ⟨σ', H', J, q⟩ := hfl
        exact ⟨.non, H', J.os, J.bare, J.base, J.hok, rfl, q⟩
      | ret u =>
        obtain ⟨v, σ', H', J, rv, q⟩ := hfl
        exact ⟨v, H', J.os, J.bare, J.base, J.hok, rv, q⟩
      | brk => exact hfl.elim fun _ z => z.elim fun _ z => z.2.elim
      | cont => exact hfl.elim fun _ z => z.elim fun _ z => z.2.elim
    · exact fun e s' z => z
end
theorem fn0L {P : Program} {w : World} {K : PySem.W.Frag} {mg : Str → Option Value} {base : Heap} {k : Nat} {f : Addr} {fd : FuncData} {ps : List Str} {x qual : Str} {st : Stmt} {N : List Str} {sem : List D → (Sl → Prop) → Prop} {t : TS} {T : TDS} {cA : Addr} (F : Fun K x qual st f fd) (cd : fd.code = .ref cA) (S : FnScope N ps (defScope st)) (hn : ∀ ds Q, sem ds Q → ds.length = ps.length)
    (body : ∀ (A : Around) (outer : List Env) (s : Shared) (H : Hp) (E : XK), A.guards = some [] → Room k (A.deeper (envOfC qual (defScope st) s.heap.objs.size f (.ref cA))) →
      PSs (cxOf CX0 P w K mg base N qual (defScope st) f (.ref cA) A outer s H E).nox (defBody st) t)
    (hl : LS K [] t T) (hs : ∀ ds Qd, sem ds Qd → T { nx := fun _ => Qd (.sh .none), rt := fun r _ => Qd r } (start0 N.length ds)) :
    FnG P w K mg base CX0 (k + 1) f fd ps (sp0 K sem) := by
  refine fnG_bodyL F cd S (fun vs H Q E h => ?_) fun A outer s H vs Q E hg hr h => ⟨t, (body A outer s H E hg hr).nox, ?_⟩
  · obtain ⟨G, ds, Qd, _, _, _, p, q, _⟩ := h
    rw [dps_len p]; exact hn _ _ q
  · obtain ⟨G, ds, Qd, tb, nt, sm, p, q, fin⟩ := h
    have R := rel_start (N := N) tb nt sm p
    have grow : ∀ {G' : Hp} {σ' : L2.St} {H' : Hp} {ρ' : List Sl}, Same G G' → Rel K ⟨H, G, [], []⟩ G' σ' H' ρ' → Grow K G H G' H' := fun s' R' =>
      ⟨fun b o e => R'.fr b o e fun i z => (nomatch z), s', R'.sub, fun b h1 h2 => R'.gh b h1 h2, fun b h1 => R'.ft b h1, fun _ => R'.tb, fun _ => R'.nt⟩
    exact hl rfl R (hs ds Qd q) ⟨fun s' R' q' => fin _ _ _ (.sh .none) (grow s' R') .non q', fun s' R' ok q' => fin _ _ _ _ (grow s' R') ok q', fun _ _ z => z.elim, fun _ _ z => z.elim⟩
end TN
set_option Elab.async false
set_option linter.all false
set_option maxRecDepth 100000
set_option maxHeartbeats 2000000
set_option autoImplicit false
namespace TN
open PySem PySem.Spec PyProof.Rows L2
def dropK (K : PySem.W.Frag) (ts : List Addr) : PySem.W.Frag := K.filter fun p => !ts.contains p.1
theorem lookup_drop {K : PySem.W.Frag} {ts : List Addr} {a : Addr} (h : ts.contains a = false) : (dropK K ts).lookup a = K.lookup a := by
  unfold dropK
  induction K with
  | nil => rfl
  | cons p K ih =>
    obtain ⟨b, o⟩ := p
    by_cases hb : b = a
    · subst hb
      rw [List.filter_cons_of_pos (by simpa using h), List.lookup_cons, List.lookup_cons]
      simp
    · have e : (a == b) = false := by simpa using Ne.symm hb
      cases c : ts.contains b with
      | true => rw [List.filter_cons_of_neg (by rw [c]; simp), List.lookup_cons, e, ih]
      | false => rw [List.filter_cons_of_pos (by rw [c]; rfl), List.lookup_cons, List.lookup_cons, e, ih]
theorem lookup_dropped {K : PySem.W.Frag} {ts : List Addr} {a : Addr} (h : ts.contains a = true) : (dropK K ts).lookup a = none := by
  unfold dropK
  induction K with
  | nil => rfl
  | cons p K ih =>
    obtain ⟨b, o⟩ := p
    cases c : ts.contains b with
    | true => rw [List.filter_cons_of_neg (by rw [c]; simp), ih]
    | false =>
      have e : (a == b) = false := by
        by_cases q : a = b
        · subst q; rw [h] at c; cases c
        · simpa using q
      rw [List.filter_cons_of_pos (by rw [c]; rfl), List.lookup_cons, e, ih]
theorem dropK_in {K : PySem.W.Frag} {ts : List Addr} {h : Heap} (X : K.In h) : (dropK K ts).In h := fun a o e => by
  cases c : ts.contains a with
  | true => rw [lookup_dropped c] at e; cases e
  | false => rw [lookup_drop c] at e; exact X a o e
theorem nsIn_drop {K : PySem.W.Frag} {ts : List Addr} {a : Addr} {x : Str} (h : ts.contains a = false) : PySem.W.nsIn (dropK K ts) a x = PySem.W.nsIn K a x := by
  unfold PySem.W.nsIn
  rw [lookup_drop h]
theorem codeIn_drop {K : PySem.W.Frag} {ts : List Addr} {c : Addr} {x : Str} (h : ts.contains c = false) : PySem.W.codeIn (dropK K ts) (.ref c) x = PySem.W.codeIn K (.ref c) x := by
  unfold PySem.W.codeIn
  dsimp only
  rw [lookup_drop h]
theorem keepIn_drop {K : PySem.W.Frag} {ts : List Addr} {c : Addr} {oc : Value} {od : Option Addr} {fd : FuncData} {sl : Array (Option Value)} (h : ts.contains c = false) (e : K.lookup c = some ⟨oc, od, .func fd, sl⟩) : PySem.W.keepIn (dropK K ts) (.ref c) = true := by
  unfold PySem.W.keepIn
  dsimp only
  rw [lookup_drop h, e]
section
variable {P : Program} {w : World} {K : PySem.W.Frag} {mg mb : Str → Option Value} {t : Shared} {p : Addr} {items : List Value} {H : Hp} {cs : List (Addr × Addr)}
def withT (H : Hp) (cs : List (Addr × Addr)) : Hp := fun y => if y ∈ cs.map (·.2) then some (.tbl #[]) else H y

structure LeftT (t : Shared) (mg : Str → Option Value) (cs : List (Addr × Addr)) : Prop where
  empty : ∀ q ∈ cs, t.heap.get? q.2 = some { cls := .none, data := .fields #[] }
  code : ∀ q ∈ cs, PySem.W.CodeHd t.heap q.1 q.2
  bmod : ∃ (bm : Addr) (ob : Obj), mg "__builtins__" = some (.ref bm) ∧ bm ≠ builtinsNs ∧ t.heap.get? bm = some ob ∧ ob.cls = .type "module" ∧ ob.dict = some builtinsNs ∧ ob.data = .plain
theorem LeftT.at (L : LeftT t mg cs) {y : Addr} (h : y ∈ cs.map (·.2)) : t.heap.get? y = some { cls := .none, data := .fields #[] } := by
  obtain ⟨q, hq, rfl⟩ := List.mem_map.mp h
  exact L.empty q hq
theorem law_goesT {k : Nat} {fa : Addr} {fd : FuncData} {x : Str} {sp : Sp} (S : Seen P w K H t p) (L : Left K mg mb t) (LT : LeftT t mg cs) (far : ∀ q ∈ cs, K.lookup q.2 = none) (at' : t.heap.get? p = some { cls := .type "list", data := .seq items.toArray }) (room : Room k callerA)
    (F : ∀ base : Heap, K.In base → base.Ns mainGlobals mg → (∀ q ∈ cs, LamX.TabB base mg q.1 q.2) → FnG P w K mg base CX0 k fa fd [x] sp) (bind : ∀ (s : Shared) (u : Value), BindsTo s fd ⟨[u], []⟩ [(x, u)])
    (q : sp [.ref p] (withT H cs) (fun v _ => v = .bl true) fun _ _ _ => False) :
    codeAny (model P w) callerA (.call (.ref fa) ⟨[.ref p], []⟩) (fun r s' => r = .ok (.ret (.bool true)) ∧ OldK t.heap s'.heap ∧ s'.os = t.os ∧ AllBare s'.gens) t := by
  have np : p ∉ cs.map (·.2) := fun z => by
    have e := LT.at z
    rw [at'] at e
    injection e with e; cases e
  have inT : ∀ y, y ∈ cs.map (·.2) → withT H cs y = some (.tbl #[]) := fun y hy => if_pos hy
  have outT : ∀ y, y ∉ cs.map (·.2) → withT H cs y = H y := fun y hy => if_neg hy
  have good : HOk P w (withT H cs) t.heap := fun y u e => by
    by_cases hy : y ∈ cs.map (·.2)
    · rw [inT y hy] at e; injection e with e; subst e; exact LT.at hy
    · rw [outT y hy] at e
      refine (S.good y u e).stay (fun _ _ _ z => z) (fun b z => ?_) fun b xs z => ?_
      · rcases S.frz b with z1 | ⟨_, _, z1⟩ <;> (rw [z1] at z; cases z)
      · rcases S.frz b with z1 | ⟨_, _, z1⟩ <;> (rw [z1] at z; cases z)
  have dictN : ∀ {y : Addr} {o : Obj} {es : Array DictEntry} {n : Nat}, t.heap.get? y = some o → o.data = .dict es n → withT H cs y = none := fun {y o es n} e d => by
    by_cases hy : y ∈ cs.map (·.2)
    · have e2 := LT.at hy
      rw [e] at e2; injection e2 with e2; rw [e2] at d; cases d
    · rw [outT y hy]; exact S.dict at' e d
  have nsT : ∀ {y : Addr} {m : Str → Option Value}, t.heap.Ns y m → (hidT t.heap (withT H cs)).Ns y m := fun {y m} h => by
    obtain ⟨o, es, n, e, d, more⟩ := h
    exact ⟨o, es, n, hidT_get e (dictN e d), d, more⟩
  have kinT : K.In (hidT t.heap (withT H cs)) := fun y o e => by
    refine hidT_get (L.kin y o e) ?_
    by_cases hy : y ∈ cs.map (·.2)
    · obtain ⟨z, hz, rfl⟩ := List.mem_map.mp hy
      rw [far z hz] at e; cases e
    · rw [outT y hy]
      rcases hq : H y with _ | u
      · rfl
      · exfalso
        have := S.one y (by rw [hq]; exact Option.some_ne_none _)
        subst this
        rw [S.far (by rw [hq]; exact Option.some_ne_none _)] at e
        cases e
  -- neither a list nor an empty record: not tracked
  have plainN : ∀ {y : Addr} {o : Obj}, t.heap.get? y = some o → (∀ vs n, o.data ≠ .seq vs n) → o.data ≠ .fields #[] → withT H cs y = none := fun {y o} e h1 h2 => by
    by_cases hy : y ∈ cs.map (·.2)
    · have e2 := LT.at hy
      rw [e] at e2; injection e2 with e2; rw [e2] at h2; exact absurd rfl h2
    · rw [outT y hy]
      rcases hq : H y with _ | u
      · rfl
      · exfalso
        have := S.one y (by rw [hq]; exact Option.some_ne_none _)
        subst this
        rw [at'] at e; injection e with e; rw [← e] at h1; exact h1 _ _ rfl
  obtain ⟨mc, l1, l2⟩ := L.free
  have m : Mod K mg (hidT t.heap (withT H cs)) := ⟨kinT, nsT L.main, ⟨mb, nsT L.blt, L.boot⟩, mc, nsT l1, l2⟩
  have tabs : ∀ q ∈ cs, LamX.TabB (hidT t.heap (withT H cs)) mg q.1 q.2 := fun q hq => by
    have eT := LT.empty q hq
    have gT : mainGlobals ≠ q.2 := fun z => by
      obtain ⟨o, es, n, e, d, _⟩ := L.main
      rw [z, eT] at e; injection e with e; rw [← e] at d; cases d
    refine ⟨?_, ?_, gT⟩
    · obtain ⟨o, us, file, tf, flags, tg, inF, text, tt, e1, r1, r2, r3, r4⟩ := LT.code q hq
      refine ⟨o, us, file, tf, flags, tg, inF, text, tt, hidT_get e1 (plainN e1 (fun vs n z => ?_) fun z => ?_), r1, r2, r3, r4⟩
      · rw [r2] at z; cases z
      · rw [r2] at z; injection z with z; rw [z] at r3; simp at r3
    · obtain ⟨bm, ob, b1, b2, b3, b4, b5, b6⟩ := LT.bmod
      refine ⟨bm, ob, b1, b2, fun z => ?_, fun z => ?_, hidT_get b3 (plainN b3 (fun vs n z => ?_) fun z => ?_), b4, b5, b6⟩
      · obtain ⟨o, es, n, e, d, _⟩ := L.main
        rw [z, e] at b3; injection b3 with b3; rw [b3, b6] at d; cases d
      · rw [z, eT] at b3; injection b3 with b3; rw [← b3] at b4; cases b4
      · rw [b6] at z; cases z
      · rw [b6] at z; cases z
  have env : Env0 P w K mg (hidT t.heap (withT H cs)) callerA [] t (withT H cs) := by
    refine ⟨rfl, m, fun q o e => of_hidT e, Nat.le_of_eq (hidT_size _ _), trivial, fun q hq => ?_, good, .of_eq L.gens⟩
    cases hq
  have run := (F _ kinT (nsT L.main) tabs).go callerA [] t (withT H cs) ⟨[.ref p], []⟩ [.ref p] [.ref p] _ _ rfl room env (bind t (.ref p)) (.cons rfl .nil) q
  refine codeAny_mono run fun r s' h => ?_
  rcases r with z | fl
  · exact (h : False).elim
  rcases fl with _ | _ | _ | u
  all_goals first | exact (h : False).elim | skip
  obtain ⟨v, H2, h1, h2, h3, h4, h5, h6⟩ := h
  subst h6
  have : u = Value.bool true := h5
  subst this
  have kept : ∀ y o, y ∉ cs.map (·.2) → t.heap.get? y = some o → s'.heap.get? y = some o := fun y o hy e => by
    rcases hq : H y with _ | u
    · exact h3.keep y o e (by rw [outT y hy]; exact hq) (by intro z; cases z) (by simp)
    · rcases S.frz y with z | ⟨o', ws, z⟩
      · rw [hq] at z; cases z
      · obtain ⟨a1, _⟩ := S.good y _ z
        obtain ⟨b1, _⟩ := h4 y _ (h3.frzs y o' _ (by rw [outT y hy]; exact z))
        rw [a1] at e; injection e with e; rw [← e]; exact b1
  have grown : ∀ q ∈ cs, ∃ more : Array Value, s'.heap.get? q.2 = some { cls := .none, data := .fields more } := fun q hq => by
    obtain ⟨more, z⟩ := h3.tbls q.2 #[] (inT _ (List.mem_map.mpr ⟨q, hq, rfl⟩))
    exact ⟨_, h4 q.2 _ z⟩
  refine ⟨rfl, ⟨fun y o e => ?_, fun y o e => ?_⟩, h1, h2⟩
  · by_cases hy : y ∈ cs.map (·.2)
    · obtain ⟨z, hz, rfl⟩ := List.mem_map.mp hy
      obtain ⟨more, hm⟩ := grown z hz
      have e0 := LT.empty z hz
      rw [e0] at e; injection e with e; subst e
      exact .inr (.inl ⟨((LT.code z hz).tab e0).isCodeTable, rfl, #[], more, rfl, by rw [Array.empty_append]; exact hm⟩)
    · exact .inl (kept y o hy e)
  · by_cases hy : y ∈ cs.map (·.2)
    · obtain ⟨z, hz, rfl⟩ := List.mem_map.mp hy
      obtain ⟨more, hm⟩ := grown z hz
      exact ⟨_, hm⟩
    · exact ⟨o, kept y o hy e⟩
end
end TN
namespace TN
open PySem PySem.Spec PyProof.Rows L2
def codeVs (vs : Array Value) (c t : Addr) : Bool := (match (vs[11]? : Option Value) with | some (.ref u) => u == t | _ => false) &&
  (match vs.getD 18 .none with | .str _ _ => true | _ => false) && (match vs.getD 7 .none with | .int _ _ => true | _ => false) &&
  (match vs.getD 9 .none with | .bool _ => true | _ => false) && (match vs.getD 10 .none with | .int _ _ => true | _ => false) && c != t
theorem codeHd_vs {K : PySem.W.Frag} {h : Heap} {c t : Addr} {od : Option Addr} {vs : Array Value} {sl : Array (Option Value)} (X : K.In h) (e : K.lookup c = some ⟨.type "code", od, .fields vs, sl⟩) (g : codeVs vs c t = true) : PySem.W.CodeHd h c t := by
  refine PySem.W.codeHd_of_K X ?_
  unfold PySem.W.codeHdIn
  rw [e]
  exact g
theorem tabOf_is {K : PySem.W.Frag} {x : Str} {f c t : Addr} {oc : Value} {od od2 : Option Addr} {fd : FuncData} {sl sl2 : Array (Option Value)} {cl : Value} {vs : Array Value} (h1 : PySem.W.nsIn K mainGlobals x = some (some (.ref f))) (h2 : K.lookup f = some ⟨oc, od, .func fd, sl⟩) (h3 : fd.code = .ref c)
    (h4 : K.lookup c = some ⟨cl, od2, .fields vs, sl2⟩) (h5 : vs.getD 11 .none = .ref t) : tabOf K x = some (t, x ++ ".<locals>." ++ "<lambda>") := by
  unfold tabOf
  rw [h1]; dsimp only
  rw [h2]; dsimp only
  rw [h3]; dsimp only
  rw [h4]; dsimp only
  rw [h5]
theorem tabs_history {K : PySem.W.Frag} {t : Addr × Str} (h : tabOf K "history" = some t) (n : PySem.W.nsIn K mainGlobals "shortest_healing" = some none) : tabsOf K = [t] := by
  have e2 : tabOf K "shortest_healing" = none := by unfold tabOf; rw [n]
  unfold tabsOf
  rw [List.filterMap_cons_some h, List.filterMap_cons_none e2]; rfl
theorem law_byT {l : PySem.W.OpenLaw} {n k : Nat} {pr : Program} {loose : List Str} {XP : (Str → Option Value) → Heap → Prop} {YP : World → Heap → Prop} {d : DefRec} {K : Params → PySem.W.Frag} {x : Str} {ts : List Addr} {sem : List D → (Sl → Prop) → Prop}
    (most : l.most = some n) (small : n ≤ sizeLine) (plain : d.params.defaults = []) (room : Room k callerA) (kin : ∀ (w : World) (h : Heap), YP w h → (K w.params).In h) (tab : ∀ (w : World) (h : Heap), YP w h → ∀ a ∈ ts, h.get? a = some (PySem.W.tabObj #[]))
    (F : ∀ (w : World) (mg : Str → Option Value) (fa : Addr) (h : Heap), (K w.params).In h → (∀ a ∈ ts, h.get? a = some (PySem.W.tabObj #[])) → h.Ns mainGlobals mg → mg d.name = some (.ref fa) →
      ∃ (fd : FuncData) (cs : List (Addr × Addr)), (∀ q ∈ cs, h.get? q.2 = some { cls := .none, data := .fields #[] }) ∧ (∀ q ∈ cs, PySem.W.CodeHd h q.1 q.2) ∧ (∀ q ∈ tabsOf (dropK (K w.params) (cs.map (·.2))), q.1 ∈ cs.map (·.2)) ∧
        (∀ (s : Shared) (u : Value), BindsTo s fd ⟨[u], []⟩ [(x, u)]) ∧ ∀ base : Heap, (dropK (K w.params) (cs.map (·.2))).In base → base.Ns mainGlobals mg → (∀ q ∈ cs, LamX.TabB base mg q.1 q.2) →
          FnG l.prog w (dropK (K w.params) (cs.map (·.2))) mg base CX0 k fa fd [x] (sp0 (dropK (K w.params) (cs.map (·.2))) sem))
    (yes : ∀ (ns : List Int) (Q : Sl → Prop), ns.length ≤ n → Q (.sh (.bool true)) → sem [.list (ns.map PyData.int)] Q) :
    PySem.W.WalkO pr loose XP YP l.row.toRowW d [] (fun f vs => PySem.call f vs) := by
  refine Att.attach_call most plain fun w s₀ t mg mb fa o pm cd doc p items ns G Y ho hd hcd hmg at' nums len gens => ?_
  obtain ⟨fd, cs, eT, eC, eTabs, bind, promise⟩ := F w mg fa _ (kin w _ Y) (tab w _ Y) G.T.g hmg
  have L : Left (dropK (K w.params) (cs.map (·.2))) mg mb t := ⟨dropK_in (kin w _ Y), G.T.g, G.T.b, G.T.builtins, G.T.nolimit, gens⟩
  have LT : LeftT t mg cs := ⟨eT, eC, G.T.bmain⟩
  obtain ⟨H, S, sq⟩ := seen_script (P := l.prog) (w := w) at' L nums (Nat.le_trans len small)
  have np : p ∉ cs.map (·.2) := fun z => by
    have e := LT.at z
    rw [at'] at e
    injection e with e; cases e
  refine law_goesT S L LT (fun q hq => lookup_dropped (by simpa using ⟨q.1, hq⟩)) at' room promise bind ?_
  refine ⟨H, [.list (ns.map PyData.int)], fun r => r = .sh (.bool true), fun q hq => ?_, fun b ps z => ?_, fun b o e => ?_, .cons (.lst sq (dq_nums ns)) .nil, yes ns _ len rfl, fun v G2 H2 r _ ok e => ?_⟩
  · exact LamX.TabS.nil (if_pos (eTabs q hq))
  · rcases S.frz b with e | ⟨_, _, e⟩ <;> (rw [e] at z; cases z)
  · have hb : b = p := S.one b (by rw [e]; exact Option.some_ne_none _)
    exact (if_neg (fun z => np (hb ▸ z))).trans e
  · subst e
    have ok : Dq (dropK (K w.params) (cs.map (·.2))) G2 v (.bool true) := ok
    cases ok; rfl
end TN
set_option Elab.async false
set_option linter.all false
set_option maxRecDepth 100000
set_option maxHeartbeats 2000000
set_option autoImplicit false
namespace TN
open PySem PySem.Spec PyProof.Rows L2
inductive Tells : List Nat → List Nat → List Ev → Prop
  | nil : Tells [] [] []
  | place {p : Nat} {ps qs : List Nat} {es : List Ev} : Tells ps qs es → Tells (p :: ps) (p :: qs) (.place p :: es)
  | as' {p q : Nat} {ps qs : List Nat} {es : List Ev} (h : p ≠ q) : Tells ps qs es → Tells (p :: ps) (q :: qs) (.as' p q :: es)
  | lost {p : Nat} {ps qs : List Nat} {es : List Ev} : Tells ps qs es → Tells (p :: ps) qs (.lost p :: es)
  | twice {p : Nat} {ps qs : List Nat} {es : List Ev} : Tells ps qs es → Tells (p :: ps) (p :: p :: qs) (.twice p :: es)
def Ev.isP : Ev → Bool
  | .place _ => true
  | _ => false
def costE (e : Ev) : Nat := if e.isP then 0 else 1
def faultsE : List Ev → Nat
  | [] => 0
  | e :: es => costE e + faultsE es

def evsAt (p : Nat) : List Nat → List (Ev × Nat)
  | [] => [(.lost p, 0)]
  | q :: qs => (.lost p, 0) :: (if q = p then (.place p, 1) else (.as' p q, 1)) :: (if q = p ∧ qs.head? = some p then [(.twice p, 2)] else [])
abbrev Way := Nat × Ev × Nat
def waysF (p : Nat) (qs : List Nat) (f : Nat → Option Nat) : List Way := (evsAt p qs).filterMap fun em => (f em.2).map fun n => (n + costE em.1, em.1, em.2)
def minO : List Nat → Option Nat
  | [] => none
  | x :: xs => some (xs.foldl min x)
def fewF : List Nat → List Nat → Option Nat
  | [], [] => some 0
  | [], _ :: _ => none
  | p :: ps, qs => minO ((waysF p qs fun m => fewF ps (qs.drop m)).map (·.1))
theorem foldl_min : ∀ (xs : List Nat) (x : Nat), xs.foldl min x ≤ x ∧ (∀ y ∈ xs, xs.foldl min x ≤ y) ∧ (xs.foldl min x = x ∨ xs.foldl min x ∈ xs)
  | [], x => ⟨Nat.le_refl _, (fun _ h => by cases h), .inl rfl⟩
  | y :: xs, x => by
    obtain ⟨h1, h2, h3⟩ := foldl_min xs (min x y)
    show xs.foldl min (min x y) ≤ x ∧ (∀ z ∈ y :: xs, xs.foldl min (min x y) ≤ z) ∧ (xs.foldl min (min x y) = x ∨ xs.foldl min (min x y) ∈ y :: xs)
    refine ⟨by omega, fun z hz => ?_, ?_⟩
    · rcases List.mem_cons.mp hz with rfl | hz
      · omega
      · exact h2 z hz
    · rcases h3 with h3 | h3
      · by_cases c : x ≤ y
        · exact .inl (by rw [h3]; omega)
        · exact .inr (List.mem_cons.mpr (.inl (by rw [h3]; omega)))
      · exact .inr (List.mem_cons_of_mem _ h3)
theorem minO_is {xs : List Nat} {n : Nat} (h : minO xs = some n) : n ∈ xs ∧ ∀ y ∈ xs, n ≤ y := by
  cases xs with
  | nil => cases h
  | cons x xs =>
    obtain ⟨h1, h2, h3⟩ := foldl_min xs x
    have h : some (xs.foldl min x) = some n := h
    injection h with h
    subst h
    refine ⟨?_, fun y hy => ?_⟩
    · rcases h3 with h3 | h3
      · rw [h3]; exact List.mem_cons_self
      · exact List.mem_cons_of_mem _ h3
    · rcases List.mem_cons.mp hy with rfl | hy
      · exact h1
      · exact h2 y hy
theorem minO_some {xs : List Nat} {y : Nat} (h : y ∈ xs) : ∃ n, minO xs = some n ∧ n ≤ y := by
  cases xs with
  | nil => cases h
  | cons x xs =>
    obtain ⟨h1, h2, _⟩ := foldl_min xs x
    refine ⟨_, rfl, ?_⟩
    rcases List.mem_cons.mp h with rfl | h
    · exact h1
    · exact h2 y h
theorem waysF_of {p : Nat} {qs : List Nat} {f : Nat → Option Nat} {w : Way} : w ∈ waysF p qs f ↔ ∃ n, (w.2.1, w.2.2) ∈ evsAt p qs ∧ f w.2.2 = some n ∧ w.1 = n + costE w.2.1 := by
  obtain ⟨a, e, m⟩ := w
  unfold waysF
  rw [List.mem_filterMap]
  constructor
  · rintro ⟨⟨e', m'⟩, h1, h2⟩
    rw [Option.map_eq_some_iff] at h2
    obtain ⟨n, h3, h4⟩ := h2
    injection h4 with h4 h5; injection h5 with h5 h6
    subst h5 h6
    exact ⟨n, h1, h3, h4.symm⟩
  · rintro ⟨n, h1, h2, h3⟩
    exact ⟨(e, m), h1, by rw [Option.map_eq_some_iff]; exact ⟨n, h2, by rw [← h3]⟩⟩

theorem evsAt_tells {p m : Nat} {qs ps : List Nat} {e : Ev} {es : List Ev} (h : (e, m) ∈ evsAt p qs) (t : Tells ps (qs.drop m) es) : Tells (p :: ps) qs (e :: es) := by
  cases qs with
  | nil =>
    simp only [evsAt, List.mem_singleton] at h
    injection h with h1 h2; subst h1 h2
    exact .lost t
  | cons q qs =>
    simp only [evsAt, List.mem_cons] at h
    rcases h with h | h | h
    · injection h with h1 h2; subst h1 h2; exact .lost t
    · by_cases c : q = p
      · rw [if_pos c] at h; injection h with h1 h2; subst h1 h2; subst c; exact .place t
      · rw [if_neg c] at h; injection h with h1 h2; subst h1 h2; exact .as' (Ne.symm c) t
    · by_cases c : q = p ∧ qs.head? = some p
      · rw [if_pos c, List.mem_singleton] at h
        injection h with h1 h2; subst h1 h2
        obtain ⟨rfl, c2⟩ := c
        cases qs with
        | nil => cases c2
        | cons q2 qs => injection c2 with c2; subst c2; exact .twice t
      · rw [if_neg c] at h; cases h
theorem tells_cons {p : Nat} {ps qs : List Nat} {es : List Ev} (h : Tells (p :: ps) qs es) : ∃ e m es', es = e :: es' ∧ (e, m) ∈ evsAt p qs ∧ Tells ps (qs.drop m) es' := by
  cases h with
  | place t => exact ⟨_, 1, _, rfl, by simp [evsAt], t⟩
  | as' c t => exact ⟨_, 1, _, rfl, by simp [evsAt, Ne.symm c], t⟩
  | lost t =>
    refine ⟨_, 0, _, rfl, ?_, t⟩
    cases qs <;> simp [evsAt]
  | twice t => exact ⟨_, 2, _, rfl, by simp [evsAt], t⟩
theorem few_le : ∀ {ps qs : List Nat} {es : List Ev}, Tells ps qs es → ∃ n, fewF ps qs = some n ∧ n ≤ faultsE es
  | [], qs, es, h => by cases h; exact ⟨0, rfl, Nat.le_refl _⟩
  | p :: ps, qs, es, h => by
    obtain ⟨e, m, es', rfl, h1, h2⟩ := tells_cons h
    obtain ⟨n, e1, e2⟩ := few_le h2
    have hw : (n + costE e, e, m) ∈ waysF p qs fun m => fewF ps (qs.drop m) := waysF_of.mpr ⟨n, h1, e1, rfl⟩
    obtain ⟨k, k1, k2⟩ := minO_some (List.mem_map.mpr ⟨_, hw, rfl⟩)
    refine ⟨k, k1, ?_⟩
    have k2 : k ≤ n + costE e := k2
    show k ≤ costE e + faultsE es'
    omega
theorem few_is : ∀ {ps qs : List Nat} {n : Nat}, fewF ps qs = some n → ∃ es, Tells ps qs es ∧ faultsE es = n
  | [], [], n, h => by injection h with h; subst h; exact ⟨[], .nil, rfl⟩
  | [], _ :: _, n, h => by cases h
  | p :: ps, qs, n, h => by
    obtain ⟨h1, _⟩ := minO_is h
    obtain ⟨w, hw, e⟩ := List.mem_map.mp h1
    obtain ⟨k, g1, g2, g3⟩ := waysF_of.mp hw
    obtain ⟨es, t, f⟩ := few_is g2
    exact ⟨_, evsAt_tells g1 t, by show costE _ + faultsE es = n; omega⟩

theorem few_step {p : Nat} {ps qs : List Nat} {n : Nat} {w : Way} (h : fewF (p :: ps) qs = some n) (hw : w ∈ waysF p qs fun m => fewF ps (qs.drop m)) (le : ∀ v ∈ waysF p qs fun m => fewF ps (qs.drop m), w.1 ≤ v.1) :
    (w.2.1, w.2.2) ∈ evsAt p qs ∧ ∃ k, fewF ps (qs.drop w.2.2) = some k ∧ n = k + costE w.2.1 := by
  obtain ⟨h1, h2⟩ := minO_is h
  obtain ⟨v, hv, e⟩ := List.mem_map.mp h1
  have e1 := le v hv
  have e2 := h2 w.1 (List.mem_map.mpr ⟨w, hw, rfl⟩)
  obtain ⟨k, g1, g2, g3⟩ := waysF_of.mp hw
  exact ⟨g1, k, g2, by omega⟩
theorem few_ways {p : Nat} {ps qs : List Nat} {n : Nat} (h : fewF (p :: ps) qs = some n) : 0 < (waysF p qs fun m => fewF ps (qs.drop m)).length := by
  obtain ⟨h1, _⟩ := minO_is h
  obtain ⟨v, hv, _⟩ := List.mem_map.mp h1
  exact List.length_pos_iff.mpr fun z => by rw [z] at hv; cases hv
end TN
namespace TN
open PySem PySem.Spec PyProof.Rows L2
theorem takeAll_said : ∀ (ps : List Nat) (r : List Str), (takeAll r ps).2 = saidL r ps
  | [], _ => rfl
  | p :: ps, r => congrArg (r.getD p "" :: ·) (takeAll_said ps (toF r p))
theorem tells_runT {r : List Str} : ∀ {ps qs : List Nat} {es : List Ev} {r : List Str}, Tells ps qs es → runT r es = takeAll r ps
  | _, _, _, r, .nil => rfl
  | _, _, _, r, .place (p := p) t => by
    show (let q := runT (toF r p) _; (q.1, r.getD p "" :: q.2)) = _
    rw [tells_runT (r := r) t]; rfl
  | _, _, _, r, .as' (p := p) _ t => by
    show (let q := runT (toF r p) _; (q.1, r.getD p "" :: q.2)) = _
    rw [tells_runT (r := r) t]; rfl
  | _, _, _, r, .lost (p := p) t => by
    show (let q := runT (toF r p) _; (q.1, r.getD p "" :: q.2)) = _
    rw [tells_runT (r := r) t]; rfl
  | _, _, _, r, .twice (p := p) t => by
    show (let q := runT (toF r p) _; (q.1, r.getD p "" :: q.2)) = _
    rw [tells_runT (r := r) t]; rfl
theorem tells_runH : ∀ {ps qs : List Nat} {es : List Ev} {r : List Str}, Tells ps qs es → runH r es = takeAll r qs
  | _, _, _, r, .nil => rfl
  | _, _, _, r, .place (p := p) (es := es) t => by
    have := tells_runH (r := toF r p) t
    show (let q := runH (toF r p) es; (q.1, [r.getD p ""] ++ q.2)) = _
    rw [this]; rfl
  | _, _, _, r, .as' (q := p) (es := es) _ t => by
    have := tells_runH (r := toF r p) t
    show (let q := runH (toF r p) es; (q.1, [r.getD p ""] ++ q.2)) = _
    rw [this]; rfl
  | _, _, _, r, .lost (es := es) t => by
    have := tells_runH (r := r) t
    show (let q := runH r es; (q.1, [] ++ q.2)) = _
    rw [this]; rfl
  | _, _, _, r, .twice (p := p) (es := es) t => by
    have := tells_runH (r := toF (toF r p) p) t
    show (let q := runH (toF (toF r p) p) es; (q.1, [r.getD p "", (toF r p).getD p ""] ++ q.2)) = _
    rw [this]; rfl
theorem tells_len : ∀ {ps qs : List Nat} {es : List Ev}, Tells ps qs es → es.length = ps.length
  | _, _, _, .nil => rfl
  | _, _, _, .place t => congrArg (· + 1) (tells_len t)
  | _, _, _, .as' _ t => congrArg (· + 1) (tells_len t)
  | _, _, _, .lost t => congrArg (· + 1) (tells_len t)
  | _, _, _, .twice t => congrArg (· + 1) (tells_len t)
theorem tells_ok {r : List Str} : ∀ {ps qs : List Nat} {es : List Ev}, Tells ps qs es → (∀ p ∈ ps, p < r.length) → (∀ q ∈ qs, q < r.length) → ∀ e ∈ es, e.ok r ∧ e.un
  | _, _, _, .nil, _, _ => fun e h => by cases h
  | _, _, _, .place t, hp, hq => fun e he => by
    rcases List.mem_cons.mp he with rfl | he
    · exact ⟨hp _ List.mem_cons_self, trivial⟩
    · exact tells_ok t (fun x hx => hp x (List.mem_cons_of_mem _ hx)) (fun x hx => hq x (List.mem_cons_of_mem _ hx)) e he
  | _, _, _, .as' c t, hp, hq => fun e he => by
    rcases List.mem_cons.mp he with rfl | he
    · exact ⟨⟨hp _ List.mem_cons_self, hq _ List.mem_cons_self, c⟩, trivial⟩
    · exact tells_ok t (fun x hx => hp x (List.mem_cons_of_mem _ hx)) (fun x hx => hq x (List.mem_cons_of_mem _ hx)) e he
  | _, _, _, .lost t, hp, hq => fun e he => by
    rcases List.mem_cons.mp he with rfl | he
    · exact ⟨hp _ List.mem_cons_self, trivial⟩
    · exact tells_ok t (fun x hx => hp x (List.mem_cons_of_mem _ hx)) hq e he
  | _, _, _, .twice t, hp, hq => fun e he => by
    rcases List.mem_cons.mp he with rfl | he
    · exact ⟨hp _ List.mem_cons_self, trivial⟩
    · exact tells_ok t (fun x hx => hp x (List.mem_cons_of_mem _ hx)) (fun x hx => hq x (List.mem_cons_of_mem _ (List.mem_cons_of_mem _ hx))) e he

def toldsE : List Ev → List Nat
  | [] => []
  | e :: es => e.at [] :: toldsE es
def heardsE : List Ev → List Nat
  | [] => []
  | e :: es => e.takes [] ++ heardsE es
theorem tells_of {r : List Str} : ∀ {es : List Ev}, (∀ e ∈ es, e.ok r ∧ e.un) → Tells (toldsE es) (heardsE es) es
  | [], _ => .nil
  | e :: es, h => by
    have t := tells_of (r := r) (es := es) fun x hx => h x (List.mem_cons_of_mem _ hx)
    obtain ⟨h1, h2⟩ := h e List.mem_cons_self
    cases e with
    | place p => exact .place t
    | lost p => exact .lost t
    | twice p => exact .twice t
    | as' p q => exact .as' h1.2.2 t
    | name x => exact h2.elim
theorem tolds_lt {r : List Str} : ∀ {es : List Ev}, (∀ e ∈ es, e.ok r ∧ e.un) → (∀ p ∈ toldsE es, p < r.length) ∧ ∀ p ∈ heardsE es, p < r.length
  | [], _ => ⟨(fun _ h => by cases h), fun _ h => by cases h⟩
  | e :: es, h => by
    obtain ⟨t1, t2⟩ := tolds_lt (r := r) (es := es) fun x hx => h x (List.mem_cons_of_mem _ hx)
    obtain ⟨h1, h2⟩ := h e List.mem_cons_self
    refine ⟨fun p hp => ?_, fun p hp => ?_⟩
    · rcases List.mem_cons.mp hp with rfl | hp
      · cases e <;> first | exact h1 | exact h1.1 | exact h2.elim
      · exact t1 p hp
    · rcases List.mem_append.mp hp with hp | hp
      · cases e <;> first | exact h2.elim | (simp only [Ev.takes, List.mem_cons, List.not_mem_nil, or_false, or_self] at hp; subst hp; first | exact h1 | exact h1.2.1) | (simp [Ev.takes] at hp)
      · exact t2 p hp
theorem faults_app : ∀ (es fs : List Ev), faultsE (es ++ fs) = faultsE es + faultsE fs
  | [], fs => (Nat.zero_add _).symm
  | e :: es, fs => by
    show costE e + faultsE (es ++ fs) = costE e + faultsE es + faultsE fs
    rw [faults_app es fs]; omega
theorem faults_filter : ∀ (es : List Ev), faultsE es = (es.filter fun e => !e.isP).length
  | [] => rfl
  | e :: es => by
    show costE e + faultsE es = _
    rw [faults_filter es]
    cases h : e.isP with
    | true => rw [List.filter_cons_of_neg (by simp [h]), costE, if_pos h]; omega
    | false => rw [List.filter_cons_of_pos (by simp [h]), List.length_cons, costE, if_neg (by simp [h])]; omega
end TN
set_option Elab.async false
set_option linter.all false
set_option maxRecDepth 100000
set_option maxHeartbeats 2000000
set_option autoImplicit false
namespace TN
open PySem PySem.Spec PyProof.Rows L2
def optD : Option Nat → D
  | none => .none
  | some n => .int n
def semEventsAt (ds : List D) (Q : Sl → Prop) : Prop := ∃ (p : Nat) (qs : List Nat) (done : Nat), ds = [.int p, lstN qs, .int done] ∧ done ≤ qs.length ∧ qs.length ≤ 1000 ∧
  Q (.ow ((evsAt p (qs.drop done)).map fun em => .tuple [em.1.d, .int em.2]))
def semWays (ds : List D) (Q : Sl → Prop) : Prop := ∃ (p : Nat) (qs : List Nat) (done : Nat) (f : Nat → Option Nat), ds = [.int p, lstN qs, .int done, .list ((List.range (qs.length + 1)).map fun k => optD (f k))] ∧ done ≤ qs.length ∧ qs.length ≤ 1000 ∧
  Q (.ow ((waysF p (qs.drop done) fun m => f (done + m)).map fun w => .tuple [.int w.1, w.2.1.d, .int ((done : Int) + w.2.2)]))
def semFewest (ds : List D) (Q : Sl → Prop) : Prop := ∃ (xs : List (Nat × D × D)), ds = [.list (xs.map fun x => .tuple [.int x.1, x.2.1, x.2.2])] ∧ xs.length ≤ 1000 ∧ Q (.sh (optD (minO (xs.map (·.1)))))
def rowL (ps qs : List Nat) : List D := (List.range (qs.length + 1)).map fun done => optD (fewF ps (qs.drop done))
def tableL : List Nat → List Nat → List D
  | [], qs => [.list (rowL [] qs)]
  | p :: ps, qs => .list (rowL (p :: ps) qs) :: tableL ps qs
def semFewestFaults (ds : List D) (Q : Sl → Prop) : Prop := ∃ ps qs : List Nat, ds = [lstN ps, lstN qs] ∧ ps.length ≤ 1000 ∧ qs.length ≤ 1000 ∧ Q (.ow (tableL ps qs))
def semHistory (ds : List D) (Q : Sl → Prop) : Prop := ∃ (ps qs : List Nat) (n : Nat), ds = [lstN ps, lstN qs, .list (tableL ps qs)] ∧ ps.length ≤ 1000 ∧ qs.length ≤ 1000 ∧ fewF ps qs = some n ∧
  ∀ es, Tells ps qs es → faultsE es = n → Q (.ow (es.map Ev.d))
def semNeedTexts (ds : List D) (Q : Sl → Prop) : Prop := ∃ r s w : List Str, ds = [tupL r, lstL s, lstL w] ∧ GRow r ∧ (∀ x ∈ s, x ∈ r) ∧ (∀ x ∈ w, x ∈ r) ∧ s.length ≤ 1000 ∧ w.length ≤ 1000 ∧ Q (.sh .none)

def semExplained (ds : List D) (Q : Sl → Prop) : Prop := ∃ r s w : List Str, ds = [tupL r, lstL s, lstL w] ∧ GRow r ∧ (∀ x ∈ s, x ∈ r) ∧ (∀ x ∈ w, x ∈ r) ∧ s.length ≤ 1000 ∧ w.length ≤ 1000 ∧
  (fewF (placesL r s) (placesL r w) = none → Q (.sh .none)) ∧ ∀ n es, fewF (placesL r s) (placesL r w) = some n → Tells (placesL r s) (placesL r w) es → faultsE es = n → Q (.sh (.tuple [.int n, .list (es.map Ev.d)]))
theorem tableL_len : ∀ (ps qs : List Nat), (tableL ps qs).length = ps.length + 1
  | [], _ => rfl
  | p :: ps, qs => congrArg (· + 1) (tableL_len ps qs)
theorem tableL_at : ∀ (ps qs : List Nat) (k : Nat), k ≤ ps.length → (tableL ps qs)[k]? = some (.list (rowL (ps.drop k) qs))
  | [], qs, k, h => by cases Nat.le_zero.mp h; rfl
  | p :: ps, qs, 0, _ => rfl
  | p :: ps, qs, k + 1, h => tableL_at ps qs k (by simpa using h)
theorem rowL_len (ps qs : List Nat) : (rowL ps qs).length = qs.length + 1 := by unfold rowL; rw [List.length_map, List.length_range]
theorem evsAt_le {p m : Nat} {qs : List Nat} {e : Ev} (h : (e, m) ∈ evsAt p qs) : m ≤ qs.length := by
  cases qs with
  | nil => simp only [evsAt, List.mem_singleton] at h; injection h with _ h; omega
  | cons q qs =>
    simp only [evsAt, List.mem_cons] at h
    rcases h with h | h | h
    · injection h with _ h; simp; omega
    · split at h <;> (injection h with _ h; simp; omega)
    · split at h
      · rename_i c
        rw [List.mem_singleton] at h; injection h with _ h
        cases qs with
        | nil => cases c.2
        | cons _ _ => simp; omega
      · cases h
end TN
namespace TN
open PySem PySem.Spec PyProof.Rows L2
theorem oSlN_mid {qs : List Nat} {a : Nat} (h : a ≤ qs.length) : oSlice (some (a : Int)) (some ((a : Int) + 2)) (lstN qs) = some (lstN ((qs.drop a).take 2)) := by
  show some (PyData.list (cutD (qs.map fun (k : Nat) => PyData.int k) (some (a : Int)) (some (((a + 2 : Nat)) : Int)))) = _
  unfold cutD
  rw [HT.sIx_nat, HT.sIx_nat, List.length_map, Nat.min_eq_left h, ← List.map_drop, ← List.map_take]
  congr 3
  by_cases c : a + 2 ≤ qs.length
  · rw [Nat.min_eq_left c]; congr 1; omega
  · rw [Nat.min_eq_right (by omega), List.take_of_length_le (by rw [List.length_drop]; exact Nat.le_refl _), List.take_of_length_le (by rw [List.length_drop]; omega)]
theorem oSlN_one {qs : List Nat} : oSlice none (some 1) (lstN qs) = some (lstN (qs.take 1)) := by
  show some (PyData.list (cutD (qs.map fun (k : Nat) => PyData.int k) none (some ((1 : Nat) : Int)))) = _
  unfold cutD
  rw [HT.sIx_none, HT.sIx_nat, List.length_map, Nat.sub_zero, List.drop_zero, ← List.map_take]
  congr 3
  by_cases c : 1 ≤ qs.length
  · rw [Nat.min_eq_left c]
  · have : qs = [] := List.length_eq_zero_iff.mp (by omega)
    subst this; rfl
theorem intsOf_nat : ∀ ks : List Nat, intsOf (ks.map fun (k : Nat) => PyData.int k) = some (ks.map fun (k : Nat) => (k : Int))
  | [] => rfl
  | k :: ks => by
    have := intsOf_nat ks
    rw [List.map_cons, List.map_cons]
    unfold intsOf
    rw [this]; rfl
theorem min_opt (ys : List (Nat × D × D)) : ominD .none [.list (ys.map fun x => PyData.int x.1)] = some (optD (minO (ys.map (·.1)))) := by
  have e : ys.map (fun x => PyData.int (x.1 : Nat)) = (ys.map (·.1)).map fun (k : Nat) => PyData.int k := by rw [List.map_map]; rfl
  rw [e]
  generalize ys.map (·.1) = ks
  show (intsOf (ks.map fun (k : Nat) => PyData.int k)).map _ = _
  rw [intsOf_nat, Option.map_some]
  cases h : minO ks with
  | none =>
    cases ks with
    | nil => rfl
    | cons _ _ => cases h
  | some n =>
    obtain ⟨h1, h2⟩ := minO_is h
    have ne : ¬ (ks.map fun (k : Nat) => (k : Int)) = [] := fun z => by
      have := List.map_eq_nil_iff.mp z
      rw [this] at h1; cases h1
    rw [if_neg ne]
    have := minL_is (xs := ks.map fun (k : Nat) => (k : Int)) (m := n) (List.mem_map.mpr ⟨n, h1, rfl⟩) fun y hy => by
      obtain ⟨k, hk, rfl⟩ := List.mem_map.mp hy
      have := h2 k hk
      show (n : Int) ≤ k
      omega
    rw [this]; rfl
def wF (f : Nat → Option Nat) (l : List (Ev × Nat)) : List Way := l.filterMap fun em => (f em.2).map fun n => (n + costE em.1, em.1, em.2)
theorem ev_word (e : Ev) (un : e.un) : ∃ w, oIx e.d (.int 0) = some (.str w) ∧ oEq (.str w) (.str (Str.ofString "place")) = some (.bool e.isP) := by
  cases e with
  | place p => exact ⟨_, ix0, w_eq (by decide +kernel)⟩
  | lost p => exact ⟨_, ix0, w_ne (by decide +kernel) (by decide +kernel) (by decide +kernel)⟩
  | twice p => exact ⟨_, ix0, w_ne (by decide +kernel) (by decide +kernel) (by decide +kernel)⟩
  | as' p q => exact ⟨_, ix0, w_ne (by decide +kernel) (by decide +kernel) (by decide +kernel)⟩
  | name x => exact un.elim
theorem evsAt_un {p m : Nat} {qs : List Nat} {e : Ev} (h : (e, m) ∈ evsAt p qs) : e.un := by
  cases qs with
  | nil => simp only [evsAt, List.mem_singleton] at h; injection h with h _; subst h; trivial
  | cons q qs =>
    simp only [evsAt, List.mem_cons] at h
    rcases h with h | h | h
    · injection h with h _; subst h; trivial
    · split at h <;> (injection h with h _; subst h; trivial)
    · split at h
      · rw [List.mem_singleton] at h; injection h with h _; subst h; trivial
      · cases h
theorem evsAt_len (p : Nat) (qs : List Nat) : (evsAt p qs).length ≤ 3 := by
  cases qs with
  | nil => simp [evsAt]
  | cons q qs => simp only [evsAt, List.length_cons]; split <;> simp
theorem optD_at {n k : Nat} (f : Nat → Option Nat) (h : k < n) : oIx (.list ((List.range n).map fun k => optD (f k))) (.int k) = some (optD (f k)) := by
  show atI _ _ = _
  rw [atI_nat (by rw [List.length_map, List.length_range]; exact h), List.getElem_map, List.getElem_range]
theorem wF_none {f : Nat → Option Nat} {e : Ev} {m : Nat} {ls : List (Ev × Nat)} (h : f m = none) : wF f ((e, m) :: ls) = wF f ls := by
  unfold wF
  rw [List.filterMap_cons_none]
  show (f m).map _ = none
  rw [h]; rfl
theorem wF_some {f : Nat → Option Nat} {e : Ev} {m n : Nat} {ls : List (Ev × Nat)} (h : f m = some n) : wF f ((e, m) :: ls) = (n + costE e, e, m) :: wF f ls := by
  unfold wF
  rw [List.filterMap_cons_some (b := (n + costE e, e, m))]
  show (f m).map _ = _
  rw [h]; rfl
end TN
namespace TN
open PySem PySem.Spec PyProof.Rows L2
def wayD (done : Nat) (w : Way) : D := .tuple [.int w.1, w.2.1.d, .int ((done : Int) + w.2.2)]

theorem best_way {ws : List Way} {done : Nat} (ne : 0 < ws.length) :
    (∀ i x, (ws.map (wayD done))[i]? = some x → kd0 x = some ((fun i => (((ws.map (·.1)).getD i 0 : Nat) : Int)) i)) ∧
    ∀ e, (ws.map (wayD done))[bestK (fun i => (((ws.map (·.1)).getD i 0 : Nat) : Int)) ((ws.map (wayD done)).length - 1)]? = some e → ∃ w, w ∈ ws ∧ e = wayD done w ∧ ∀ v ∈ ws, w.1 ≤ v.1 := by
  refine ⟨fun i x e => ?_, fun e he => ?_⟩
  · rw [List.getElem?_map] at e
    obtain ⟨w, h1, rfl⟩ := Option.map_eq_some_iff.mp e
    show some (w.1 : Int) = some (((ws.map (·.1)).getD i 0 : Nat) : Int)
    rw [List.getD_eq_getElem?_getD, List.getElem?_map, h1]; rfl
  · rw [List.length_map] at he
    obtain ⟨b1, b2, _⟩ := bestK_is (fun i => (((ws.map (·.1)).getD i 0 : Nat) : Int)) (ws.length - 1)
    generalize bestK (fun i => (((ws.map (·.1)).getD i 0 : Nat) : Int)) (ws.length - 1) = b at he b1 b2
    rw [List.getElem?_map] at he
    obtain ⟨w, h1, rfl⟩ := Option.map_eq_some_iff.mp he
    refine ⟨w, List.mem_of_getElem? h1, rfl, fun v hv => ?_⟩
    obtain ⟨j, hj, ej⟩ := List.mem_iff_getElem.mp hv
    have := b2 j (by omega)
    rw [List.getD_eq_getElem?_getD, List.getElem?_map, h1, List.getD_eq_getElem?_getD, List.getElem?_map, List.getElem?_eq_getElem hj, ej] at this
    have this : (w.1 : Int) ≤ (v.1 : Int) := this
    omega
end TN
namespace TN
open PySem PySem.Spec PyProof.Rows L2
end TN
set_option Elab.async false
set_option linter.all false
set_option maxRecDepth 100000
set_option maxHeartbeats 2000000
set_option autoImplicit false
namespace TN
open PySem PySem.Spec PyProof.Rows L2
theorem w_nn {a b : Str} (ha : okS a) (hb : okS b) (h : a ≠ b) : oNe (.str a) (.str b) = some (.bool true) := by rw [oNe_str ha hb, decide_eq_false h]; rfl
theorem ev_fault (e : Ev) : ∃ w, oIx e.d (.int 0) = some (.str w) ∧ oNe (.str w) (.str (Str.ofString "place")) = some (.bool (!e.isP)) := by
  cases e with
  | place p => exact ⟨_, ix0, by rw [oNe_str (by decide +kernel) (by decide +kernel), decide_eq_true rfl]; rfl⟩
  | lost p => exact ⟨_, ix0, w_nn (by decide +kernel) (by decide +kernel) (by decide +kernel)⟩
  | twice p => exact ⟨_, ix0, w_nn (by decide +kernel) (by decide +kernel) (by decide +kernel)⟩
  | as' p q => exact ⟨_, ix0, w_nn (by decide +kernel) (by decide +kernel) (by decide +kernel)⟩
  | name x => exact ⟨_, ix0, w_nn (by decide +kernel) (by decide +kernel) (by decide +kernel)⟩
theorem isP_place (e : Ev) : e.isP = isPlace e := by cases e <;> rfl
theorem hist_few {r : List Str} (g : GRow r) {es : List Ev} (ok : ∀ e ∈ es, e.ok r ∧ e.un) :
    Tells (placesL r (runT r es).2) (placesL r (runH r es).2) es := by
  have t := tells_of ok
  have lt := tolds_lt ok
  rw [tells_runT (r := r) t, tells_runH t, takeAll_said, takeAll_said, places_said _ _ g.nd lt.1, places_said _ _ g.nd lt.2]
  exact t
theorem kind_un {e : Ev} (h : e.kind ∈ (["lost", "twice", "as"] : List Str) ∨ ∃ p, e = .place p) : e.un := by
  rcases h with h | ⟨p, rfl⟩
  · cases e with
    | name x => simp only [Ev.kind] at h; exact absurd h (by decide)
    | _ => trivial
  · trivial
theorem runH_two : ∀ (es : List Ev) (r : List Str), (runH r es).2.length ≤ 2 * es.length
  | [], r => Nat.le_refl _
  | e :: es, r => by
    show ((takeAll r (e.takes r)).2 ++ (runH (takeAll r (e.takes r)).1 es).2).length ≤ 2 * (es.length + 1)
    have := runH_two es (takeAll r (e.takes r)).1
    have := Ev.takes_few (r := r) (e := e)
    rw [List.length_append, takeAll_said, saidL_len]
    omega
theorem places_no : ∀ {es : List Ev}, (∀ e ∈ es, isPlace e = true) → faultsE es = 0
  | [], _ => rfl
  | e :: es, h => by
    show costE e + faultsE es = 0
    rw [places_no fun x hx => h x (List.mem_cons_of_mem _ hx)]
    unfold costE
    rw [isP_place, h e List.mem_cons_self]; rfl
end TN
set_option Elab.async false
set_option linter.all false
set_option maxRecDepth 100000
set_option maxHeartbeats 2000000
set_option autoImplicit false
namespace TN
open PySem PySem.Spec PyProof.Rows L2
def oMinI : OC := fun ds => match ds with
  | [.list ds] => (intsOf ds).bind fun ns => if ns = [] then none else some (.int (minL ns))
  | _ => none
theorem rc_minI {K : PySem.W.Frag} : RC K (rMin K) oMinI := fun {G H vs ds z Q} s p e k => by
  unfold oMinI at e
  split at e
  · rename_i xs
    obtain ⟨is, e1, e2⟩ := Option.bind_eq_some_iff.mp e
    by_cases c : is = []
    · rw [if_pos c] at e2; cases e2
    · rw [if_neg c] at e2
      injection e2 with e2; subst e2
      cases p with
      | cons a b =>
        cases b
        rw [intsOf_is e1] at a
        obtain ⟨x, us, rfl, h1, h2⟩ := a.list s
        rw [dq_ints h2] at h1
        refine ⟨x, is, rfl, h1, List.length_pos_iff.mpr c, fun m a1 a2 => ?_⟩
        rw [minL_is a1 a2] at k
        exact k _ G H (.refl s) (.int _)
  · cases e
end TN
set_option Elab.async false
set_option linter.all false
set_option maxRecDepth 100000
set_option maxHeartbeats 2000000
set_option autoImplicit false
namespace TN
open PySem PySem.Spec PyProof.Rows L2
def semFaultsK (ds : List D) (Q : Sl → Prop) : Prop := ∃ r s w : List Str, ds = [tupL r, lstL s, lstL w] ∧ GRow r ∧ (∀ x ∈ s, x ∈ r) ∧ (∀ x ∈ w, x ∈ r) ∧ s.length ≤ 1000 ∧ w.length ≤ 1000 ∧ Q (.sh (optD (fewF (placesL r s) (placesL r w))))
def semNearK (xs ds : List D) (Q : Sl → List D → Prop) : Prop := ∃ (n : Int) (r w : List Str), Spl n xs ∧ n + 3 ≤ big ∧ ds = [tupL r, lstL w] ∧ GRow r ∧ (∀ x ∈ w, x ∈ r) ∧ w.length ≤ 1000 ∧
  ∀ (w' : List Str) (ys : List D), (∀ x ∈ w', x ∈ r) → w'.length ≤ w.length → Spl (n + 3) ys → Q (.ow (w'.map PyData.str)) ys

def rowsT : List Str → List Str → List (List Str)
  | r, [] => [r]
  | r, x :: s => r :: rowsT (front x r) s
def semRowsBy (ds : List D) (Q : Sl → Prop) : Prop := ∃ r s : List Str, ds = [tupL r, lstL s] ∧ GRow r ∧ (∀ x ∈ s, x ∈ r) ∧ s.length ≤ 1000 ∧ Q (.ow ((rowsT r s).map tupL))
theorem hist_of {r s w : List Str} {es : List Ev} (g : GRow r) (hs : ∀ x ∈ s, x ∈ r) (hw : ∀ x ∈ w, x ∈ r) (t : Tells (placesL r s) (placesL r w) es) :
    (runT r es).2 = s ∧ (runH r es).2 = w ∧ (∀ e ∈ es, e.ok r ∧ e.un) ∧ es.length = s.length := by
  refine ⟨?_, ?_, tells_ok t (places_lt s r g.nd hs) (places_lt w r g.nd hw), ?_⟩
  · rw [tells_runT (r := r) t, takeAll_said, said_places g.nd hs]
  · rw [tells_runH t, takeAll_said, said_places g.nd hw]
  · rw [tells_len t, placesL_len]
theorem tells_diff : ∀ {ps qs : List Nat} {es : List Ev}, Tells ps qs es → ps.length ≤ qs.length + faultsE es ∧ qs.length ≤ ps.length + faultsE es
  | _, _, _, .nil => ⟨Nat.le_refl _, Nat.le_refl _⟩
  | _, _, _, .place (es := es) t => by
    have := tells_diff t
    simp only [List.length_cons, faultsE, costE, Ev.isP, if_true]; omega
  | _, _, _, .as' (es := es) _ t => by
    have := tells_diff t
    simp only [List.length_cons, faultsE, costE, Ev.isP, Bool.false_eq_true, if_false]; omega
  | _, _, _, .lost (es := es) t => by
    have := tells_diff t
    simp only [List.length_cons, faultsE, costE, Ev.isP, Bool.false_eq_true, if_false]; omega
  | _, _, _, .twice (es := es) t => by
    have := tells_diff t
    simp only [List.length_cons, faultsE, costE, Ev.isP, Bool.false_eq_true, if_false]; omega
theorem few_diff {ps qs : List Nat} {n : Nat} (h : fewF ps qs = some n) : ps.length ≤ qs.length + n ∧ qs.length ≤ ps.length + n := by
  obtain ⟨es, t, f⟩ := few_is h
  have := tells_diff t
  omega
theorem tells_self : ∀ ps : List Nat, Tells ps ps (ps.map Ev.place)
  | [] => .nil
  | _ :: ps => .place (tells_self ps)
theorem few_self (ps : List Nat) : fewF ps ps = some 0 := by
  obtain ⟨n, h1, h2⟩ := few_le (tells_self ps)
  rw [places_no fun e he => by obtain ⟨p, _, rfl⟩ := List.mem_map.mp he; rfl] at h2
  rw [h1, Nat.le_zero.mp h2]
theorem tells_zero : ∀ {ps qs : List Nat} {es : List Ev}, Tells ps qs es → faultsE es = 0 → ps = qs
  | _, _, _, .nil, _ => rfl
  | _, _, _, .place t, h => by
    rw [tells_zero t (by simp only [faultsE] at h; omega)]
  | _, _, _, .as' _ t, h => by simp [faultsE, costE, Ev.isP] at h
  | _, _, _, .lost t, h => by simp [faultsE, costE, Ev.isP] at h
  | _, _, _, .twice t, h => by simp [faultsE, costE, Ev.isP] at h
theorem few_zero {ps qs : List Nat} : fewF ps qs = some 0 ↔ ps = qs := by
  refine ⟨fun h => ?_, fun h => h ▸ few_self ps⟩
  obtain ⟨es, t, f⟩ := few_is h
  exact tells_zero t f
theorem placesL_inj {r s w : List Str} (nd : r.Nodup) (hs : ∀ x ∈ s, x ∈ r) (hw : ∀ x ∈ w, x ∈ r) : placesL r s = placesL r w ↔ s = w := by
  refine ⟨fun h => ?_, fun h => by rw [h]⟩
  rw [← said_places nd hs, ← said_places nd hw, h]
theorem tells_ex : ∀ {ps qs : List Nat}, qs.length ≤ ps.length → ∃ es, Tells ps qs es
  | [], [], _ => ⟨[], .nil⟩
  | [], _ :: _, h => by simp at h
  | p :: ps, [], _ => by
    obtain ⟨es, t⟩ := tells_ex (ps := ps) (qs := []) (Nat.zero_le _)
    exact ⟨_, .lost t⟩
  | p :: ps, q :: qs, h => by
    obtain ⟨es, t⟩ := tells_ex (ps := ps) (qs := qs) (by simpa using h)
    by_cases c : p = q
    · subst c; exact ⟨_, .place t⟩
    · exact ⟨_, .as' c t⟩
theorem tells_lost : ∀ {ps : List Nat} {es : List Ev}, Tells ps [] es → es = ps.map Ev.lost ∧ faultsE es = ps.length
  | _, _, .nil => ⟨rfl, rfl⟩
  | _, _, .lost t => by
    obtain ⟨h1, h2⟩ := tells_lost t
    refine ⟨by rw [h1]; rfl, ?_⟩
    show costE _ + faultsE _ = _
    rw [h2]; simp [costE, Ev.isP]; omega
theorem twice_faults : ∀ (ps : List Nat), faultsE (ps.map Ev.twice) = ps.length ∧ (∀ r : List Str, (runH r (ps.map Ev.twice)).2.length = 2 * ps.length)
  | [] => ⟨rfl, fun _ => rfl⟩
  | p :: ps => by
    obtain ⟨h1, h2⟩ := twice_faults ps
    refine ⟨?_, fun r => ?_⟩
    · show costE _ + faultsE _ = _
      rw [h1]; simp [costE, Ev.isP]; omega
    · show ((takeAll r [p, p]).2 ++ (runH (takeAll r [p, p]).1 (ps.map Ev.twice)).2).length = _
      rw [List.length_append, h2, takeAll_said, saidL_len]; simp; omega

theorem rows_at : ∀ (s u : List Str) (k : Nat), u.Nodup → (∀ x ∈ s, x ∈ u) → (h : k < s.length) → ∃ v, (rowsT u s)[k]? = some v ∧ v.Perm u ∧ (placesL u s)[k]? = some (ixS s[k] v)
  | x :: s, u, 0, nd, hs, _ => ⟨u, rfl, .refl _, rfl⟩
  | x :: s, u, k + 1, nd, hs, h => by
    have hx := hs x List.mem_cons_self
    have pu := front_perm hx nd
    obtain ⟨v, h1, h2, h3⟩ := rows_at s (front x u) k (pu.nodup_iff.mpr nd) (fun y hy => pu.mem_iff.mpr (hs y (List.mem_cons_of_mem _ hy))) (by simpa using h)
    exact ⟨v, h1, h2.trans pu, h3⟩
theorem rowsT_len : ∀ (s u : List Str), (rowsT u s).length = s.length + 1
  | [], _ => rfl
  | x :: s, u => congrArg (· + 1) (rowsT_len s (front x u))
theorem rangeC_down (m : Nat) : rangeC ((m : Int) - 1) (-1) m = (List.range m).reverse.map fun (k : Nat) => PyData.int k := by
  unfold rangeC
  apply List.ext_getElem
  · simp
  · intro i h1 h2
    have hi : i < m := by simpa using h1
    rw [List.getElem_map, List.getElem_map, List.getElem_reverse, List.getElem_range, List.getElem_range, List.length_range]
    congr 1; omega
theorem row_nil (qs : List Nat) : (List.replicate qs.length [PyData.none]).flatten ++ [PyData.int 0] = rowL [] qs := by
  unfold rowL
  rw [List.range_succ, List.map_append, show (List.replicate qs.length [PyData.none]).flatten = List.replicate qs.length PyData.none by
    generalize qs.length = n; induction n with | zero => rfl | succ n ih => rw [List.replicate_succ, List.flatten_cons, ih]; rfl]
  congr 1
  · apply List.ext_getElem
    · simp
    · intro i h1 h2
      rw [List.getElem_replicate, List.getElem_map, List.getElem_range]
      have hi : i < qs.length := by simpa using h1
      rw [List.drop_eq_getElem_cons hi]; rfl
  · rw [List.map_singleton, List.drop_length]; rfl
theorem below_at {ss qs : List Nat} {a : Nat} (h : a ≤ qs.length) : oIx (.list (rowL ss qs ++ [.none, .none])) (.int a) = some (optD (fewF ss (qs.drop a))) := by
  show atI _ _ = _
  have l := rowL_len ss qs
  rw [TN.atI_nat (by rw [List.length_append]; omega), List.getElem_append_left (by omega)]
  unfold rowL
  rw [List.getElem_map, List.getElem_range]

theorem min_ways {xs : List Nat} (ne : xs ≠ []) : oMinI [.list (xs.map fun (k : Nat) => PyData.int k)] = some (optD (minO xs)) := by
  show (intsOf (xs.map fun (k : Nat) => PyData.int k)).bind _ = _
  rw [intsOf_nat, Option.bind_some, if_neg (fun z => ne (List.map_eq_nil_iff.mp z))]
  obtain ⟨y, hy⟩ := List.exists_mem_of_ne_nil xs ne
  obtain ⟨n, e, _⟩ := minO_some hy
  obtain ⟨h1, h2⟩ := minO_is e
  rw [minL_is (xs := xs.map fun (k : Nat) => (k : Int)) (m := n) (List.mem_map.mpr ⟨n, h1, rfl⟩) fun y hy => by
    obtain ⟨k, hk, rfl⟩ := List.mem_map.mp hy
    have := h2 k hk
    show (n : Int) ≤ k
    omega, e]
  rfl
theorem get_ix {v : List Str} {p : Nat} {x : Str} (nd : v.Nodup) (hp : p < v.length) (hx : x ∈ v) : (v.getD p "" = x) ↔ p = ixS x v := by
  refine ⟨fun e => ?_, fun e => by rw [e, ix_getD hx]⟩
  exact getD_nd nd hp (idx_lt hx) (e.trans (ix_getD hx).symm)
theorem compP_fit {α : Type} {j1 j2 : Nat} {vs : List Nat} {C : TDT} {A : TDE} {Q : List D → List Sl → Prop} {ρ0 : List Sl} (e1 e2 o : α → D) (p : α → Bool)
    (own : (vs.all fun v => plainAt v ρ0) = true) (back : ∀ a b, backD ρ0 (((wipeD ρ0 vs).set j1 (.sh a)).set j2 (.sh b)) vs = ρ0)
    (test : ∀ x (R : Bool → List Sl → Prop), R (p x) (((wipeD ρ0 vs).set j1 (.sh (e1 x))).set j2 (.sh (e2 x))) → C (((wipeD ρ0 vs).set j1 (.sh (e1 x))).set j2 (.sh (e2 x))) R)
    (turn : ∀ x (R : D → List Sl → Prop), p x = true → R (o x) (((wipeD ρ0 vs).set j1 (.sh (e1 x))).set j2 (.sh (e2 x))) → A (((wipeD ρ0 vs).set j1 (.sh (e1 x))).set j2 (.sh (e2 x))) R) :
    ∀ (xs : List α) (acc : List D), acc.length + xs.length ≤ 100000 → Q (acc ++ (xs.filter p).map o) ρ0 → compP j1 j2 vs C A Q (xs.map fun x => .tuple [e1 x, e2 x]) acc ρ0
  | [], acc, _, q => by simpa [compP] using q
  | x :: xs, acc, few, q => by
    rw [List.length_cons] at few
    refine ⟨_, _, rfl, own, test x _ ?_⟩
    cases hp : p x with
    | true =>
      refine ⟨fun _ => turn x _ hp ⟨by omega, ?_⟩, (fun z => by cases z)⟩
      rw [back]
      refine compP_fit e1 e2 o p own back test turn xs (acc ++ [o x]) (by rw [List.length_append]; simp; omega) ?_
      rw [List.filter_cons_of_pos hp] at q
      simpa using q
    | false =>
      refine ⟨(fun z => by cases z), fun _ => ?_⟩
      rw [back]
      refine compP_fit e1 e2 o p own back test turn xs acc (by omega) ?_
      rw [List.filter_cons_of_neg (by rw [hp]; simp)] at q
      exact q
theorem ways_filter (f : Nat → Option Nat) : ∀ l : List (Ev × Nat), ((l.filter fun em => (f em.2).isSome).map fun em => PyData.int (((f em.2).getD 0 : Nat) + (costE em.1 : Nat) : Int)) = ((wF f l).map (·.1)).map fun (k : Nat) => PyData.int k
  | [] => rfl
  | em :: l => by
    cases h : f em.2 with
    | none =>
      rw [List.filter_cons_of_neg (by simp [h]), ways_filter f l, show wF f (em :: l) = wF f l from wF_none (e := em.1) (m := em.2) h]
    | some n =>
      rw [List.filter_cons_of_pos (by simp [h]), List.map_cons, ways_filter f l, show wF f (em :: l) = (n + costE em.1, em.1, em.2) :: wF f l from wF_some (e := em.1) (m := em.2) h, List.map_cons, List.map_cons, h]
      rfl
theorem evsAt_cons (p q : Nat) (qs : List Nat) : evsAt p (q :: qs) = (.lost p, 0) :: (if q = p then (.place p, 1) else (.as' p q, 1)) :: (if q = p ∧ qs.head? = some p then [(.twice p, 2)] else []) := rfl

def semOwnBagS (xs ds : List D) (Q : Sl → List D → Prop) : Prop := ∃ n : Int, Spl n xs ∧ n + 1000000 ≤ big ∧ ds = [] ∧ ∀ ys : List D, Spl (n + 100000) ys → Q (.sh (.bool true)) ys
end TN
set_option Elab.async false
set_option linter.all false
set_option maxRecDepth 100000
set_option maxHeartbeats 2000000
set_option autoImplicit false
namespace K38
open PySem PySem.Spec PyProof.Rows L2 TN
def topS (i : Nat) : Stmt := PySem.Challenge.pw_twonames_k38_explained_long.main.body.getD i (.Pass ⟨0, 0, 0, 0⟩)
structure Blt (mg : Str → Option Value) : Prop where
  abs : mg "abs" = none
  all : mg "all" = none
  enumerate : mg "enumerate" = none
  len : mg "len" = none
  list : mg "list" = none
  max : mg "max" = none
  min : mg "min" = none
  range : mg "range" = none
  repr : mg "repr" = none
  reversed : mg "reversed" = none
  set : mg "set" = none
  str : mg "str" = none
  tuple : mg "tuple" = none
  type : mg "type" = none
section
variable {P : Program} {w : World} {K : PySem.W.Frag} {mg : Str → Option Value} {base : Heap}
abbrev s_is_letter : Stmt := topS 6
theorem sc_is_letter : FnScope ["thing"] ["thing"] (defScope s_is_letter) := ⟨rfl, rfl, rfl, by decide +kernel, rfl, by decide +kernel, by decide +kernel⟩
theorem ok_is_letter (b : Blt mg) {f : Addr} {fd : FuncData} (F : Fun K "is_letter" "is_letter" s_is_letter f fd) : FnG P w K mg base CX0 1 f fd ["thing"] (sp0 K semLetter) := by
  refine fn0 (k := 0) F sc_is_letter (fun ds Q h => by obtain ⟨x, rfl, _⟩ := h; rfl) (fun cdv A outer s H E hg hr =>
    have nd := sc_is_letter.nd
    have hu := hr.units
    have hu1 := hu_of hr
    (pss_one (ps_ret (pe_and (pe_cmpR op_isTyB (pe_callTy call_typeF (by rfl) b.type (by decide +kernel) (pa_cons (pv 0) pa_nil)) (pe_bltn (v := .ty "str") (by rfl) b.str (by decide +kernel) rfl) (nomark _)) (pe_and (pe_cmpR (op_eqD hu) (pe_callB call_len (by rfl) b.len (by decide +kernel) (pa_cons (pv 0) pa_nil)) pe_int (nomark _)) (pe_one (pe_chain op_leU op_leU pe_str (pv 0) pe_str)))))))
    (ls_ret (LP.e (lp_andV (LP.m (lp_typeIs (LP.m (lp_var (i := 0))))) (lp_andV (LP.m (lp_op (LP.m (lp_cb (lms_cons (LP.m (lp_var (i := 0))) lms_nil) rc_len)) (LP.m lp_int) rb_eq)) (lp_chain (LP.m lp_str) (LP.m (lp_var (i := 0))) (LP.m lp_str) rb_U rb_U))))) ?_
  rintro ds Q ⟨x, rfl, hx, q⟩
  (simp only [TN.sSeq, TN.sNext, TN.sDrop, TN.sRet, TN.sRetL, TN.sRetN, TN.sIf, TN.sAsg, TN.sAsgL, TN.sStore, TN.sForL, TN.sForT, TN.sForR, TN.sForR2, TN.tgN, TN.tgTup, TN.tgCons, TN.tgNil, TN.dP, TN.dB, TN.dCall, TN.dCallL, TN.dCallB, TN.dCallBL, TN.dCons, TN.dNil, TN.dTup, TN.dLst, TN.dKeep, TN.dVar, TN.fVar, TN.fPeek, TN.fC, TN.f2, TN.d2, TN.d2V, TN.f1, TN.d1, TN.fCB, TN.dCB, TN.dCBL, TN.fNil, TN.fCons, TN.asBool, TN.dTest, TN.bAnd, TN.bOr, TN.bNot, TN.dAnd, TN.dOr, TN.dNot, TN.fAndV, TN.fOrV, TN.fNotV, TN.dAndV, TN.dOrV, TN.dNotV, TN.dIfE, TN.dIfL, TN.fIfE, TN.fChain, TN.fSlice, TN.dSlice, TN.fNo, TN.fEnd, TN.dAppend, TN.dInsert, TN.dPopAt, TN.ownL, TN.start0, TN.begB, TN.backD, TN.wipeD, TN.dYes, TN.sNever, List.getElem?_cons_zero, List.getElem?_cons_succ, List.set_cons_zero, List.set_cons_succ, List.map_cons, List.map_nil, List.length_cons, List.length_nil, List.cons_append, List.nil_append, List.replicate_succ, List.replicate_zero, Option.map_some, Option.map_none, Nat.add_one_sub_one, Nat.sub_zero, Nat.sub_self, Nat.zero_add, reduceCtorEq, Option.some.injEq, PyData.int.injEq, PyData.str.injEq, PyData.bool.injEq, PyData.list.injEq, PyData.tuple.injEq, Sl.sh.injEq, Sl.ow.injEq, List.cons.injEq, exists_eq_left', exists_eq_left, true_implies, false_implies, and_true, true_and, forall_const, Option.isSome_some, TN.imp_ff, TN.imp_tf, TN.imp_tt, exists_eq_left, exists_eq_left', exists_eq])
  obtain ⟨c, rfl, h1, h2⟩ := hx
  have ea : Str.ofString "a" = ⟨#[97]⟩ := by decide +kernel
  have ez : Str.ofString "z" = ⟨#[122]⟩ := by decide +kernel
  have l1 : oLen [.str ⟨#[c]⟩] = some (.int 1) := rfl
  refine ⟨.bool true, ?_, q⟩
  (simp only [Ev.d, TN.ix0, TN.ix1, TN.ix2, TN.ixl0, TN.ixl1, TN.ixl2, TN.ixm2, TN.ixm3, TN.len2, TN.len3, TN.neg1, TN.ty_tup, TN.ty_lst, TN.ty_str, TN.ty_int, TN.oLen_tupL, TN.oLen_lstL, TN.oU_int, TN.oEq_int, TN.oNe_int, decide_true, Bool.not_true, Bool.not_false, reduceCtorEq, Option.some.injEq, PyData.int.injEq, PyData.str.injEq, PyData.bool.injEq, PyData.list.injEq, PyData.tuple.injEq, exists_eq_left', TN.imp_ff, TN.imp_tf, TN.imp_tt, true_and, and_true, forall_const, true_implies, false_implies, TN.w_place_place, TN.n_place_place, TN.w_place_name, TN.n_place_name, TN.w_place_lost, TN.n_place_lost, TN.w_place_twice, TN.n_place_twice, TN.w_place_as, TN.n_place_as, TN.w_name_place, TN.n_name_place, TN.w_name_name, TN.n_name_name, TN.w_name_lost, TN.n_name_lost, TN.w_name_twice, TN.n_name_twice, TN.w_name_as, TN.n_name_as, TN.w_lost_place, TN.n_lost_place, TN.w_lost_name, TN.n_lost_name, TN.w_lost_lost, TN.n_lost_lost, TN.w_lost_twice, TN.n_lost_twice, TN.w_lost_as, TN.n_lost_as, TN.w_twice_place, TN.n_twice_place, TN.w_twice_name, TN.n_twice_name, TN.w_twice_lost, TN.n_twice_lost, TN.w_twice_twice, TN.n_twice_twice, TN.w_twice_as, TN.n_twice_as, TN.w_as_place, TN.n_as_place, TN.w_as_name, TN.n_as_name, TN.w_as_lost, TN.n_as_lost, TN.w_as_twice, TN.n_as_twice, TN.w_as_as, TN.n_as_as])
  simp only [l1, oEq_int, oU_str, ea, ez, decide_true]
  have a1 : ¬ ([c] < [97]) := by rw [List.cons_lt_cons_iff]; simp; omega
  have a2 : ¬ ([122] < [c]) := by rw [List.cons_lt_cons_iff]; simp; omega
  simp [a1, a2]

abbrev s_is_row : Stmt := topS 7
theorem sc_is_row : FnScope ["thing"] ["thing"] (defScope s_is_row) := ⟨rfl, rfl, rfl, by decide +kernel, rfl, by decide +kernel, by decide +kernel⟩
theorem ok_is_row (b : Blt mg) (h_are_unlike_letters : Has P w K mg base "are_unlike_letters" 2 ["parts"] (sp0 K semUnlikeL)) {tkM : Tok} (c_MOST_LETTERS : mg "MOST_LETTERS" = some (.int 16 tkM)) {f : Addr} {fd : FuncData} (F : Fun K "is_row" "is_row" s_is_row f fd) : FnG P w K mg base CX0 3 f fd ["thing"] (sp0 K semRow) := by
  refine fn0 (k := 2) F sc_is_row (fun ds Q h => by obtain ⟨x, rfl, _⟩ := h; rfl) (fun cdv A outer s H E hg hr =>
    have nd := sc_is_row.nd
    have hu := hr.units
    have hu1 := hu_of hr
    (pss_cons (ps_if (PW.pt (pw_or (pt_cmpR op_notTyB (pe_callTy call_typeF (by rfl) b.type (by decide +kernel) (pa_cons (pv 0) pa_nil)) (pe_bltn (v := .ty "tuple") (by rfl) b.tuple (by decide +kernel) rfl) (nomark _)) (pw_or1 (pt_not (pt_chain op_leU op_leU pe_int (pe_callB call_len (by rfl) b.len (by decide +kernel) (pa_cons (pv 0) pa_nil)) (pe_glob (v := .int 16) (by rfl) c_MOST_LETTERS ⟨_, rfl⟩)))))) (pss_one (ps_ret pe_bl)) pss_nil)
 (pss_one (ps_ret (pe_has (h_are_unlike_letters.up (by decide)) hg hr (by rfl) (pa_cons (pv 0) pa_nil))))))
    (ls_seq (ls_if (LB.g (lb_or (lb_test (LP.m (lp_typeNot (LP.m (lp_var (i := 0)))))) (lb_not (lb_test (LP.m (lp_chain (LP.m lp_int) (LP.m (lp_cb (lms_cons (LP.m (lp_var (i := 0))) lms_nil) rc_len)) (LP.m lp_int) rb_U rb_U)))))) (ls_ret (LP.e lp_bl)) ls_next)
 (ls_ret (le_call (les_cons (LP.e (lp_var (i := 0))) les_nil)))) ?_
  rintro ds Q ⟨r, rfl, hr, q⟩
  (simp only [TN.sSeq, TN.sNext, TN.sDrop, TN.sRet, TN.sRetL, TN.sRetN, TN.sIf, TN.sAsg, TN.sAsgL, TN.sStore, TN.sForL, TN.sForT, TN.sForR, TN.sForR2, TN.tgN, TN.tgTup, TN.tgCons, TN.tgNil, TN.dP, TN.dB, TN.dCall, TN.dCallL, TN.dCallB, TN.dCallBL, TN.dCons, TN.dNil, TN.dTup, TN.dLst, TN.dKeep, TN.dVar, TN.fVar, TN.fPeek, TN.fC, TN.f2, TN.d2, TN.d2V, TN.f1, TN.d1, TN.fCB, TN.dCB, TN.dCBL, TN.fNil, TN.fCons, TN.asBool, TN.dTest, TN.bAnd, TN.bOr, TN.bNot, TN.dAnd, TN.dOr, TN.dNot, TN.fAndV, TN.fOrV, TN.fNotV, TN.dAndV, TN.dOrV, TN.dNotV, TN.dIfE, TN.dIfL, TN.fIfE, TN.fChain, TN.fSlice, TN.dSlice, TN.fNo, TN.fEnd, TN.dAppend, TN.dInsert, TN.dPopAt, TN.ownL, TN.start0, TN.begB, TN.backD, TN.wipeD, TN.dYes, TN.sNever, List.getElem?_cons_zero, List.getElem?_cons_succ, List.set_cons_zero, List.set_cons_succ, List.map_cons, List.map_nil, List.length_cons, List.length_nil, List.cons_append, List.nil_append, List.replicate_succ, List.replicate_zero, Option.map_some, Option.map_none, Nat.add_one_sub_one, Nat.sub_zero, Nat.sub_self, Nat.zero_add, reduceCtorEq, Option.some.injEq, PyData.int.injEq, PyData.str.injEq, PyData.bool.injEq, PyData.list.injEq, PyData.tuple.injEq, Sl.sh.injEq, Sl.ow.injEq, List.cons.injEq, exists_eq_left', exists_eq_left, true_implies, false_implies, and_true, true_and, forall_const, Option.isSome_some, TN.imp_ff, TN.imp_tf, TN.imp_tt, exists_eq_left, exists_eq_left', exists_eq])
  have n1 := hr.few
  have n2 : 0 < r.length := List.length_pos_iff.mpr hr.ne
  have a1 : ((1 : Int) ≤ r.length) := by omega
  have a2 : ((r.length : Int) ≤ 16) := by omega
  refine ⟨false, ?_, (fun z => by cases z), fun _ => ⟨r, rfl, hr, _, rfl, q⟩⟩
  (simp only [Ev.d, TN.ix0, TN.ix1, TN.ix2, TN.ixl0, TN.ixl1, TN.ixl2, TN.ixm2, TN.ixm3, TN.len2, TN.len3, TN.neg1, TN.ty_tup, TN.ty_lst, TN.ty_str, TN.ty_int, TN.oLen_tupL, TN.oLen_lstL, TN.oU_int, TN.oEq_int, TN.oNe_int, decide_true, Bool.not_true, Bool.not_false, reduceCtorEq, Option.some.injEq, PyData.int.injEq, PyData.str.injEq, PyData.bool.injEq, PyData.list.injEq, PyData.tuple.injEq, exists_eq_left', TN.imp_ff, TN.imp_tf, TN.imp_tt, true_and, and_true, forall_const, true_implies, false_implies, TN.w_place_place, TN.n_place_place, TN.w_place_name, TN.n_place_name, TN.w_place_lost, TN.n_place_lost, TN.w_place_twice, TN.n_place_twice, TN.w_place_as, TN.n_place_as, TN.w_name_place, TN.n_name_place, TN.w_name_name, TN.n_name_name, TN.w_name_lost, TN.n_name_lost, TN.w_name_twice, TN.n_name_twice, TN.w_name_as, TN.n_name_as, TN.w_lost_place, TN.n_lost_place, TN.w_lost_name, TN.n_lost_name, TN.w_lost_lost, TN.n_lost_lost, TN.w_lost_twice, TN.n_lost_twice, TN.w_lost_as, TN.n_lost_as, TN.w_twice_place, TN.n_twice_place, TN.w_twice_name, TN.n_twice_name, TN.w_twice_lost, TN.n_twice_lost, TN.w_twice_twice, TN.n_twice_twice, TN.w_twice_as, TN.n_twice_as, TN.w_as_place, TN.n_as_place, TN.w_as_name, TN.n_as_name, TN.w_as_lost, TN.n_as_lost, TN.w_as_twice, TN.n_as_twice, TN.w_as_as, TN.n_as_as])
  simp [a1, a2]

abbrev s_are_unlike_letters : Stmt := topS 8
theorem sc_are_unlike_letters : FnScope ["parts", "part"] ["parts"] (defScope s_are_unlike_letters) := ⟨rfl, rfl, rfl, by decide +kernel, rfl, by decide +kernel, by decide +kernel⟩
theorem ok_are_unlike_letters (b : Blt mg) (h_is_letter : Has P w K mg base "is_letter" 1 ["thing"] (sp0 K semLetter)) {f : Addr} {fd : FuncData} (F : Fun K "are_unlike_letters" "are_unlike_letters" s_are_unlike_letters f fd) : FnG P w K mg base CX0 2 f fd ["parts"] (sp0 K semUnlikeL) := by
  refine fn0 (k := 1) F sc_are_unlike_letters (fun ds Q h => by obtain ⟨r, rfl, _⟩ := h; rfl) (fun cdv A outer s H E hg hr =>
    have nd := sc_are_unlike_letters.nd
    have hu := hr.units
    have hu1 := hu_of hr
    (pss_one (ps_ret (pe_and (pe_callB (cr_all rfl) (by rfl) b.all (by decide +kernel) (pa_cons (pe_lc (own := [("part", 1)]) (g := gName 1) (tt := tYes) rfl nd (pi_tup (pv 0)) (blkOk_by (own := [("part", 1)]) (N := ["parts", "part"]) (sc := defScope s_are_unlike_letters) (by decide +kernel)) (fun _ _ _ _ _ => pg_name (i := 1) nd rfl (by first | exact Or.inl rfl | exact Or.inr rfl)) (fun _ _ _ _ _ => by exact pts_nil) (fun _ _ _ _ _ => by exact (pe_has (h_is_letter.up (by decide)) hg hr (by rfl) (pa_cons (pv 1) pa_nil)))) pa_nil)) (pe_one (pe_cmpR (op_eqD hu) (pe_lenSetT rfl (by rfl) b.len (by rfl) b.set (pv 0)) (pe_callB call_len (by rfl) b.len (by decide +kernel) (pa_cons (pv 0) pa_nil)) (nomark _)))))))
    (ls_ret (le_andV (le_cb (les_cons (LL.e (ll_compT (j := 1) (vs := [1]) (by decide) (by decide) (LP.e (lp_var (i := 0))) lt_yes (le_call (les_cons (LP.e (lp_var (i := 1))) les_nil)))) les_nil) rc_all) (LP.e (lp_op (LP.m (lp_lenSet (LP.m (lp_var (i := 0))))) (LP.m (lp_cb (lms_cons (LP.m (lp_var (i := 0))) lms_nil) rc_len)) rb_eq)))) ?_
  rintro ds Q ⟨r, rfl, hr, q⟩
  (simp only [TN.sSeq, TN.sNext, TN.sDrop, TN.sRet, TN.sRetL, TN.sRetN, TN.sIf, TN.sAsg, TN.sAsgL, TN.sStore, TN.sForL, TN.sForT, TN.sForR, TN.sForR2, TN.tgN, TN.tgTup, TN.tgCons, TN.tgNil, TN.dP, TN.dB, TN.dCall, TN.dCallL, TN.dCallB, TN.dCallBL, TN.dCons, TN.dNil, TN.dTup, TN.dLst, TN.dKeep, TN.dVar, TN.fVar, TN.fPeek, TN.fC, TN.f2, TN.d2, TN.d2V, TN.f1, TN.d1, TN.fCB, TN.dCB, TN.dCBL, TN.fNil, TN.fCons, TN.asBool, TN.dTest, TN.bAnd, TN.bOr, TN.bNot, TN.dAnd, TN.dOr, TN.dNot, TN.fAndV, TN.fOrV, TN.fNotV, TN.dAndV, TN.dOrV, TN.dNotV, TN.dIfE, TN.dIfL, TN.fIfE, TN.fChain, TN.fSlice, TN.dSlice, TN.fNo, TN.fEnd, TN.dAppend, TN.dInsert, TN.dPopAt, TN.ownL, TN.start0, TN.begB, TN.backD, TN.wipeD, TN.dYes, TN.sNever, List.getElem?_cons_zero, List.getElem?_cons_succ, List.set_cons_zero, List.set_cons_succ, List.map_cons, List.map_nil, List.length_cons, List.length_nil, List.cons_append, List.nil_append, List.replicate_succ, List.replicate_zero, Option.map_some, Option.map_none, Nat.add_one_sub_one, Nat.sub_zero, Nat.sub_self, Nat.zero_add, reduceCtorEq, Option.some.injEq, PyData.int.injEq, PyData.str.injEq, PyData.bool.injEq, PyData.list.injEq, PyData.tuple.injEq, Sl.sh.injEq, Sl.ow.injEq, List.cons.injEq, exists_eq_left', exists_eq_left, true_implies, false_implies, and_true, true_and, forall_const, Option.isSome_some, TN.imp_ff, TN.imp_tf, TN.imp_tt, exists_eq_left, exists_eq_left', exists_eq])
  have n1 := hr.few
  have n2 : 0 < r.length := List.length_pos_iff.mpr hr.ne
  refine ⟨_, rfl, _, rfl, ?_⟩
  refine comp_all (fun d => ∃ x ∈ r, d = .str x) (fun _ => .bool true) rfl (fun _ => rfl) ?_ _ _ ?_ ?_ ?_
  · rintro d R ⟨x, hx, rfl⟩ k
    (simp only [TN.sSeq, TN.sNext, TN.sDrop, TN.sRet, TN.sRetL, TN.sRetN, TN.sIf, TN.sAsg, TN.sAsgL, TN.sStore, TN.sForL, TN.sForT, TN.sForR, TN.sForR2, TN.tgN, TN.tgTup, TN.tgCons, TN.tgNil, TN.dP, TN.dB, TN.dCall, TN.dCallL, TN.dCallB, TN.dCallBL, TN.dCons, TN.dNil, TN.dTup, TN.dLst, TN.dKeep, TN.dVar, TN.fVar, TN.fPeek, TN.fC, TN.f2, TN.d2, TN.d2V, TN.f1, TN.d1, TN.fCB, TN.dCB, TN.dCBL, TN.fNil, TN.fCons, TN.asBool, TN.dTest, TN.bAnd, TN.bOr, TN.bNot, TN.dAnd, TN.dOr, TN.dNot, TN.fAndV, TN.fOrV, TN.fNotV, TN.dAndV, TN.dOrV, TN.dNotV, TN.dIfE, TN.dIfL, TN.fIfE, TN.fChain, TN.fSlice, TN.dSlice, TN.fNo, TN.fEnd, TN.dAppend, TN.dInsert, TN.dPopAt, TN.ownL, TN.start0, TN.begB, TN.backD, TN.wipeD, TN.dYes, TN.sNever, List.getElem?_cons_zero, List.getElem?_cons_succ, List.set_cons_zero, List.set_cons_succ, List.map_cons, List.map_nil, List.length_cons, List.length_nil, List.cons_append, List.nil_append, List.replicate_succ, List.replicate_zero, Option.map_some, Option.map_none, Nat.add_one_sub_one, Nat.sub_zero, Nat.sub_self, Nat.zero_add, reduceCtorEq, Option.some.injEq, PyData.int.injEq, PyData.str.injEq, PyData.bool.injEq, PyData.list.injEq, PyData.tuple.injEq, Sl.sh.injEq, Sl.ow.injEq, List.cons.injEq, exists_eq_left', exists_eq_left, true_implies, false_implies, and_true, true_and, forall_const, Option.isSome_some, TN.imp_ff, TN.imp_tf, TN.imp_tt, exists_eq_left, exists_eq_left', exists_eq])
    exact ⟨x, rfl, hr.let' x hx, _, rfl, k⟩
  · intro d hd
    obtain ⟨x, hx, rfl⟩ := List.mem_map.mp hd
    exact ⟨x, hx, rfl⟩
  · simp; omega
  · rw [List.nil_append]
    refine ⟨_, oAll_tt, true, rfl, fun _ => ⟨.bool true, ?_, q⟩, (fun z => by cases z)⟩
    (simp only [TN.sSeq, TN.sNext, TN.sDrop, TN.sRet, TN.sRetL, TN.sRetN, TN.sIf, TN.sAsg, TN.sAsgL, TN.sStore, TN.sForL, TN.sForT, TN.sForR, TN.sForR2, TN.tgN, TN.tgTup, TN.tgCons, TN.tgNil, TN.dP, TN.dB, TN.dCall, TN.dCallL, TN.dCallB, TN.dCallBL, TN.dCons, TN.dNil, TN.dTup, TN.dLst, TN.dKeep, TN.dVar, TN.fVar, TN.fPeek, TN.fC, TN.f2, TN.d2, TN.d2V, TN.f1, TN.d1, TN.fCB, TN.dCB, TN.dCBL, TN.fNil, TN.fCons, TN.asBool, TN.dTest, TN.bAnd, TN.bOr, TN.bNot, TN.dAnd, TN.dOr, TN.dNot, TN.fAndV, TN.fOrV, TN.fNotV, TN.dAndV, TN.dOrV, TN.dNotV, TN.dIfE, TN.dIfL, TN.fIfE, TN.fChain, TN.fSlice, TN.dSlice, TN.fNo, TN.fEnd, TN.dAppend, TN.dInsert, TN.dPopAt, TN.ownL, TN.start0, TN.begB, TN.backD, TN.wipeD, TN.dYes, TN.sNever, List.getElem?_cons_zero, List.getElem?_cons_succ, List.set_cons_zero, List.set_cons_succ, List.map_cons, List.map_nil, List.length_cons, List.length_nil, List.cons_append, List.nil_append, List.replicate_succ, List.replicate_zero, Option.map_some, Option.map_none, Nat.add_one_sub_one, Nat.sub_zero, Nat.sub_self, Nat.zero_add, reduceCtorEq, Option.some.injEq, PyData.int.injEq, PyData.str.injEq, PyData.bool.injEq, PyData.list.injEq, PyData.tuple.injEq, Sl.sh.injEq, Sl.ow.injEq, List.cons.injEq, exists_eq_left', exists_eq_left, true_implies, false_implies, and_true, true_and, forall_const, Option.isSome_some, TN.imp_ff, TN.imp_tf, TN.imp_tt, exists_eq_left, exists_eq_left', exists_eq])
    rw [oLenSet_nd hr.nd (by omega)]
    (simp only [Ev.d, TN.ix0, TN.ix1, TN.ix2, TN.ixl0, TN.ixl1, TN.ixl2, TN.ixm2, TN.ixm3, TN.len2, TN.len3, TN.neg1, TN.ty_tup, TN.ty_lst, TN.ty_str, TN.ty_int, TN.oLen_tupL, TN.oLen_lstL, TN.oU_int, TN.oEq_int, TN.oNe_int, decide_true, Bool.not_true, Bool.not_false, reduceCtorEq, Option.some.injEq, PyData.int.injEq, PyData.str.injEq, PyData.bool.injEq, PyData.list.injEq, PyData.tuple.injEq, exists_eq_left', TN.imp_ff, TN.imp_tf, TN.imp_tt, true_and, and_true, forall_const, true_implies, false_implies, TN.w_place_place, TN.n_place_place, TN.w_place_name, TN.n_place_name, TN.w_place_lost, TN.n_place_lost, TN.w_place_twice, TN.n_place_twice, TN.w_place_as, TN.n_place_as, TN.w_name_place, TN.n_name_place, TN.w_name_name, TN.n_name_name, TN.w_name_lost, TN.n_name_lost, TN.w_name_twice, TN.n_name_twice, TN.w_name_as, TN.n_name_as, TN.w_lost_place, TN.n_lost_place, TN.w_lost_name, TN.n_lost_name, TN.w_lost_lost, TN.n_lost_lost, TN.w_lost_twice, TN.n_lost_twice, TN.w_lost_as, TN.n_lost_as, TN.w_twice_place, TN.n_twice_place, TN.w_twice_name, TN.n_twice_name, TN.w_twice_lost, TN.n_twice_lost, TN.w_twice_twice, TN.n_twice_twice, TN.w_twice_as, TN.n_twice_as, TN.w_as_place, TN.n_as_place, TN.w_as_name, TN.n_as_name, TN.w_as_lost, TN.n_as_lost, TN.w_as_twice, TN.n_as_twice, TN.w_as_as, TN.n_as_as])

abbrev s_is_letter_of : Stmt := topS 9
theorem sc_is_letter_of : FnScope ["row", "thing"] ["row", "thing"] (defScope s_is_letter_of) := ⟨rfl, rfl, rfl, by decide +kernel, rfl, by decide +kernel, by decide +kernel⟩
theorem ok_is_letter_of (b : Blt mg) (h_is_letter : Has P w K mg base "is_letter" 1 ["thing"] (sp0 K semLetter)) {f : Addr} {fd : FuncData} (F : Fun K "is_letter_of" "is_letter_of" s_is_letter_of f fd) : FnG P w K mg base CX0 2 f fd ["row", "thing"] (sp0 K semLetterOf) := by
  refine fn0 (k := 1) F sc_is_letter_of (fun ds Q h => by obtain ⟨r, x, rfl, _⟩ := h; rfl) (fun cdv A outer s H E hg hr =>
    have nd := sc_is_letter_of.nd
    have hu := hr.units
    have hu1 := hu_of hr
    (pss_one (ps_ret (pe_and (pe_has (h_is_letter.up (by decide)) hg hr (by rfl) (pa_cons (pv 1) pa_nil)) (pe_one (pe_cmpR op_in_seq (pv 1) (pv 0) rfl))))))
    (ls_ret (le_andV (le_call (les_cons (LP.e (lp_var (i := 1))) les_nil)) (LP.e (lp_op (LP.m (lp_var (i := 1))) (LP.m (lp_var (i := 0))) rb_in)))) ?_
  rintro ds Q ⟨r, x, rfl, hr, hx, q⟩
  (simp only [TN.sSeq, TN.sNext, TN.sDrop, TN.sRet, TN.sRetL, TN.sRetN, TN.sIf, TN.sAsg, TN.sAsgL, TN.sStore, TN.sForL, TN.sForT, TN.sForR, TN.sForR2, TN.tgN, TN.tgTup, TN.tgCons, TN.tgNil, TN.dP, TN.dB, TN.dCall, TN.dCallL, TN.dCallB, TN.dCallBL, TN.dCons, TN.dNil, TN.dTup, TN.dLst, TN.dKeep, TN.dVar, TN.fVar, TN.fPeek, TN.fC, TN.f2, TN.d2, TN.d2V, TN.f1, TN.d1, TN.fCB, TN.dCB, TN.dCBL, TN.fNil, TN.fCons, TN.asBool, TN.dTest, TN.bAnd, TN.bOr, TN.bNot, TN.dAnd, TN.dOr, TN.dNot, TN.fAndV, TN.fOrV, TN.fNotV, TN.dAndV, TN.dOrV, TN.dNotV, TN.dIfE, TN.dIfL, TN.fIfE, TN.fChain, TN.fSlice, TN.dSlice, TN.fNo, TN.fEnd, TN.dAppend, TN.dInsert, TN.dPopAt, TN.ownL, TN.start0, TN.begB, TN.backD, TN.wipeD, TN.dYes, TN.sNever, List.getElem?_cons_zero, List.getElem?_cons_succ, List.set_cons_zero, List.set_cons_succ, List.map_cons, List.map_nil, List.length_cons, List.length_nil, List.cons_append, List.nil_append, List.replicate_succ, List.replicate_zero, Option.map_some, Option.map_none, Nat.add_one_sub_one, Nat.sub_zero, Nat.sub_self, Nat.zero_add, reduceCtorEq, Option.some.injEq, PyData.int.injEq, PyData.str.injEq, PyData.bool.injEq, PyData.list.injEq, PyData.tuple.injEq, Sl.sh.injEq, Sl.ow.injEq, List.cons.injEq, exists_eq_left', exists_eq_left, true_implies, false_implies, and_true, true_and, forall_const, Option.isSome_some, TN.imp_ff, TN.imp_tf, TN.imp_tt, exists_eq_left, exists_eq_left', exists_eq])
  exact ⟨x, rfl, hr.let' x hx, _, rfl, true, rfl, fun _ => ⟨_, oIn_strs hx, q⟩, (fun z => by cases z)⟩

abbrev s_need_row : Stmt := topS 10
theorem sc_need_row : FnScope ["row"] ["row"] (defScope s_need_row) := ⟨rfl, rfl, rfl, by decide +kernel, rfl, by decide +kernel, by decide +kernel⟩
theorem ok_need_row (b : Blt mg) (h_is_row : Has P w K mg base "is_row" 3 ["thing"] (sp0 K semRow)) {f : Addr} {fd : FuncData} (F : Fun K "need_row" "need_row" s_need_row f fd) : FnG P w K mg base CX0 4 f fd ["row"] (sp0 K semNeedRow) := by
  refine fn0 (k := 3) F sc_need_row (fun ds Q h => by obtain ⟨r, rfl, _⟩ := h; rfl) (fun cdv A outer s H E hg hr =>
    have nd := sc_need_row.nd
    have hu := hr.units
    have hu1 := hu_of hr
    (pss_one (ps_if (pt_not (pt_val (pe_has (h_is_row.up (by decide)) hg hr (by rfl) (pa_cons (pv 0) pa_nil)))) (pss_one ps_never) pss_nil)))
    (ls_if (lt_not (lt_B (le_call (les_cons (LP.e (lp_var (i := 0))) les_nil)))) ls_never ls_next) ?_
  rintro ds Q ⟨r, rfl, gr, q⟩
  (simp only [TN.dCallM, TN.mVar, TN.sRetV, TN.dAug, TN.dCallNT, TN.dCallNL, TN.fIxTs, TN.sForI, TN.dCompI, TN.dCompL, TN.dCompT, TN.dCompR, TN.iL, TN.iT, TN.iR1, TN.iR2, TN.iR3, TN.iS, TN.iE, TN.iRv, TN.iZ, TN.dKeepT, TN.dCallT, TN.pTup, TN.pCons, TN.pOwn, TN.sAsgT, TN.sRetT, TN.tpL, TN.fIxT, TN.fTp, TN.dAppendT, TN.dReverseT, TN.dClearT, TN.dVarT, TN.dReverse, TN.dClear, TN.dPop, Pt.d, Sl.tp.injEq, TN.startF, TN.dCallV, Sl.fn.injEq, TN.dCallF, TN.dLRev, TN.dLAdd, TN.dLSlP, TN.dLSlice, TN.dSliceE, TN.dNo, TN.dEnd, TN.fNo, TN.sSeq, TN.sNext, TN.sDrop, TN.sRet, TN.sRetL, TN.sRetN, TN.sIf, TN.sAsg, TN.sAsgL, TN.sStore, TN.sForL, TN.sForT, TN.sForR, TN.sForR2, TN.tgN, TN.tgTup, TN.tgCons, TN.tgNil, TN.dP, TN.dB, TN.dCall, TN.dCallL, TN.dCallB, TN.dCallBL, TN.dCons, TN.dNil, TN.dTup, TN.dLst, TN.dKeep, TN.dVar, TN.fVar, TN.fPeek, TN.fC, TN.f2, TN.d2, TN.d2V, TN.f1, TN.d1, TN.fCB, TN.dCB, TN.dCBL, TN.fNil, TN.fCons, TN.asBool, TN.dTest, TN.bAnd, TN.bOr, TN.bNot, TN.dAnd, TN.dOr, TN.dNot, TN.fAndV, TN.fOrV, TN.fNotV, TN.dAndV, TN.dOrV, TN.dNotV, TN.dIfE, TN.dIfL, TN.fIfE, TN.fChain, TN.fSlice, TN.dSlice, TN.fNo, TN.fEnd, TN.dAppend, TN.dInsert, TN.dPopAt, TN.ownL, TN.start0, TN.begB, TN.backD, TN.wipeD, TN.dYes, TN.sNever, List.getElem?_cons_zero, List.getElem?_cons_succ, List.set_cons_zero, List.set_cons_succ, List.map_cons, List.map_nil, List.length_cons, List.length_nil, List.cons_append, List.nil_append, List.replicate_succ, List.replicate_zero, Option.map_some, Option.map_none, Nat.add_one_sub_one, Nat.sub_zero, Nat.sub_self, Nat.zero_add, reduceCtorEq, Option.some.injEq, PyData.int.injEq, PyData.str.injEq, PyData.bool.injEq, PyData.list.injEq, PyData.tuple.injEq, Sl.sh.injEq, Sl.ow.injEq, List.cons.injEq, exists_eq_left', exists_eq_left, true_implies, false_implies, and_true, true_and, forall_const, Option.isSome_some, TN.imp_ff, TN.imp_tf, TN.imp_tt, exists_eq_left, exists_eq_left', exists_eq])
  exact ⟨r, rfl, gr, _, rfl, true, rfl, (fun z => by cases z), fun _ => q⟩

abbrev s_need_letters : Stmt := topS 11
theorem sc_need_letters : FnScope ["row", "letters", "letter"] ["row", "letters"] (defScope s_need_letters) := ⟨rfl, rfl, rfl, by decide +kernel, rfl, by decide +kernel, by decide +kernel⟩
theorem ok_need_letters (b : Blt mg) (h_is_letter_of : Has P w K mg base "is_letter_of" 2 ["row", "thing"] (sp0 K semLetterOf)) {f : Addr} {fd : FuncData} (F : Fun K "need_letters" "need_letters" s_need_letters f fd) : FnG P w K mg base CX0 3 f fd ["row", "letters"] (sp0 K semNeedLetters) := by
  refine fn0 (k := 2) F sc_need_letters (fun ds Q h => by obtain ⟨r, l, rfl, _⟩ := h; rfl) (fun cdv A outer s H E hg hr =>
    have nd := sc_need_letters.nd
    have hu := hr.units
    have hu1 := hu_of hr
    (pss_cons (ps_if (pt_cmpR op_notTyB (pe_callTy call_typeF (by rfl) b.type (by decide +kernel) (pa_cons (pv 1) pa_nil)) (pe_bltn (v := .ty "list") (by rfl) b.list (by decide +kernel) rfl) (nomark _)) (pss_one ps_never) pss_nil)
 (pss_one (ps_if (pt_not (pt_val (pe_callB (cr_all rfl) (by rfl) b.all (by decide +kernel) (pa_cons (pe_lc (own := [("letter", 2)]) (g := gName 2) (tt := tYes) rfl nd (pi_list (pv 1)) (blkOk_by (own := [("letter", 2)]) (N := ["row", "letters", "letter"]) (sc := defScope s_need_letters) (by decide +kernel)) (fun _ _ _ _ _ => pg_name (i := 2) nd rfl (by first | exact Or.inl rfl | exact Or.inr rfl)) (fun _ _ _ _ _ => by exact pts_nil) (fun _ _ _ _ _ => by exact (pe_has (h_is_letter_of.up (by decide)) hg hr (by rfl) (pa_cons (pv 0) (pa_cons (pv 2) pa_nil))))) pa_nil)))) (pss_one ps_never) pss_nil))))
    (ls_seq (ls_if (LB.g (lb_test (LP.m (lp_typeNot (LP.m (lp_var (i := 1))))))) ls_never ls_next)
 (ls_if (lt_not (lt_B (le_cb (les_cons (LL.e (ll_compL (j := 2) (vs := [2]) (by decide) (by decide) (LP.e (lp_var (i := 1))) lt_yes (le_call (les_cons (LP.e (lp_var (i := 0))) (les_cons (LP.e (lp_var (i := 2))) les_nil))))) les_nil) rc_all))) ls_never ls_next)) ?_
  rintro ds Q ⟨r, l, rfl, hr, hl, few, q⟩
  (simp only [TN.sSeq, TN.sNext, TN.sDrop, TN.sRet, TN.sRetL, TN.sRetN, TN.sIf, TN.sAsg, TN.sAsgL, TN.sStore, TN.sForL, TN.sForT, TN.sForR, TN.sForR2, TN.tgN, TN.tgTup, TN.tgCons, TN.tgNil, TN.dP, TN.dB, TN.dCall, TN.dCallL, TN.dCallB, TN.dCallBL, TN.dCons, TN.dNil, TN.dTup, TN.dLst, TN.dKeep, TN.dVar, TN.fVar, TN.fPeek, TN.fC, TN.f2, TN.d2, TN.d2V, TN.f1, TN.d1, TN.fCB, TN.dCB, TN.dCBL, TN.fNil, TN.fCons, TN.asBool, TN.dTest, TN.bAnd, TN.bOr, TN.bNot, TN.dAnd, TN.dOr, TN.dNot, TN.fAndV, TN.fOrV, TN.fNotV, TN.dAndV, TN.dOrV, TN.dNotV, TN.dIfE, TN.dIfL, TN.fIfE, TN.fChain, TN.fSlice, TN.dSlice, TN.fNo, TN.fEnd, TN.dAppend, TN.dInsert, TN.dPopAt, TN.ownL, TN.start0, TN.begB, TN.backD, TN.wipeD, TN.dYes, TN.sNever, List.getElem?_cons_zero, List.getElem?_cons_succ, List.set_cons_zero, List.set_cons_succ, List.map_cons, List.map_nil, List.length_cons, List.length_nil, List.cons_append, List.nil_append, List.replicate_succ, List.replicate_zero, Option.map_some, Option.map_none, Nat.add_one_sub_one, Nat.sub_zero, Nat.sub_self, Nat.zero_add, reduceCtorEq, Option.some.injEq, PyData.int.injEq, PyData.str.injEq, PyData.bool.injEq, PyData.list.injEq, PyData.tuple.injEq, Sl.sh.injEq, Sl.ow.injEq, List.cons.injEq, exists_eq_left', exists_eq_left, true_implies, false_implies, and_true, true_and, forall_const, Option.isSome_some, TN.imp_ff, TN.imp_tf, TN.imp_tt, exists_eq_left, exists_eq_left', exists_eq])
  refine ⟨(fun z => by rw [ty_lst] at z; simp at z), fun _ => ⟨_, rfl, _, rfl, ?_⟩⟩
  refine comp_all (fun d => ∃ x ∈ r, d = .str x) (fun _ => .bool true) rfl (fun _ => rfl) ?_ _ _ ?_ (by simp; omega) ?_
  · rintro d R ⟨x, hx, rfl⟩ kk
    (simp only [TN.sSeq, TN.sNext, TN.sDrop, TN.sRet, TN.sRetL, TN.sRetN, TN.sIf, TN.sAsg, TN.sAsgL, TN.sStore, TN.sForL, TN.sForT, TN.sForR, TN.sForR2, TN.tgN, TN.tgTup, TN.tgCons, TN.tgNil, TN.dP, TN.dB, TN.dCall, TN.dCallL, TN.dCallB, TN.dCallBL, TN.dCons, TN.dNil, TN.dTup, TN.dLst, TN.dKeep, TN.dVar, TN.fVar, TN.fPeek, TN.fC, TN.f2, TN.d2, TN.d2V, TN.f1, TN.d1, TN.fCB, TN.dCB, TN.dCBL, TN.fNil, TN.fCons, TN.asBool, TN.dTest, TN.bAnd, TN.bOr, TN.bNot, TN.dAnd, TN.dOr, TN.dNot, TN.fAndV, TN.fOrV, TN.fNotV, TN.dAndV, TN.dOrV, TN.dNotV, TN.dIfE, TN.dIfL, TN.fIfE, TN.fChain, TN.fSlice, TN.dSlice, TN.fNo, TN.fEnd, TN.dAppend, TN.dInsert, TN.dPopAt, TN.ownL, TN.start0, TN.begB, TN.backD, TN.wipeD, TN.dYes, TN.sNever, List.getElem?_cons_zero, List.getElem?_cons_succ, List.set_cons_zero, List.set_cons_succ, List.map_cons, List.map_nil, List.length_cons, List.length_nil, List.cons_append, List.nil_append, List.replicate_succ, List.replicate_zero, Option.map_some, Option.map_none, Nat.add_one_sub_one, Nat.sub_zero, Nat.sub_self, Nat.zero_add, reduceCtorEq, Option.some.injEq, PyData.int.injEq, PyData.str.injEq, PyData.bool.injEq, PyData.list.injEq, PyData.tuple.injEq, Sl.sh.injEq, Sl.ow.injEq, List.cons.injEq, exists_eq_left', exists_eq_left, true_implies, false_implies, and_true, true_and, forall_const, Option.isSome_some, TN.imp_ff, TN.imp_tf, TN.imp_tt, exists_eq_left, exists_eq_left', exists_eq])
    exact ⟨r, x, rfl, hr, hx, _, rfl, kk⟩
  · intro d hd
    obtain ⟨x, hx, rfl⟩ := List.mem_map.mp hd
    exact ⟨x, hl x hx, rfl⟩
  · rw [List.nil_append]
    exact ⟨_, oAll_tt, true, rfl, (fun z => by cases z), fun _ => q⟩

abbrev s_to_front : Stmt := topS 12
theorem sc_to_front : FnScope ["row", "place"] ["row", "place"] (defScope s_to_front) := ⟨rfl, rfl, rfl, by decide +kernel, rfl, by decide +kernel, by decide +kernel⟩
theorem ok_to_front (b : Blt mg) {f : Addr} {fd : FuncData} (F : Fun K "to_front" "to_front" s_to_front f fd) : FnG P w K mg base CX0 1 f fd ["row", "place"] (sp0 K semFront) := by
  refine fn0 (k := 0) F sc_to_front (fun ds Q h => by obtain ⟨r, p, rfl, _⟩ := h; rfl) (fun cdv A outer s H E hg hr =>
    have nd := sc_to_front.nd
    have hu := hr.units
    have hu1 := hu_of hr
    (pss_one (ps_ret (pe_op op_addU (pe_op op_addU (pe_tupX (pa_cons (pe_ix ix_seq (pv 0) (pv 1) (fun _ _ => rfl)) pa_nil)) (pe_slice sl_U (pv 0) po_none (po_some (pv 1)))) (pe_slice sl_U (pv 0) (po_some (pe_op op_addU (pv 1) pe_int)) po_none)))))
    (ls_ret (le_op (le_op (le_tup (les_cons (LP.e (lp_op (LP.m (lp_var (i := 0))) (LP.m (lp_var (i := 1))) rb_ix)) les_nil)) (LP.e (lp_slice (LP.m (lp_var (i := 0))) lo_none (lo_some (LP.m (lp_var (i := 1)))))) rb_add) (LP.e (lp_slice (LP.m (lp_var (i := 0))) (lo_some (LP.m (lp_op (LP.m (lp_var (i := 1))) (LP.m lp_int) rb_add))) lo_none)) rb_add)) ?_
  rintro ds Q ⟨r, p, rfl, hp, few, q⟩
  (simp only [TN.sSeq, TN.sNext, TN.sDrop, TN.sRet, TN.sRetL, TN.sRetN, TN.sIf, TN.sAsg, TN.sAsgL, TN.sStore, TN.sForL, TN.sForT, TN.sForR, TN.sForR2, TN.tgN, TN.tgTup, TN.tgCons, TN.tgNil, TN.dP, TN.dB, TN.dCall, TN.dCallL, TN.dCallB, TN.dCallBL, TN.dCons, TN.dNil, TN.dTup, TN.dLst, TN.dKeep, TN.dVar, TN.fVar, TN.fPeek, TN.fC, TN.f2, TN.d2, TN.d2V, TN.f1, TN.d1, TN.fCB, TN.dCB, TN.dCBL, TN.fNil, TN.fCons, TN.asBool, TN.dTest, TN.bAnd, TN.bOr, TN.bNot, TN.dAnd, TN.dOr, TN.dNot, TN.fAndV, TN.fOrV, TN.fNotV, TN.dAndV, TN.dOrV, TN.dNotV, TN.dIfE, TN.dIfL, TN.fIfE, TN.fChain, TN.fSlice, TN.dSlice, TN.fNo, TN.fEnd, TN.dAppend, TN.dInsert, TN.dPopAt, TN.ownL, TN.start0, TN.begB, TN.backD, TN.wipeD, TN.dYes, TN.sNever, List.getElem?_cons_zero, List.getElem?_cons_succ, List.set_cons_zero, List.set_cons_succ, List.map_cons, List.map_nil, List.length_cons, List.length_nil, List.cons_append, List.nil_append, List.replicate_succ, List.replicate_zero, Option.map_some, Option.map_none, Nat.add_one_sub_one, Nat.sub_zero, Nat.sub_self, Nat.zero_add, reduceCtorEq, Option.some.injEq, PyData.int.injEq, PyData.str.injEq, PyData.bool.injEq, PyData.list.injEq, PyData.tuple.injEq, Sl.sh.injEq, Sl.ow.injEq, List.cons.injEq, exists_eq_left', exists_eq_left, true_implies, false_implies, and_true, true_and, forall_const, Option.isSome_some, TN.imp_ff, TN.imp_tf, TN.imp_tt, exists_eq_left, exists_eq_left', exists_eq])
  refine ⟨_, oIx_tupL hp, by omega, _, oSl_to, _, oAdd_tup (a := [r.getD p ""]) (by simp; omega), _, ?_, _, oAdd_tup (by simp; omega), q⟩
  show oSlice (some ((p : Int) + 1)) none (tupL r) = _
  exact oSl_from (p := p + 1)

abbrev s_places_of_letters : Stmt := topS 13
theorem sc_places_of_letters : FnScope ["row", "letters", "places", "standing", "letter", "place"] ["row", "letters"] (defScope s_places_of_letters) := ⟨rfl, rfl, rfl, by decide +kernel, rfl, by decide +kernel, by decide +kernel⟩
theorem ok_places_of_letters (b : Blt mg) (h_to_front : Has P w K mg base "to_front" 1 ["row", "place"] (sp0 K semFront)) {f : Addr} {fd : FuncData} (F : Fun K "places_of_letters" "places_of_letters" s_places_of_letters f fd) : FnG P w K mg base CX0 2 f fd ["row", "letters"] (sp0 K semPlL) := by
  refine fn0 (k := 1) F sc_places_of_letters (fun ds Q h => by obtain ⟨r, s, rfl, _⟩ := h; rfl) (fun cdv A outer s H E hg hr =>
    have nd := sc_places_of_letters.nd
    have hu := hr.units
    have hu1 := hu_of hr
    (pss_cons (ps_set (i := 2) nd rfl (by first | exact Or.inl rfl | exact Or.inr rfl) (pe_lst pa_nil))
 (pss_cons (ps_set (i := 3) nd rfl (by first | exact Or.inl rfl | exact Or.inr rfl) (pv 0))
 (pss_cons (ps_for PassesOwn.never rfl (pi_list (pv 1)) (pg_name (i := 4) nd rfl (by first | exact Or.inl rfl | exact Or.inr rfl)) (pss_cons (ps_set (i := 5) nd rfl (by first | exact Or.inl rfl | exact Or.inr rfl) (pe_tidx (pv 3) (pv 4)))
 (pss_cons (ps_expr (by exact (pe_bm PySem.F.plainAttrs_list PySem.F.slot_list_append PySem.F.type_list_append mt_append (pv 2) (pa_cons (pv 5) pa_nil))))
 (pss_one (ps_set (i := 3) nd rfl (by first | exact Or.inl rfl | exact Or.inr rfl) (pe_has (h_to_front.up (by decide)) hg hr (by rfl) (pa_cons (pv 3) (pa_cons (pv 5) pa_nil))))))))
 (pss_one (ps_ret (pv 2)))))))
    (ls_seq (ls_asgL (i := 2) (by decide) (ll_lst les_nil))
 (ls_seq (ls_asg (LP.e (lp_var (i := 0))) (lg_name (i := 3) (by decide)))
 (ls_seq (ls_forL (LP.e (lp_var (i := 1))) (lg_name (i := 4) (by decide)) (ls_seq (ls_asg (LP.e (lp_tindex (LP.m (lp_var (i := 3))) (LP.m (lp_var (i := 4))))) (lg_name (i := 5) (by decide)))
 (ls_seq (ls_drop (le_append (j := 2) (LP.e (lp_var (i := 5)))))
 (ls_asg (le_call (les_cons (LP.e (lp_var (i := 3))) (les_cons (LP.e (lp_var (i := 5))) les_nil))) (lg_name (i := 3) (by decide))))))
 (ls_retV (j := 2) (by decide))))) ?_
  rintro ds Q ⟨r, s, rfl, gr, hs, few, q⟩
  (simp only [TN.dCallM, TN.mVar, TN.sRetV, TN.dAug, TN.dCallNT, TN.dCallNL, TN.fIxTs, TN.sForI, TN.dCompI, TN.dCompL, TN.dCompT, TN.dCompR, TN.iL, TN.iT, TN.iR1, TN.iR2, TN.iR3, TN.iS, TN.iE, TN.iRv, TN.iZ, TN.dKeepT, TN.dCallT, TN.pTup, TN.pCons, TN.pOwn, TN.sAsgT, TN.sRetT, TN.tpL, TN.fIxT, TN.fTp, TN.dAppendT, TN.dReverseT, TN.dClearT, TN.dVarT, TN.dReverse, TN.dClear, TN.dPop, Pt.d, Sl.tp.injEq, TN.startF, TN.dCallV, Sl.fn.injEq, TN.dCallF, TN.dLRev, TN.dLAdd, TN.dLSlP, TN.dLSlice, TN.dSliceE, TN.dNo, TN.dEnd, TN.fNo, TN.sSeq, TN.sNext, TN.sDrop, TN.sRet, TN.sRetL, TN.sRetN, TN.sIf, TN.sAsg, TN.sAsgL, TN.sStore, TN.sForL, TN.sForT, TN.sForR, TN.sForR2, TN.tgN, TN.tgTup, TN.tgCons, TN.tgNil, TN.dP, TN.dB, TN.dCall, TN.dCallL, TN.dCallB, TN.dCallBL, TN.dCons, TN.dNil, TN.dTup, TN.dLst, TN.dKeep, TN.dVar, TN.fVar, TN.fPeek, TN.fC, TN.f2, TN.d2, TN.d2V, TN.f1, TN.d1, TN.fCB, TN.dCB, TN.dCBL, TN.fNil, TN.fCons, TN.asBool, TN.dTest, TN.bAnd, TN.bOr, TN.bNot, TN.dAnd, TN.dOr, TN.dNot, TN.fAndV, TN.fOrV, TN.fNotV, TN.dAndV, TN.dOrV, TN.dNotV, TN.dIfE, TN.dIfL, TN.fIfE, TN.fChain, TN.fSlice, TN.dSlice, TN.fNo, TN.fEnd, TN.dAppend, TN.dInsert, TN.dPopAt, TN.ownL, TN.start0, TN.begB, TN.backD, TN.wipeD, TN.dYes, TN.sNever, List.getElem?_cons_zero, List.getElem?_cons_succ, List.set_cons_zero, List.set_cons_succ, List.map_cons, List.map_nil, List.length_cons, List.length_nil, List.cons_append, List.nil_append, List.replicate_succ, List.replicate_zero, Option.map_some, Option.map_none, Nat.add_one_sub_one, Nat.sub_zero, Nat.sub_self, Nat.zero_add, reduceCtorEq, Option.some.injEq, PyData.int.injEq, PyData.str.injEq, PyData.bool.injEq, PyData.list.injEq, PyData.tuple.injEq, Sl.sh.injEq, Sl.ow.injEq, List.cons.injEq, exists_eq_left', exists_eq_left, true_implies, false_implies, and_true, true_and, forall_const, Option.isSome_some, TN.imp_ff, TN.imp_tf, TN.imp_tt, exists_eq_left, exists_eq_left', exists_eq])
  refine ⟨by omega, ?_⟩
  refine forD_go PyData.str (fun ls ρ => ∃ (u : List Str) (acc : List Nat) (b4 b5 : Sl), ρ = [.sh (tupL r), .sh (lstL s), .ow (acc.map fun (k : Nat) => PyData.int k), .sh (tupL u), b4, b5] ∧ u.Nodup ∧ u.length ≤ 16 ∧ (∀ x ∈ ls, x ∈ u) ∧ acc.length + ls.length ≤ 1000 ∧ placesL r s = acc ++ placesL u ls) ?_ ?_ s _ ⟨r, [], _, _, rfl, gr.nd, gr.few, hs, by simp; omega, rfl⟩
  rotate_left
  · rintro ρ ⟨u, acc, b4, b5, rfl, _, _, _, _, e⟩
    (simp only [TN.dCallM, TN.mVar, TN.sRetV, TN.dAug, TN.dCallNT, TN.dCallNL, TN.fIxTs, TN.sForI, TN.dCompI, TN.dCompL, TN.dCompT, TN.dCompR, TN.iL, TN.iT, TN.iR1, TN.iR2, TN.iR3, TN.iS, TN.iE, TN.iRv, TN.iZ, TN.dKeepT, TN.dCallT, TN.pTup, TN.pCons, TN.pOwn, TN.sAsgT, TN.sRetT, TN.tpL, TN.fIxT, TN.fTp, TN.dAppendT, TN.dReverseT, TN.dClearT, TN.dVarT, TN.dReverse, TN.dClear, TN.dPop, Pt.d, Sl.tp.injEq, TN.startF, TN.dCallV, Sl.fn.injEq, TN.dCallF, TN.dLRev, TN.dLAdd, TN.dLSlP, TN.dLSlice, TN.dSliceE, TN.dNo, TN.dEnd, TN.fNo, TN.sSeq, TN.sNext, TN.sDrop, TN.sRet, TN.sRetL, TN.sRetN, TN.sIf, TN.sAsg, TN.sAsgL, TN.sStore, TN.sForL, TN.sForT, TN.sForR, TN.sForR2, TN.tgN, TN.tgTup, TN.tgCons, TN.tgNil, TN.dP, TN.dB, TN.dCall, TN.dCallL, TN.dCallB, TN.dCallBL, TN.dCons, TN.dNil, TN.dTup, TN.dLst, TN.dKeep, TN.dVar, TN.fVar, TN.fPeek, TN.fC, TN.f2, TN.d2, TN.d2V, TN.f1, TN.d1, TN.fCB, TN.dCB, TN.dCBL, TN.fNil, TN.fCons, TN.asBool, TN.dTest, TN.bAnd, TN.bOr, TN.bNot, TN.dAnd, TN.dOr, TN.dNot, TN.fAndV, TN.fOrV, TN.fNotV, TN.dAndV, TN.dOrV, TN.dNotV, TN.dIfE, TN.dIfL, TN.fIfE, TN.fChain, TN.fSlice, TN.dSlice, TN.fNo, TN.fEnd, TN.dAppend, TN.dInsert, TN.dPopAt, TN.ownL, TN.start0, TN.begB, TN.backD, TN.wipeD, TN.dYes, TN.sNever, List.getElem?_cons_zero, List.getElem?_cons_succ, List.set_cons_zero, List.set_cons_succ, List.map_cons, List.map_nil, List.length_cons, List.length_nil, List.cons_append, List.nil_append, List.replicate_succ, List.replicate_zero, Option.map_some, Option.map_none, Nat.add_one_sub_one, Nat.sub_zero, Nat.sub_self, Nat.zero_add, reduceCtorEq, Option.some.injEq, PyData.int.injEq, PyData.str.injEq, PyData.bool.injEq, PyData.list.injEq, PyData.tuple.injEq, Sl.sh.injEq, Sl.ow.injEq, List.cons.injEq, exists_eq_left', exists_eq_left, true_implies, false_implies, and_true, true_and, forall_const, Option.isSome_some, TN.imp_ff, TN.imp_tf, TN.imp_tt, exists_eq_left, exists_eq_left', exists_eq])
    rw [show placesL r s = acc from e.trans (List.append_nil _)] at q
    exact q
  rintro x ls ρ E' ⟨u, acc, b4, b5, rfl, nd, uf, hu, fa, e⟩ nx _ _ _
  have hx := hu x List.mem_cons_self
  have pu := front_perm hx nd
  rw [List.length_cons] at fa
  (simp only [TN.dCallM, TN.mVar, TN.sRetV, TN.dAug, TN.dCallNT, TN.dCallNL, TN.fIxTs, TN.sForI, TN.dCompI, TN.dCompL, TN.dCompT, TN.dCompR, TN.iL, TN.iT, TN.iR1, TN.iR2, TN.iR3, TN.iS, TN.iE, TN.iRv, TN.iZ, TN.dKeepT, TN.dCallT, TN.pTup, TN.pCons, TN.pOwn, TN.sAsgT, TN.sRetT, TN.tpL, TN.fIxT, TN.fTp, TN.dAppendT, TN.dReverseT, TN.dClearT, TN.dVarT, TN.dReverse, TN.dClear, TN.dPop, Pt.d, Sl.tp.injEq, TN.startF, TN.dCallV, Sl.fn.injEq, TN.dCallF, TN.dLRev, TN.dLAdd, TN.dLSlP, TN.dLSlice, TN.dSliceE, TN.dNo, TN.dEnd, TN.fNo, TN.sSeq, TN.sNext, TN.sDrop, TN.sRet, TN.sRetL, TN.sRetN, TN.sIf, TN.sAsg, TN.sAsgL, TN.sStore, TN.sForL, TN.sForT, TN.sForR, TN.sForR2, TN.tgN, TN.tgTup, TN.tgCons, TN.tgNil, TN.dP, TN.dB, TN.dCall, TN.dCallL, TN.dCallB, TN.dCallBL, TN.dCons, TN.dNil, TN.dTup, TN.dLst, TN.dKeep, TN.dVar, TN.fVar, TN.fPeek, TN.fC, TN.f2, TN.d2, TN.d2V, TN.f1, TN.d1, TN.fCB, TN.dCB, TN.dCBL, TN.fNil, TN.fCons, TN.asBool, TN.dTest, TN.bAnd, TN.bOr, TN.bNot, TN.dAnd, TN.dOr, TN.dNot, TN.fAndV, TN.fOrV, TN.fNotV, TN.dAndV, TN.dOrV, TN.dNotV, TN.dIfE, TN.dIfL, TN.fIfE, TN.fChain, TN.fSlice, TN.dSlice, TN.fNo, TN.fEnd, TN.dAppend, TN.dInsert, TN.dPopAt, TN.ownL, TN.start0, TN.begB, TN.backD, TN.wipeD, TN.dYes, TN.sNever, List.getElem?_cons_zero, List.getElem?_cons_succ, List.set_cons_zero, List.set_cons_succ, List.map_cons, List.map_nil, List.length_cons, List.length_nil, List.cons_append, List.nil_append, List.replicate_succ, List.replicate_zero, Option.map_some, Option.map_none, Nat.add_one_sub_one, Nat.sub_zero, Nat.sub_self, Nat.zero_add, reduceCtorEq, Option.some.injEq, PyData.int.injEq, PyData.str.injEq, PyData.bool.injEq, PyData.list.injEq, PyData.tuple.injEq, Sl.sh.injEq, Sl.ow.injEq, List.cons.injEq, exists_eq_left', exists_eq_left, true_implies, false_implies, and_true, true_and, forall_const, Option.isSome_some, TN.imp_ff, TN.imp_tf, TN.imp_tt, exists_eq_left, exists_eq_left', exists_eq])
  refine ⟨_, oTIx hx, by rw [List.length_map]; omega, frF hx nd uf ⟨_, rfl, ?_⟩⟩
  have ea : List.map (fun (k : Nat) => PyData.int k) acc ++ [PyData.int (ixS x u : Nat)] = (acc ++ [ixS x u]).map fun (k : Nat) => PyData.int k := by rw [List.map_append]; rfl
  rw [ea]
  exact nx _ ⟨front x u, acc ++ [ixS x u], _, _, rfl, pu.nodup_iff.mpr nd, by rw [pu.length_eq]; exact uf, fun y hy => pu.mem_iff.mpr (hu y (List.mem_cons_of_mem _ hy)), by rw [List.length_append, List.length_singleton]; omega, by rw [e, List.append_assoc]; rfl⟩

abbrev s_explained : Stmt := topS 15
theorem sc_explained : FnScope ["row", "said", "written", "told_at", "heard_at", "table"] ["row", "said", "written"] (defScope s_explained) := ⟨rfl, rfl, rfl, by decide +kernel, rfl, by decide +kernel, by decide +kernel⟩
theorem ok_explained (b : Blt mg) (h_need_texts : Has P w K mg base "need_texts" 5 ["row", "said", "written"] (sp0 K semNeedTexts)) (h_places_of_letters : Has P w K mg base "places_of_letters" 2 ["row", "letters"] (sp0 K semPlL)) (h_fewest_faults : Has P w K mg base "fewest_faults" 3 ["told_at", "heard_at"] (sp0 K semFewestFaults)) (h_history : Has P w K mg base "history" 3 ["told_at", "heard_at", "table"] (sp0 K semHistory)) {f : Addr} {fd : FuncData} (F : Fun K "explained" "explained" s_explained f fd) : FnG P w K mg base CX0 6 f fd ["row", "said", "written"] (sp0 K semExplained) := by
  refine fn0 (k := 5) F sc_explained (fun ds Q h => by obtain ⟨r, s, w, rfl, _⟩ := h; rfl) (fun cdv A outer s H E hg hr =>
    have nd := sc_explained.nd
    have hu := hr.units
    have hu1 := hu_of hr
    (pss_cons (ps_expr (by exact (pe_has (h_need_texts.up (by decide)) hg hr (by rfl) (pa_cons (pv 0) (pa_cons (pv 1) (pa_cons (pv 2) pa_nil))))))
 (pss_cons (ps_set (i := 3) nd rfl (by first | exact Or.inl rfl | exact Or.inr rfl) (pe_has (h_places_of_letters.up (by decide)) hg hr (by rfl) (pa_cons (pv 0) (pa_cons (pv 1) pa_nil))))
 (pss_cons (ps_set (i := 4) nd rfl (by first | exact Or.inl rfl | exact Or.inr rfl) (pe_has (h_places_of_letters.up (by decide)) hg hr (by rfl) (pa_cons (pv 0) (pa_cons (pv 2) pa_nil))))
 (pss_cons (ps_set (i := 5) nd rfl (by first | exact Or.inl rfl | exact Or.inr rfl) (pe_has (h_fewest_faults.up (by decide)) hg hr (by rfl) (pa_cons (pv 3) (pa_cons (pv 4) pa_nil))))
 (pss_cons (ps_if (pt_cmpR op_isN1 (pe_ix ix_seq (pe_ix ix_seq (pv 5) pe_int (fun _ _ => rfl)) pe_int (fun _ _ => rfl)) pe_non (nomark _)) (pss_one (ps_ret pe_non)) pss_nil)
 (pss_one (ps_ret (pe_tupX (pa_cons (pe_ix ix_seq (pe_ix ix_seq (pv 5) pe_int (fun _ _ => rfl)) pe_int (fun _ _ => rfl)) (pa_cons (pe_has (h_history.up (by decide)) hg hr (by rfl) (pa_cons (pv 3) (pa_cons (pv 4) (pa_cons (pv 5) pa_nil)))) pa_nil)))))))))))
    (ls_seq (ls_drop (le_call (les_cons (LP.e (lp_var (i := 0))) (les_cons (LP.e (lp_var (i := 1))) (les_cons (LP.e (lp_var (i := 2))) les_nil)))))
 (ls_seq (ls_asg (LL.e (ll_call (les_cons (LP.e (lp_var (i := 0))) (les_cons (LP.e (lp_var (i := 1))) les_nil)))) (lg_name (i := 3) (by decide)))
 (ls_seq (ls_asg (LL.e (ll_call (les_cons (LP.e (lp_var (i := 0))) (les_cons (LP.e (lp_var (i := 2))) les_nil)))) (lg_name (i := 4) (by decide)))
 (ls_seq (ls_asg (LL.e (ll_call (les_cons (LP.e (lp_var (i := 3))) (les_cons (LP.e (lp_var (i := 4))) les_nil)))) (lg_name (i := 5) (by decide)))
 (ls_seq (ls_if (LB.g (lb_test (LP.m (lp_op (LP.m (lp_op (LP.m (lp_op (LP.m (lp_var (i := 5))) (LP.m lp_int) rb_ix)) (LP.m lp_int) rb_ix)) (LP.m lp_non) rb_isN)))) (ls_ret (LP.e lp_non)) ls_next)
 (ls_ret (le_tup (les_cons (LP.e (lp_op (LP.m (lp_op (LP.m (lp_var (i := 5))) (LP.m lp_int) rb_ix)) (LP.m lp_int) rb_ix)) (les_cons (LL.e (ll_call (les_cons (LP.e (lp_var (i := 3))) (les_cons (LP.e (lp_var (i := 4))) (les_cons (LP.e (lp_var (i := 5))) les_nil))))) les_nil))))))))) ?_
  rintro ds Q ⟨r, s, w, rfl, gr, hs, hw, f1, f2, q1, q2⟩
  (simp only [TN.dCallO, TN.dCallOI, TN.dCallNO, TN.oVar, TN.sCut, TN.tgLst, TN.iK, TN.iV, TN.iLT, TN.pNew, TN.dCallN, TN.dCompI2, TN.dLAddE, TN.oD, TN.sDNew, TN.sPutD, TN.fGetO, TN.fGetO2, TN.fInO, TN.fNinO, TN.dVarD, TN.dExtS, TN.mOwn, TN.dCallM, TN.mVar, TN.sRetV, TN.dAug, TN.dCallNT, TN.dCallNL, TN.fIxTs, TN.sForI, TN.dCompI, TN.dCompL, TN.dCompT, TN.dCompR, TN.iL, TN.iT, TN.iR1, TN.iR2, TN.iR3, TN.iS, TN.iE, TN.iRv, TN.iZ, TN.dKeepT, TN.dCallT, TN.pTup, TN.pCons, TN.pOwn, TN.sAsgT, TN.sRetT, TN.tpL, TN.fIxT, TN.fTp, TN.dAppendT, TN.dReverseT, TN.dClearT, TN.dVarT, TN.dReverse, TN.dClear, TN.dPop, Pt.d, Sl.tp.injEq, TN.startF, TN.dCallV, Sl.fn.injEq, TN.dCallF, TN.dLRev, TN.dLAdd, TN.dLSlP, TN.dLSlice, TN.dSliceE, TN.dNo, TN.dEnd, TN.fNo, TN.sSeq, TN.sNext, TN.sDrop, TN.sRet, TN.sRetL, TN.sRetN, TN.sIf, TN.sAsg, TN.sAsgL, TN.sStore, TN.sForL, TN.sForT, TN.sForR, TN.sForR2, TN.tgN, TN.tgTup, TN.tgCons, TN.tgNil, TN.dP, TN.dB, TN.dCall, TN.dCallL, TN.dCallB, TN.dCallBL, TN.dCons, TN.dNil, TN.dTup, TN.dLst, TN.dKeep, TN.dVar, TN.fVar, TN.fPeek, TN.fC, TN.f2, TN.d2, TN.d2V, TN.f1, TN.d1, TN.fCB, TN.dCB, TN.dCBL, TN.fNil, TN.fCons, TN.asBool, TN.dTest, TN.bAnd, TN.bOr, TN.bNot, TN.dAnd, TN.dOr, TN.dNot, TN.fAndV, TN.fOrV, TN.fNotV, TN.dAndV, TN.dOrV, TN.dNotV, TN.dIfE, TN.dIfL, TN.fIfE, TN.fChain, TN.fSlice, TN.dSlice, TN.fNo, TN.fEnd, TN.dAppend, TN.dInsert, TN.dPopAt, TN.ownL, TN.start0, TN.begB, TN.backD, TN.wipeD, TN.dYes, TN.sNever, List.getElem?_cons_zero, List.getElem?_cons_succ, List.set_cons_zero, List.set_cons_succ, List.map_cons, List.map_nil, List.length_cons, List.length_nil, List.cons_append, List.nil_append, List.replicate_succ, List.replicate_zero, Option.map_some, Option.map_none, Nat.add_one_sub_one, Nat.sub_zero, Nat.sub_self, Nat.zero_add, reduceCtorEq, Option.some.injEq, PyData.int.injEq, PyData.str.injEq, PyData.bool.injEq, PyData.list.injEq, PyData.tuple.injEq, Sl.sh.injEq, Sl.ow.injEq, List.cons.injEq, exists_eq_left', exists_eq_left, true_implies, false_implies, and_true, true_and, forall_const, Option.isSome_some, TN.imp_ff, TN.imp_tf, TN.imp_tt, exists_eq_left, exists_eq_left', exists_eq])
  refine ⟨r, s, w, rfl, gr, hs, hw, f1, f2, _, rfl, r, s, rfl, gr, hs, f1, _, rfl, r, w, rfl, gr, hw, f2, _, rfl, placesL r s, placesL r w, rfl, by rw [placesL_len]; exact f1, by rw [placesL_len]; exact f2, _, rfl, ?_⟩
  have h0 : oIx (.list (tableL (placesL r s) (placesL r w))) (.int 0) = some (.list (rowL (placesL r s) (placesL r w))) := by
    have e := tableL_at (placesL r s) (placesL r w) 0 (Nat.zero_le _)
    show atI _ ((0 : Nat) : Int) = _
    exact L2.atI_nat e
  have h1 : oIx (.list (rowL (placesL r s) (placesL r w))) (.int 0) = some (optD (fewF (placesL r s) (placesL r w))) := by
    have := optD_at (n := (placesL r w).length + 1) (k := 0) (fun d => fewF (placesL r s) ((placesL r w).drop d)) (by omega)
    exact this
  simp only [h0, h1]
  cases hf : fewF (placesL r s) (placesL r w) with
  | none =>
    refine ⟨true, rfl, fun _ => q1 hf, (fun z => by cases z)⟩
  | some n =>
    refine ⟨false, rfl, (fun z => by cases z), fun _ => ⟨_, rfl, placesL r s, placesL r w, n, rfl, by rw [placesL_len]; exact f1, by rw [placesL_len]; exact f2, hf, fun es t f => ⟨_, rfl, by omega, q2 n es hf t f⟩⟩⟩

abbrev s_need_texts : Stmt := topS 16
theorem sc_need_texts : FnScope ["row", "said", "written"] ["row", "said", "written"] (defScope s_need_texts) := ⟨rfl, rfl, rfl, by decide +kernel, rfl, by decide +kernel, by decide +kernel⟩
theorem ok_need_texts (b : Blt mg) (h_need_row : Has P w K mg base "need_row" 4 ["row"] (sp0 K semNeedRow)) (h_need_letters : Has P w K mg base "need_letters" 3 ["row", "letters"] (sp0 K semNeedLetters)) {f : Addr} {fd : FuncData} (F : Fun K "need_texts" "need_texts" s_need_texts f fd) : FnG P w K mg base CX0 5 f fd ["row", "said", "written"] (sp0 K semNeedTexts) := by
  refine fn0 (k := 4) F sc_need_texts (fun ds Q h => by obtain ⟨r, s, w, rfl, _⟩ := h; rfl) (fun cdv A outer s H E hg hr =>
    have nd := sc_need_texts.nd
    have hu := hr.units
    have hu1 := hu_of hr
    (pss_cons (ps_expr (by exact (pe_has (h_need_row.up (by decide)) hg hr (by rfl) (pa_cons (pv 0) pa_nil))))
 (pss_cons (ps_expr (by exact (pe_has (h_need_letters.up (by decide)) hg hr (by rfl) (pa_cons (pv 0) (pa_cons (pv 1) pa_nil)))))
 (pss_one (ps_expr (by exact (pe_has (h_need_letters.up (by decide)) hg hr (by rfl) (pa_cons (pv 0) (pa_cons (pv 2) pa_nil)))))))))
    (ls_seq (ls_drop (le_call (les_cons (LP.e (lp_var (i := 0))) les_nil)))
 (ls_seq (ls_drop (le_call (les_cons (LP.e (lp_var (i := 0))) (les_cons (LP.e (lp_var (i := 1))) les_nil))))
 (ls_drop (le_call (les_cons (LP.e (lp_var (i := 0))) (les_cons (LP.e (lp_var (i := 2))) les_nil)))))) ?_
  rintro ds Q ⟨r, s, w, rfl, gr, hs, hw, f1, f2, q⟩
  (simp only [TN.dCallO, TN.dCallOI, TN.dCallNO, TN.oVar, TN.sCut, TN.tgLst, TN.iK, TN.iV, TN.iLT, TN.pNew, TN.dCallN, TN.dCompI2, TN.dLAddE, TN.oD, TN.sDNew, TN.sPutD, TN.fGetO, TN.fGetO2, TN.fInO, TN.fNinO, TN.dVarD, TN.dExtS, TN.mOwn, TN.dCallM, TN.mVar, TN.sRetV, TN.dAug, TN.dCallNT, TN.dCallNL, TN.fIxTs, TN.sForI, TN.dCompI, TN.dCompL, TN.dCompT, TN.dCompR, TN.iL, TN.iT, TN.iR1, TN.iR2, TN.iR3, TN.iS, TN.iE, TN.iRv, TN.iZ, TN.dKeepT, TN.dCallT, TN.pTup, TN.pCons, TN.pOwn, TN.sAsgT, TN.sRetT, TN.tpL, TN.fIxT, TN.fTp, TN.dAppendT, TN.dReverseT, TN.dClearT, TN.dVarT, TN.dReverse, TN.dClear, TN.dPop, Pt.d, Sl.tp.injEq, TN.startF, TN.dCallV, Sl.fn.injEq, TN.dCallF, TN.dLRev, TN.dLAdd, TN.dLSlP, TN.dLSlice, TN.dSliceE, TN.dNo, TN.dEnd, TN.fNo, TN.sSeq, TN.sNext, TN.sDrop, TN.sRet, TN.sRetL, TN.sRetN, TN.sIf, TN.sAsg, TN.sAsgL, TN.sStore, TN.sForL, TN.sForT, TN.sForR, TN.sForR2, TN.tgN, TN.tgTup, TN.tgCons, TN.tgNil, TN.dP, TN.dB, TN.dCall, TN.dCallL, TN.dCallB, TN.dCallBL, TN.dCons, TN.dNil, TN.dTup, TN.dLst, TN.dKeep, TN.dVar, TN.fVar, TN.fPeek, TN.fC, TN.f2, TN.d2, TN.d2V, TN.f1, TN.d1, TN.fCB, TN.dCB, TN.dCBL, TN.fNil, TN.fCons, TN.asBool, TN.dTest, TN.bAnd, TN.bOr, TN.bNot, TN.dAnd, TN.dOr, TN.dNot, TN.fAndV, TN.fOrV, TN.fNotV, TN.dAndV, TN.dOrV, TN.dNotV, TN.dIfE, TN.dIfL, TN.fIfE, TN.fChain, TN.fSlice, TN.dSlice, TN.fNo, TN.fEnd, TN.dAppend, TN.dInsert, TN.dPopAt, TN.ownL, TN.start0, TN.begB, TN.backD, TN.wipeD, TN.dYes, TN.sNever, List.getElem?_cons_zero, List.getElem?_cons_succ, List.set_cons_zero, List.set_cons_succ, List.map_cons, List.map_nil, List.length_cons, List.length_nil, List.cons_append, List.nil_append, List.replicate_succ, List.replicate_zero, Option.map_some, Option.map_none, Nat.add_one_sub_one, Nat.sub_zero, Nat.sub_self, Nat.zero_add, reduceCtorEq, Option.some.injEq, PyData.int.injEq, PyData.str.injEq, PyData.bool.injEq, PyData.list.injEq, PyData.tuple.injEq, Sl.sh.injEq, Sl.ow.injEq, List.cons.injEq, exists_eq_left', exists_eq_left, true_implies, false_implies, and_true, true_and, forall_const, Option.isSome_some, TN.imp_ff, TN.imp_tf, TN.imp_tt, exists_eq_left, exists_eq_left', exists_eq])
  exact ⟨r, rfl, gr, _, rfl, r, s, rfl, gr, hs, f1, _, rfl, r, w, rfl, gr, hw, f2, _, rfl, q⟩

abbrev s_fewest_faults : Stmt := topS 17
theorem sc_fewest_faults : FnScope ["told_at", "heard_at", "behind", "table", "place", "done"] ["told_at", "heard_at"] (defScope s_fewest_faults) := ⟨rfl, rfl, rfl, by decide +kernel, rfl, by decide +kernel, by decide +kernel⟩
theorem ok_fewest_faults (b : Blt mg) (h_fewest : Has P w K mg base "fewest" 1 ["found"] (sp0 K semFewest)) (h_ways : Has P w K mg base "ways" 2 ["place", "heard_at", "done", "behind"] (sp0 K semWays)) {f : Addr} {fd : FuncData} (F : Fun K "fewest_faults" "fewest_faults" s_fewest_faults f fd) : FnG P w K mg base CX0 3 f fd ["told_at", "heard_at"] (sp0 K semFewestFaults) := by
  refine fn0 (k := 2) F sc_fewest_faults (fun ds Q h => by obtain ⟨ps, qs, rfl, _⟩ := h; rfl) (fun cdv A outer s H E hg hr =>
    have nd := sc_fewest_faults.nd
    have hu := hr.units
    have hu1 := hu_of hr
    (pss_cons (ps_set (i := 2) nd rfl (by first | exact Or.inl rfl | exact Or.inr rfl) (pe_op op_addU (pe_op op_rep (pe_lst (pa_cons pe_non pa_nil)) (pe_callB call_len (by rfl) b.len (by decide +kernel) (pa_cons (pv 1) pa_nil))) (pe_lst (pa_cons pe_int pa_nil))))
 (pss_cons (ps_set (i := 3) nd rfl (by first | exact Or.inl rfl | exact Or.inr rfl) (pe_lst (pa_cons (pv 2) pa_nil)))
 (pss_cons (ps_for PassesOwn.never rfl (RT.pi_revA (by rfl) b.reversed (pv 0)) (pg_name (i := 4) nd rfl (by first | exact Or.inl rfl | exact Or.inr rfl)) (pss_cons (ps_set (i := 2) nd rfl (by first | exact Or.inl rfl | exact Or.inr rfl) (pe_lc (own := [("done", 5)]) (g := gName 5) (tt := tYes) rfl nd (pi_range1 (by rfl) b.range (pa_cons (pe_op op_addU (pe_callB call_len (by rfl) b.len (by decide +kernel) (pa_cons (pv 1) pa_nil)) pe_int) pa_nil)) (blkOk_by (own := [("done", 5)]) (N := ["told_at", "heard_at", "behind", "table", "place", "done"]) (sc := defScope s_fewest_faults) (by decide +kernel)) (fun _ _ _ _ _ => pg_name (i := 5) nd rfl (by first | exact Or.inl rfl | exact Or.inr rfl)) (fun _ _ _ _ _ => by exact pts_nil) (fun _ _ _ _ _ => by exact (pe_has (h_fewest.up (by decide)) hg hr (by rfl) (pa_cons (pe_has (h_ways.up (by decide)) hg hr (by rfl) (pa_cons (pv 4) (pa_cons (pv 1) (pa_cons (pv 5) (pa_cons (pv 2) pa_nil))))) pa_nil)))))
 (pss_one (ps_expr (by exact (pe_bm PySem.F.plainAttrs_list PySem.F.slot_list_append PySem.F.type_list_append mt_append (pv 3) (pa_cons (pv 2) pa_nil)))))))
 (pss_one (ps_ret (pe_revX (pv 3))))))))
    (ls_seq (ls_asg (le_op (LL.e (ll_rep (ll_lst (les_cons (LP.e lp_non) les_nil)) (LP.m (lp_cb (lms_cons (LP.m (lp_var (i := 1))) lms_nil) rc_len)))) (LL.e (ll_lst (les_cons (LP.e lp_int) les_nil))) rb_add) (lg_name (i := 2) (by decide)))
 (ls_seq (ls_asgL (i := 3) (by decide) (ll_lst (les_cons (LP.e (lp_var (i := 2))) les_nil)))
 (ls_seq (ls_forI (li_rev (LP.e (lp_var (i := 0)))) (lgp_of (lg_name (i := 4) (by decide))) (ls_seq (ls_asg (LL.e (ll_compR (j := 5) (vs := [5]) (by decide) (by decide) (les_cons (LP.e (lp_op (LP.m (lp_cb (lms_cons (LP.m (lp_var (i := 1))) lms_nil) rc_len)) (LP.m lp_int) rb_add)) les_nil) lt_yes (le_call (les_cons (LL.e (ll_call (les_cons (LP.e (lp_var (i := 4))) (les_cons (LP.e (lp_var (i := 1))) (les_cons (LP.e (lp_var (i := 5))) (les_cons (LP.e (lp_var (i := 2))) les_nil)))))) les_nil)))) (lg_name (i := 2) (by decide)))
 (ls_drop (le_append (j := 3) (LP.e (lp_var (i := 2)))))))
 (ls_retL (ll_rev (lm_peek (i := 3))))))) ?_
  rintro ds Q ⟨ps, qs, rfl, f1, f2, q⟩
  (simp only [TN.dCallO, TN.dCallOI, TN.dCallNO, TN.oVar, TN.sCut, TN.tgLst, TN.iK, TN.iV, TN.iLT, TN.pNew, TN.dCallN, TN.dCompI2, TN.dLAddE, TN.oD, TN.sDNew, TN.sPutD, TN.fGetO, TN.fGetO2, TN.fInO, TN.fNinO, TN.dVarD, TN.dExtS, TN.mOwn, TN.dCallM, TN.mVar, TN.sRetV, TN.dAug, TN.dCallNT, TN.dCallNL, TN.fIxTs, TN.sForI, TN.dCompI, TN.dCompL, TN.dCompT, TN.dCompR, TN.iL, TN.iT, TN.iR1, TN.iR2, TN.iR3, TN.iS, TN.iE, TN.iRv, TN.iZ, TN.dKeepT, TN.dCallT, TN.pTup, TN.pCons, TN.pOwn, TN.sAsgT, TN.sRetT, TN.tpL, TN.fIxT, TN.fTp, TN.dAppendT, TN.dReverseT, TN.dClearT, TN.dVarT, TN.dReverse, TN.dClear, TN.dPop, Pt.d, Sl.tp.injEq, TN.startF, TN.dCallV, Sl.fn.injEq, TN.dCallF, TN.dLRev, TN.dLAdd, TN.dLSlP, TN.dLSlice, TN.dSliceE, TN.dNo, TN.dEnd, TN.fNo, TN.sSeq, TN.sNext, TN.sDrop, TN.sRet, TN.sRetL, TN.sRetN, TN.sIf, TN.sAsg, TN.sAsgL, TN.sStore, TN.sForL, TN.sForT, TN.sForR, TN.sForR2, TN.tgN, TN.tgTup, TN.tgCons, TN.tgNil, TN.dP, TN.dB, TN.dCall, TN.dCallL, TN.dCallB, TN.dCallBL, TN.dCons, TN.dNil, TN.dTup, TN.dLst, TN.dKeep, TN.dVar, TN.fVar, TN.fPeek, TN.fC, TN.f2, TN.d2, TN.d2V, TN.f1, TN.d1, TN.fCB, TN.dCB, TN.dCBL, TN.fNil, TN.fCons, TN.asBool, TN.dTest, TN.bAnd, TN.bOr, TN.bNot, TN.dAnd, TN.dOr, TN.dNot, TN.fAndV, TN.fOrV, TN.fNotV, TN.dAndV, TN.dOrV, TN.dNotV, TN.dIfE, TN.dIfL, TN.fIfE, TN.fChain, TN.fSlice, TN.dSlice, TN.fNo, TN.fEnd, TN.dAppend, TN.dInsert, TN.dPopAt, TN.ownL, TN.start0, TN.begB, TN.backD, TN.wipeD, TN.dYes, TN.sNever, List.getElem?_cons_zero, List.getElem?_cons_succ, List.set_cons_zero, List.set_cons_succ, List.map_cons, List.map_nil, List.length_cons, List.length_nil, List.cons_append, List.nil_append, List.replicate_succ, List.replicate_zero, Option.map_some, Option.map_none, Nat.add_one_sub_one, Nat.sub_zero, Nat.sub_self, Nat.zero_add, reduceCtorEq, Option.some.injEq, PyData.int.injEq, PyData.str.injEq, PyData.bool.injEq, PyData.list.injEq, PyData.tuple.injEq, Sl.sh.injEq, Sl.ow.injEq, List.cons.injEq, exists_eq_left', exists_eq_left, true_implies, false_implies, and_true, true_and, forall_const, Option.isSome_some, TN.imp_ff, TN.imp_tf, TN.imp_tt, exists_eq_left, exists_eq_left', exists_eq])
  unfold dRep
  (simp only [TN.dCallO, TN.dCallOI, TN.dCallNO, TN.oVar, TN.sCut, TN.tgLst, TN.iK, TN.iV, TN.iLT, TN.pNew, TN.dCallN, TN.dCompI2, TN.dLAddE, TN.oD, TN.sDNew, TN.sPutD, TN.fGetO, TN.fGetO2, TN.fInO, TN.fNinO, TN.dVarD, TN.dExtS, TN.mOwn, TN.dCallM, TN.mVar, TN.sRetV, TN.dAug, TN.dCallNT, TN.dCallNL, TN.fIxTs, TN.sForI, TN.dCompI, TN.dCompL, TN.dCompT, TN.dCompR, TN.iL, TN.iT, TN.iR1, TN.iR2, TN.iR3, TN.iS, TN.iE, TN.iRv, TN.iZ, TN.dKeepT, TN.dCallT, TN.pTup, TN.pCons, TN.pOwn, TN.sAsgT, TN.sRetT, TN.tpL, TN.fIxT, TN.fTp, TN.dAppendT, TN.dReverseT, TN.dClearT, TN.dVarT, TN.dReverse, TN.dClear, TN.dPop, Pt.d, Sl.tp.injEq, TN.startF, TN.dCallV, Sl.fn.injEq, TN.dCallF, TN.dLRev, TN.dLAdd, TN.dLSlP, TN.dLSlice, TN.dSliceE, TN.dNo, TN.dEnd, TN.fNo, TN.sSeq, TN.sNext, TN.sDrop, TN.sRet, TN.sRetL, TN.sRetN, TN.sIf, TN.sAsg, TN.sAsgL, TN.sStore, TN.sForL, TN.sForT, TN.sForR, TN.sForR2, TN.tgN, TN.tgTup, TN.tgCons, TN.tgNil, TN.dP, TN.dB, TN.dCall, TN.dCallL, TN.dCallB, TN.dCallBL, TN.dCons, TN.dNil, TN.dTup, TN.dLst, TN.dKeep, TN.dVar, TN.fVar, TN.fPeek, TN.fC, TN.f2, TN.d2, TN.d2V, TN.f1, TN.d1, TN.fCB, TN.dCB, TN.dCBL, TN.fNil, TN.fCons, TN.asBool, TN.dTest, TN.bAnd, TN.bOr, TN.bNot, TN.dAnd, TN.dOr, TN.dNot, TN.fAndV, TN.fOrV, TN.fNotV, TN.dAndV, TN.dOrV, TN.dNotV, TN.dIfE, TN.dIfL, TN.fIfE, TN.fChain, TN.fSlice, TN.dSlice, TN.fNo, TN.fEnd, TN.dAppend, TN.dInsert, TN.dPopAt, TN.ownL, TN.start0, TN.begB, TN.backD, TN.wipeD, TN.dYes, TN.sNever, List.getElem?_cons_zero, List.getElem?_cons_succ, List.set_cons_zero, List.set_cons_succ, List.map_cons, List.map_nil, List.length_cons, List.length_nil, List.cons_append, List.nil_append, List.replicate_succ, List.replicate_zero, Option.map_some, Option.map_none, Nat.add_one_sub_one, Nat.sub_zero, Nat.sub_self, Nat.zero_add, reduceCtorEq, Option.some.injEq, PyData.int.injEq, PyData.str.injEq, PyData.bool.injEq, PyData.list.injEq, PyData.tuple.injEq, Sl.sh.injEq, Sl.ow.injEq, List.cons.injEq, exists_eq_left', exists_eq_left, true_implies, false_implies, and_true, true_and, forall_const, Option.isSome_some, TN.imp_ff, TN.imp_tf, TN.imp_tt, exists_eq_left, exists_eq_left', exists_eq])
  refine ⟨by omega, qs.length, oLen_lstN, by omega, by omega, by omega, by omega, .list (rowL [] qs), ?_, by omega, _, .inl rfl, ?_⟩
  · have e : (List.replicate (qs.length : Int).toNat [PyData.none]).flatten ++ [PyData.int 0] = rowL [] qs := by
      unfold rowL
      rw [List.range_succ, List.map_append, show (List.replicate (qs.length : Int).toNat [PyData.none]).flatten = List.replicate qs.length PyData.none by
        rw [Int.toNat_natCast]; generalize qs.length = n; induction n with | zero => rfl | succ n ih => rw [List.replicate_succ, List.flatten_cons, ih]; rfl]
      congr 1
      · apply List.ext_getElem
        · simp
        · intro i h1 h2
          rw [List.getElem_replicate, List.getElem_map, List.getElem_range]
          have hi : i < qs.length := by simpa using h1
          rw [List.drop_eq_getElem_cons hi]; rfl
      · rw [List.map_singleton, List.drop_length]; rfl
    have := oAdd_lst (a := (List.replicate (qs.length : Int).toNat [PyData.none]).flatten) (b := [.int 0]) (by
      rw [show (List.replicate (qs.length : Int).toNat [PyData.none]).flatten.length = qs.length by simp]; simp; omega)
    rw [e] at this
    exact this
  rw [← List.map_reverse]
  refine forD_go (fun (k : Nat) => PyData.int k) (fun ls ρ => ∃ (ss : List Nat) (b4 : Sl), ps = ls.reverse ++ ss ∧ ρ = [.sh (lstN ps), .sh (lstN qs), .sh (.list (rowL ss qs)), .ow (tableL ss qs).reverse, b4, .no]) ?_ ?_ _ _ ⟨[], _, by simp, rfl⟩
  rotate_left
  · rintro ρ ⟨ss, b4, e, rfl⟩
    have e : ps = ss := by simpa using e
    subst e
    (simp only [TN.dCallO, TN.dCallOI, TN.dCallNO, TN.oVar, TN.sCut, TN.tgLst, TN.iK, TN.iV, TN.iLT, TN.pNew, TN.dCallN, TN.dCompI2, TN.dLAddE, TN.oD, TN.sDNew, TN.sPutD, TN.fGetO, TN.fGetO2, TN.fInO, TN.fNinO, TN.dVarD, TN.dExtS, TN.mOwn, TN.dCallM, TN.mVar, TN.sRetV, TN.dAug, TN.dCallNT, TN.dCallNL, TN.fIxTs, TN.sForI, TN.dCompI, TN.dCompL, TN.dCompT, TN.dCompR, TN.iL, TN.iT, TN.iR1, TN.iR2, TN.iR3, TN.iS, TN.iE, TN.iRv, TN.iZ, TN.dKeepT, TN.dCallT, TN.pTup, TN.pCons, TN.pOwn, TN.sAsgT, TN.sRetT, TN.tpL, TN.fIxT, TN.fTp, TN.dAppendT, TN.dReverseT, TN.dClearT, TN.dVarT, TN.dReverse, TN.dClear, TN.dPop, Pt.d, Sl.tp.injEq, TN.startF, TN.dCallV, Sl.fn.injEq, TN.dCallF, TN.dLRev, TN.dLAdd, TN.dLSlP, TN.dLSlice, TN.dSliceE, TN.dNo, TN.dEnd, TN.fNo, TN.sSeq, TN.sNext, TN.sDrop, TN.sRet, TN.sRetL, TN.sRetN, TN.sIf, TN.sAsg, TN.sAsgL, TN.sStore, TN.sForL, TN.sForT, TN.sForR, TN.sForR2, TN.tgN, TN.tgTup, TN.tgCons, TN.tgNil, TN.dP, TN.dB, TN.dCall, TN.dCallL, TN.dCallB, TN.dCallBL, TN.dCons, TN.dNil, TN.dTup, TN.dLst, TN.dKeep, TN.dVar, TN.fVar, TN.fPeek, TN.fC, TN.f2, TN.d2, TN.d2V, TN.f1, TN.d1, TN.fCB, TN.dCB, TN.dCBL, TN.fNil, TN.fCons, TN.asBool, TN.dTest, TN.bAnd, TN.bOr, TN.bNot, TN.dAnd, TN.dOr, TN.dNot, TN.fAndV, TN.fOrV, TN.fNotV, TN.dAndV, TN.dOrV, TN.dNotV, TN.dIfE, TN.dIfL, TN.fIfE, TN.fChain, TN.fSlice, TN.dSlice, TN.fNo, TN.fEnd, TN.dAppend, TN.dInsert, TN.dPopAt, TN.ownL, TN.start0, TN.begB, TN.backD, TN.wipeD, TN.dYes, TN.sNever, List.getElem?_cons_zero, List.getElem?_cons_succ, List.set_cons_zero, List.set_cons_succ, List.map_cons, List.map_nil, List.length_cons, List.length_nil, List.cons_append, List.nil_append, List.replicate_succ, List.replicate_zero, Option.map_some, Option.map_none, Nat.add_one_sub_one, Nat.sub_zero, Nat.sub_self, Nat.zero_add, reduceCtorEq, Option.some.injEq, PyData.int.injEq, PyData.str.injEq, PyData.bool.injEq, PyData.list.injEq, PyData.tuple.injEq, Sl.sh.injEq, Sl.ow.injEq, List.cons.injEq, exists_eq_left', exists_eq_left, true_implies, false_implies, and_true, true_and, forall_const, Option.isSome_some, TN.imp_ff, TN.imp_tf, TN.imp_tt, exists_eq_left, exists_eq_left', exists_eq])
    rw [List.reverse_reverse]
    exact q
  rintro p ls ρ E' ⟨ss, b4, e, rfl⟩ nx _ rt _
  (simp only [TN.dCallO, TN.dCallOI, TN.dCallNO, TN.oVar, TN.sCut, TN.tgLst, TN.iK, TN.iV, TN.iLT, TN.pNew, TN.dCallN, TN.dCompI2, TN.dLAddE, TN.oD, TN.sDNew, TN.sPutD, TN.fGetO, TN.fGetO2, TN.fInO, TN.fNinO, TN.dVarD, TN.dExtS, TN.mOwn, TN.dCallM, TN.mVar, TN.sRetV, TN.dAug, TN.dCallNT, TN.dCallNL, TN.fIxTs, TN.sForI, TN.dCompI, TN.dCompL, TN.dCompT, TN.dCompR, TN.iL, TN.iT, TN.iR1, TN.iR2, TN.iR3, TN.iS, TN.iE, TN.iRv, TN.iZ, TN.dKeepT, TN.dCallT, TN.pTup, TN.pCons, TN.pOwn, TN.sAsgT, TN.sRetT, TN.tpL, TN.fIxT, TN.fTp, TN.dAppendT, TN.dReverseT, TN.dClearT, TN.dVarT, TN.dReverse, TN.dClear, TN.dPop, Pt.d, Sl.tp.injEq, TN.startF, TN.dCallV, Sl.fn.injEq, TN.dCallF, TN.dLRev, TN.dLAdd, TN.dLSlP, TN.dLSlice, TN.dSliceE, TN.dNo, TN.dEnd, TN.fNo, TN.sSeq, TN.sNext, TN.sDrop, TN.sRet, TN.sRetL, TN.sRetN, TN.sIf, TN.sAsg, TN.sAsgL, TN.sStore, TN.sForL, TN.sForT, TN.sForR, TN.sForR2, TN.tgN, TN.tgTup, TN.tgCons, TN.tgNil, TN.dP, TN.dB, TN.dCall, TN.dCallL, TN.dCallB, TN.dCallBL, TN.dCons, TN.dNil, TN.dTup, TN.dLst, TN.dKeep, TN.dVar, TN.fVar, TN.fPeek, TN.fC, TN.f2, TN.d2, TN.d2V, TN.f1, TN.d1, TN.fCB, TN.dCB, TN.dCBL, TN.fNil, TN.fCons, TN.asBool, TN.dTest, TN.bAnd, TN.bOr, TN.bNot, TN.dAnd, TN.dOr, TN.dNot, TN.fAndV, TN.fOrV, TN.fNotV, TN.dAndV, TN.dOrV, TN.dNotV, TN.dIfE, TN.dIfL, TN.fIfE, TN.fChain, TN.fSlice, TN.dSlice, TN.fNo, TN.fEnd, TN.dAppend, TN.dInsert, TN.dPopAt, TN.ownL, TN.start0, TN.begB, TN.backD, TN.wipeD, TN.dYes, TN.sNever, List.getElem?_cons_zero, List.getElem?_cons_succ, List.set_cons_zero, List.set_cons_succ, List.map_cons, List.map_nil, List.length_cons, List.length_nil, List.cons_append, List.nil_append, List.replicate_succ, List.replicate_zero, Option.map_some, Option.map_none, Nat.add_one_sub_one, Nat.sub_zero, Nat.sub_self, Nat.zero_add, reduceCtorEq, Option.some.injEq, PyData.int.injEq, PyData.str.injEq, PyData.bool.injEq, PyData.list.injEq, PyData.tuple.injEq, Sl.sh.injEq, Sl.ow.injEq, List.cons.injEq, exists_eq_left', exists_eq_left, true_implies, false_implies, and_true, true_and, forall_const, Option.isSome_some, TN.imp_ff, TN.imp_tf, TN.imp_tt, exists_eq_left, exists_eq_left', exists_eq])
  have le : ss.length + 1 ≤ ps.length := by rw [e]; simp
  refine ⟨.int ((qs.length : Int) + 1), by rw [oLen_lstN]; rfl, _, rfl, by omega, by omega, ?_⟩
  rw [show ((qs.length : Int) + 1) = ((qs.length + 1 : Nat) : Int) by omega, rangeD_nat]
  refine comp_map (fun (k : Nat) => PyData.int k) (fun k => optD (fewF (p :: ss) (qs.drop k))) (fun k => k ≤ qs.length) rfl (fun _ => rfl) ?_ (List.range (qs.length + 1)) [] (fun k hk => by have := List.mem_range.mp hk; omega) (by simp; omega) ?_
  · intro k R hk kk
    (simp only [TN.dCallO, TN.dCallOI, TN.dCallNO, TN.oVar, TN.sCut, TN.tgLst, TN.iK, TN.iV, TN.iLT, TN.pNew, TN.dCallN, TN.dCompI2, TN.dLAddE, TN.oD, TN.sDNew, TN.sPutD, TN.fGetO, TN.fGetO2, TN.fInO, TN.fNinO, TN.dVarD, TN.dExtS, TN.mOwn, TN.dCallM, TN.mVar, TN.sRetV, TN.dAug, TN.dCallNT, TN.dCallNL, TN.fIxTs, TN.sForI, TN.dCompI, TN.dCompL, TN.dCompT, TN.dCompR, TN.iL, TN.iT, TN.iR1, TN.iR2, TN.iR3, TN.iS, TN.iE, TN.iRv, TN.iZ, TN.dKeepT, TN.dCallT, TN.pTup, TN.pCons, TN.pOwn, TN.sAsgT, TN.sRetT, TN.tpL, TN.fIxT, TN.fTp, TN.dAppendT, TN.dReverseT, TN.dClearT, TN.dVarT, TN.dReverse, TN.dClear, TN.dPop, Pt.d, Sl.tp.injEq, TN.startF, TN.dCallV, Sl.fn.injEq, TN.dCallF, TN.dLRev, TN.dLAdd, TN.dLSlP, TN.dLSlice, TN.dSliceE, TN.dNo, TN.dEnd, TN.fNo, TN.sSeq, TN.sNext, TN.sDrop, TN.sRet, TN.sRetL, TN.sRetN, TN.sIf, TN.sAsg, TN.sAsgL, TN.sStore, TN.sForL, TN.sForT, TN.sForR, TN.sForR2, TN.tgN, TN.tgTup, TN.tgCons, TN.tgNil, TN.dP, TN.dB, TN.dCall, TN.dCallL, TN.dCallB, TN.dCallBL, TN.dCons, TN.dNil, TN.dTup, TN.dLst, TN.dKeep, TN.dVar, TN.fVar, TN.fPeek, TN.fC, TN.f2, TN.d2, TN.d2V, TN.f1, TN.d1, TN.fCB, TN.dCB, TN.dCBL, TN.fNil, TN.fCons, TN.asBool, TN.dTest, TN.bAnd, TN.bOr, TN.bNot, TN.dAnd, TN.dOr, TN.dNot, TN.fAndV, TN.fOrV, TN.fNotV, TN.dAndV, TN.dOrV, TN.dNotV, TN.dIfE, TN.dIfL, TN.fIfE, TN.fChain, TN.fSlice, TN.dSlice, TN.fNo, TN.fEnd, TN.dAppend, TN.dInsert, TN.dPopAt, TN.ownL, TN.start0, TN.begB, TN.backD, TN.wipeD, TN.dYes, TN.sNever, List.getElem?_cons_zero, List.getElem?_cons_succ, List.set_cons_zero, List.set_cons_succ, List.map_cons, List.map_nil, List.length_cons, List.length_nil, List.cons_append, List.nil_append, List.replicate_succ, List.replicate_zero, Option.map_some, Option.map_none, Nat.add_one_sub_one, Nat.sub_zero, Nat.sub_self, Nat.zero_add, reduceCtorEq, Option.some.injEq, PyData.int.injEq, PyData.str.injEq, PyData.bool.injEq, PyData.list.injEq, PyData.tuple.injEq, Sl.sh.injEq, Sl.ow.injEq, List.cons.injEq, exists_eq_left', exists_eq_left, true_implies, false_implies, and_true, true_and, forall_const, Option.isSome_some, TN.imp_ff, TN.imp_tf, TN.imp_tt, exists_eq_left, exists_eq_left', exists_eq])
    refine ⟨p, qs, k, fun j => fewF ss (qs.drop j), rfl, hk, f2, _, rfl, (waysF p (qs.drop k) fun m => fewF ss (qs.drop (k + m))).map fun w => (w.1, w.2.1.d, .int ((k : Int) + w.2.2)), by rw [List.map_map]; rfl, ?_, _, rfl, ?_⟩
    · rw [List.length_map]
      have := evsAt_len p (qs.drop k)
      unfold waysF
      exact Nat.le_trans (List.length_filterMap_le _ _) (by omega)
    · have e2 : (List.map (fun x : Nat × D × D => x.1) (List.map (fun w : Way => (w.1, w.2.1.d, PyData.int ((k : Int) + w.2.2))) (waysF p (qs.drop k) fun m => fewF ss (qs.drop (k + m))))) = (waysF p (qs.drop k) fun m => fewF ss ((qs.drop k).drop m)).map (·.1) := by
        rw [List.map_map]
        simp only [List.drop_drop]; rfl
      rw [e2]
      exact kk
  rw [List.nil_append]
  have tl : ∀ l : List D, l = (tableL ss qs).reverse → l.length < 100000 := fun l h => by rw [h, List.length_reverse, tableL_len]; omega
  (simp only [TN.dCallO, TN.dCallOI, TN.dCallNO, TN.oVar, TN.sCut, TN.tgLst, TN.iK, TN.iV, TN.iLT, TN.pNew, TN.dCallN, TN.dCompI2, TN.dLAddE, TN.oD, TN.sDNew, TN.sPutD, TN.fGetO, TN.fGetO2, TN.fInO, TN.fNinO, TN.dVarD, TN.dExtS, TN.mOwn, TN.dCallM, TN.mVar, TN.sRetV, TN.dAug, TN.dCallNT, TN.dCallNL, TN.fIxTs, TN.sForI, TN.dCompI, TN.dCompL, TN.dCompT, TN.dCompR, TN.iL, TN.iT, TN.iR1, TN.iR2, TN.iR3, TN.iS, TN.iE, TN.iRv, TN.iZ, TN.dKeepT, TN.dCallT, TN.pTup, TN.pCons, TN.pOwn, TN.sAsgT, TN.sRetT, TN.tpL, TN.fIxT, TN.fTp, TN.dAppendT, TN.dReverseT, TN.dClearT, TN.dVarT, TN.dReverse, TN.dClear, TN.dPop, Pt.d, Sl.tp.injEq, TN.startF, TN.dCallV, Sl.fn.injEq, TN.dCallF, TN.dLRev, TN.dLAdd, TN.dLSlP, TN.dLSlice, TN.dSliceE, TN.dNo, TN.dEnd, TN.fNo, TN.sSeq, TN.sNext, TN.sDrop, TN.sRet, TN.sRetL, TN.sRetN, TN.sIf, TN.sAsg, TN.sAsgL, TN.sStore, TN.sForL, TN.sForT, TN.sForR, TN.sForR2, TN.tgN, TN.tgTup, TN.tgCons, TN.tgNil, TN.dP, TN.dB, TN.dCall, TN.dCallL, TN.dCallB, TN.dCallBL, TN.dCons, TN.dNil, TN.dTup, TN.dLst, TN.dKeep, TN.dVar, TN.fVar, TN.fPeek, TN.fC, TN.f2, TN.d2, TN.d2V, TN.f1, TN.d1, TN.fCB, TN.dCB, TN.dCBL, TN.fNil, TN.fCons, TN.asBool, TN.dTest, TN.bAnd, TN.bOr, TN.bNot, TN.dAnd, TN.dOr, TN.dNot, TN.fAndV, TN.fOrV, TN.fNotV, TN.dAndV, TN.dOrV, TN.dNotV, TN.dIfE, TN.dIfL, TN.fIfE, TN.fChain, TN.fSlice, TN.dSlice, TN.fNo, TN.fEnd, TN.dAppend, TN.dInsert, TN.dPopAt, TN.ownL, TN.start0, TN.begB, TN.backD, TN.wipeD, TN.dYes, TN.sNever, List.getElem?_cons_zero, List.getElem?_cons_succ, List.set_cons_zero, List.set_cons_succ, List.map_cons, List.map_nil, List.length_cons, List.length_nil, List.cons_append, List.nil_append, List.replicate_succ, List.replicate_zero, Option.map_some, Option.map_none, Nat.add_one_sub_one, Nat.sub_zero, Nat.sub_self, Nat.zero_add, reduceCtorEq, Option.some.injEq, PyData.int.injEq, PyData.str.injEq, PyData.bool.injEq, PyData.list.injEq, PyData.tuple.injEq, Sl.sh.injEq, Sl.ow.injEq, List.cons.injEq, exists_eq_left', exists_eq_left, true_implies, false_implies, and_true, true_and, forall_const, Option.isSome_some, TN.imp_ff, TN.imp_tf, TN.imp_tt, exists_eq_left, exists_eq_left', exists_eq])
  refine ⟨tl _ rfl, nx _ ⟨p :: ss, .sh (.int p), by rw [e]; simp, ?_⟩⟩
  rw [show tableL (p :: ss) qs = .list (rowL (p :: ss) qs) :: tableL ss qs from rfl, List.reverse_cons]
  rfl

abbrev s_ways : Stmt := topS 18
theorem sc_ways : FnScope ["place", "heard_at", "done", "behind", "found", "event", "more", "faults"] ["place", "heard_at", "done", "behind"] (defScope s_ways) := ⟨rfl, rfl, rfl, by decide +kernel, rfl, by decide +kernel, by decide +kernel⟩
theorem ok_ways (b : Blt mg) (h_events_at : Has P w K mg base "events_at" 1 ["place", "heard_at", "done"] (sp0 K semEventsAt)) {f : Addr} {fd : FuncData} (F : Fun K "ways" "ways" s_ways f fd) : FnG P w K mg base CX0 2 f fd ["place", "heard_at", "done", "behind"] (sp0 K semWays) := by
  refine fn0 (k := 1) F sc_ways (fun ds Q h => by obtain ⟨p, qs, d, f, rfl, _⟩ := h; rfl) (fun cdv A outer s H E hg hr =>
    have nd := sc_ways.nd
    have hu := hr.units
    have hu1 := hu_of hr
    (pss_cons (ps_set (i := 4) nd rfl (by first | exact Or.inl rfl | exact Or.inr rfl) (pe_lst pa_nil))
 (pss_cons (ps_for PassesOwn.never rfl (pi_list (pe_has (h_events_at.up (by decide)) hg hr (by rfl) (pa_cons (pv 0) (pa_cons (pv 1) (pa_cons (pv 2) pa_nil))))) (pg_tup (n := 2) rfl (pgs_cons (pg_name (i := 5) nd rfl (by first | exact Or.inl rfl | exact Or.inr rfl)) (pgs_cons (pg_name (i := 6) nd rfl (by first | exact Or.inl rfl | exact Or.inr rfl)) pgs_nil))) (pss_cons (ps_set (i := 7) nd rfl (by first | exact Or.inl rfl | exact Or.inr rfl) (pe_ix ix_seq (pv 3) (pe_op op_addU (pv 2) (pv 6)) (fun _ _ => rfl)))
 (pss_one (ps_if (pt_cmpR op_notN1 (pv 7) pe_non (nomark _)) (pss_one (ps_expr (by exact (pe_bm PySem.F.plainAttrs_list PySem.F.slot_list_append PySem.F.type_list_append mt_append (pv 4) (pa_cons (pe_tupX (pa_cons (pe_ifExp (pt_cmpR (op_eqD hu) (pe_ix ix_seq (pv 5) pe_int (fun _ _ => rfl)) pe_str (nomark _)) (pv 7) (pe_op op_addU (pv 7) pe_int)) (pa_cons (pv 5) (pa_cons (pe_op op_addU (pv 2) (pv 6)) pa_nil)))) pa_nil))))) pss_nil))))
 (pss_one (ps_ret (pv 4))))))
    (ls_seq (ls_asgL (i := 4) (by decide) (ll_lst les_nil))
 (ls_seq (ls_forL (LL.e (ll_call (les_cons (LP.e (lp_var (i := 0))) (les_cons (LP.e (lp_var (i := 1))) (les_cons (LP.e (lp_var (i := 2))) les_nil))))) (lg_tup (lgs_cons (lg_name (i := 5) (by decide)) (lgs_cons (lg_name (i := 6) (by decide)) lgs_nil))) (ls_seq (ls_asg (LP.e (lp_op (LP.m (lp_var (i := 3))) (LP.m (lp_op (LP.m (lp_var (i := 2))) (LP.m (lp_var (i := 6))) rb_add)) rb_ix)) (lg_name (i := 7) (by decide)))
 (ls_if (LB.g (lb_test (LP.m (lp_op (LP.m (lp_var (i := 7))) (LP.m lp_non) rb_notN)))) (ls_drop (le_append (j := 4) (le_tup (les_cons (le_ifE (LB.g (lb_test (LP.m (lp_op (LP.m (lp_op (LP.m (lp_var (i := 5))) (LP.m lp_int) rb_ix)) (LP.m lp_str) rb_eq)))) (LP.e (lp_var (i := 7))) (LP.e (lp_op (LP.m (lp_var (i := 7))) (LP.m lp_int) rb_add))) (les_cons (LP.e (lp_var (i := 5))) (les_cons (LP.e (lp_op (LP.m (lp_var (i := 2))) (LP.m (lp_var (i := 6))) rb_add)) les_nil)))))) ls_next)))
 (ls_retV (j := 4) (by decide)))) ?_
  rintro ds Q ⟨p, qs, done, f, rfl, hd, few, q⟩
  (simp only [TN.dCallO, TN.dCallOI, TN.dCallNO, TN.oVar, TN.sCut, TN.tgLst, TN.iK, TN.iV, TN.iLT, TN.pNew, TN.dCallN, TN.dCompI2, TN.dLAddE, TN.oD, TN.sDNew, TN.sPutD, TN.fGetO, TN.fGetO2, TN.fInO, TN.fNinO, TN.dVarD, TN.dExtS, TN.mOwn, TN.dCallM, TN.mVar, TN.sRetV, TN.dAug, TN.dCallNT, TN.dCallNL, TN.fIxTs, TN.sForI, TN.dCompI, TN.dCompL, TN.dCompT, TN.dCompR, TN.iL, TN.iT, TN.iR1, TN.iR2, TN.iR3, TN.iS, TN.iE, TN.iRv, TN.iZ, TN.dKeepT, TN.dCallT, TN.pTup, TN.pCons, TN.pOwn, TN.sAsgT, TN.sRetT, TN.tpL, TN.fIxT, TN.fTp, TN.dAppendT, TN.dReverseT, TN.dClearT, TN.dVarT, TN.dReverse, TN.dClear, TN.dPop, Pt.d, Sl.tp.injEq, TN.startF, TN.dCallV, Sl.fn.injEq, TN.dCallF, TN.dLRev, TN.dLAdd, TN.dLSlP, TN.dLSlice, TN.dSliceE, TN.dNo, TN.dEnd, TN.fNo, TN.sSeq, TN.sNext, TN.sDrop, TN.sRet, TN.sRetL, TN.sRetN, TN.sIf, TN.sAsg, TN.sAsgL, TN.sStore, TN.sForL, TN.sForT, TN.sForR, TN.sForR2, TN.tgN, TN.tgTup, TN.tgCons, TN.tgNil, TN.dP, TN.dB, TN.dCall, TN.dCallL, TN.dCallB, TN.dCallBL, TN.dCons, TN.dNil, TN.dTup, TN.dLst, TN.dKeep, TN.dVar, TN.fVar, TN.fPeek, TN.fC, TN.f2, TN.d2, TN.d2V, TN.f1, TN.d1, TN.fCB, TN.dCB, TN.dCBL, TN.fNil, TN.fCons, TN.asBool, TN.dTest, TN.bAnd, TN.bOr, TN.bNot, TN.dAnd, TN.dOr, TN.dNot, TN.fAndV, TN.fOrV, TN.fNotV, TN.dAndV, TN.dOrV, TN.dNotV, TN.dIfE, TN.dIfL, TN.fIfE, TN.fChain, TN.fSlice, TN.dSlice, TN.fNo, TN.fEnd, TN.dAppend, TN.dInsert, TN.dPopAt, TN.ownL, TN.start0, TN.begB, TN.backD, TN.wipeD, TN.dYes, TN.sNever, List.getElem?_cons_zero, List.getElem?_cons_succ, List.set_cons_zero, List.set_cons_succ, List.map_cons, List.map_nil, List.length_cons, List.length_nil, List.cons_append, List.nil_append, List.replicate_succ, List.replicate_zero, Option.map_some, Option.map_none, Nat.add_one_sub_one, Nat.sub_zero, Nat.sub_self, Nat.zero_add, reduceCtorEq, Option.some.injEq, PyData.int.injEq, PyData.str.injEq, PyData.bool.injEq, PyData.list.injEq, PyData.tuple.injEq, Sl.sh.injEq, Sl.ow.injEq, List.cons.injEq, exists_eq_left', exists_eq_left, true_implies, false_implies, and_true, true_and, forall_const, Option.isSome_some, TN.imp_ff, TN.imp_tf, TN.imp_tt, exists_eq_left, exists_eq_left', exists_eq])
  refine ⟨by omega, p, qs, done, rfl, hd, few, _, rfl, ?_⟩
  have hle : ∀ em ∈ evsAt p (qs.drop done), em.2 + done ≤ qs.length ∧ em.1.un := fun em he => by
    have := evsAt_le (m := em.2) (e := em.1) he
    rw [List.length_drop] at this
    exact ⟨by omega, evsAt_un (m := em.2) (e := em.1) he⟩
  have l3 := evsAt_len p (qs.drop done)
  refine forD_go (fun em : Ev × Nat => .tuple [em.1.d, .int em.2]) (fun ls ρ => (∀ em ∈ ls, em.2 + done ≤ qs.length ∧ em.1.un) ∧ ∃ (acc : List Way) (b5 b6 b7 : Sl), acc ++ wF (fun m => f (done + m)) ls = waysF p (qs.drop done) (fun m => f (done + m)) ∧ acc.length + ls.length ≤ 3 ∧
    ρ = [.sh (.int p), .sh (lstN qs), .sh (.int done), .sh (.list ((List.range (qs.length + 1)).map fun k => optD (f k))), .ow (acc.map fun w => .tuple [.int w.1, w.2.1.d, .int ((done : Int) + w.2.2)]), b5, b6, b7]) ?_ ?_ _ _ ⟨hle, [], .no, .no, .no, rfl, by simpa using l3, rfl⟩
  rotate_left
  · rintro ρ ⟨_, acc, b5, b6, b7, e, _, rfl⟩
    rw [show wF (fun m => f (done + m)) [] = [] from rfl, List.append_nil] at e
    subst e
    (simp only [TN.dCallO, TN.dCallOI, TN.dCallNO, TN.oVar, TN.sCut, TN.tgLst, TN.iK, TN.iV, TN.iLT, TN.pNew, TN.dCallN, TN.dCompI2, TN.dLAddE, TN.oD, TN.sDNew, TN.sPutD, TN.fGetO, TN.fGetO2, TN.fInO, TN.fNinO, TN.dVarD, TN.dExtS, TN.mOwn, TN.dCallM, TN.mVar, TN.sRetV, TN.dAug, TN.dCallNT, TN.dCallNL, TN.fIxTs, TN.sForI, TN.dCompI, TN.dCompL, TN.dCompT, TN.dCompR, TN.iL, TN.iT, TN.iR1, TN.iR2, TN.iR3, TN.iS, TN.iE, TN.iRv, TN.iZ, TN.dKeepT, TN.dCallT, TN.pTup, TN.pCons, TN.pOwn, TN.sAsgT, TN.sRetT, TN.tpL, TN.fIxT, TN.fTp, TN.dAppendT, TN.dReverseT, TN.dClearT, TN.dVarT, TN.dReverse, TN.dClear, TN.dPop, Pt.d, Sl.tp.injEq, TN.startF, TN.dCallV, Sl.fn.injEq, TN.dCallF, TN.dLRev, TN.dLAdd, TN.dLSlP, TN.dLSlice, TN.dSliceE, TN.dNo, TN.dEnd, TN.fNo, TN.sSeq, TN.sNext, TN.sDrop, TN.sRet, TN.sRetL, TN.sRetN, TN.sIf, TN.sAsg, TN.sAsgL, TN.sStore, TN.sForL, TN.sForT, TN.sForR, TN.sForR2, TN.tgN, TN.tgTup, TN.tgCons, TN.tgNil, TN.dP, TN.dB, TN.dCall, TN.dCallL, TN.dCallB, TN.dCallBL, TN.dCons, TN.dNil, TN.dTup, TN.dLst, TN.dKeep, TN.dVar, TN.fVar, TN.fPeek, TN.fC, TN.f2, TN.d2, TN.d2V, TN.f1, TN.d1, TN.fCB, TN.dCB, TN.dCBL, TN.fNil, TN.fCons, TN.asBool, TN.dTest, TN.bAnd, TN.bOr, TN.bNot, TN.dAnd, TN.dOr, TN.dNot, TN.fAndV, TN.fOrV, TN.fNotV, TN.dAndV, TN.dOrV, TN.dNotV, TN.dIfE, TN.dIfL, TN.fIfE, TN.fChain, TN.fSlice, TN.dSlice, TN.fNo, TN.fEnd, TN.dAppend, TN.dInsert, TN.dPopAt, TN.ownL, TN.start0, TN.begB, TN.backD, TN.wipeD, TN.dYes, TN.sNever, List.getElem?_cons_zero, List.getElem?_cons_succ, List.set_cons_zero, List.set_cons_succ, List.map_cons, List.map_nil, List.length_cons, List.length_nil, List.cons_append, List.nil_append, List.replicate_succ, List.replicate_zero, Option.map_some, Option.map_none, Nat.add_one_sub_one, Nat.sub_zero, Nat.sub_self, Nat.zero_add, reduceCtorEq, Option.some.injEq, PyData.int.injEq, PyData.str.injEq, PyData.bool.injEq, PyData.list.injEq, PyData.tuple.injEq, Sl.sh.injEq, Sl.ow.injEq, List.cons.injEq, exists_eq_left', exists_eq_left, true_implies, false_implies, and_true, true_and, forall_const, Option.isSome_some, TN.imp_ff, TN.imp_tf, TN.imp_tt, exists_eq_left, exists_eq_left', exists_eq])
    exact q
  rintro ⟨e, m⟩ ls ρ E' ⟨hl, acc, b5, b6, b7, ea, la, rfl⟩ nx _ rt _
  obtain ⟨hm, un⟩ := hl (e, m) List.mem_cons_self
  have hl' := fun em he => hl em (List.mem_cons_of_mem _ he)
  have hm : m + done ≤ qs.length := hm
  rw [List.length_cons] at la
  (simp only [TN.dCallO, TN.dCallOI, TN.dCallNO, TN.oVar, TN.sCut, TN.tgLst, TN.iK, TN.iV, TN.iLT, TN.pNew, TN.dCallN, TN.dCompI2, TN.dLAddE, TN.oD, TN.sDNew, TN.sPutD, TN.fGetO, TN.fGetO2, TN.fInO, TN.fNinO, TN.dVarD, TN.dExtS, TN.mOwn, TN.dCallM, TN.mVar, TN.sRetV, TN.dAug, TN.dCallNT, TN.dCallNL, TN.fIxTs, TN.sForI, TN.dCompI, TN.dCompL, TN.dCompT, TN.dCompR, TN.iL, TN.iT, TN.iR1, TN.iR2, TN.iR3, TN.iS, TN.iE, TN.iRv, TN.iZ, TN.dKeepT, TN.dCallT, TN.pTup, TN.pCons, TN.pOwn, TN.sAsgT, TN.sRetT, TN.tpL, TN.fIxT, TN.fTp, TN.dAppendT, TN.dReverseT, TN.dClearT, TN.dVarT, TN.dReverse, TN.dClear, TN.dPop, Pt.d, Sl.tp.injEq, TN.startF, TN.dCallV, Sl.fn.injEq, TN.dCallF, TN.dLRev, TN.dLAdd, TN.dLSlP, TN.dLSlice, TN.dSliceE, TN.dNo, TN.dEnd, TN.fNo, TN.sSeq, TN.sNext, TN.sDrop, TN.sRet, TN.sRetL, TN.sRetN, TN.sIf, TN.sAsg, TN.sAsgL, TN.sStore, TN.sForL, TN.sForT, TN.sForR, TN.sForR2, TN.tgN, TN.tgTup, TN.tgCons, TN.tgNil, TN.dP, TN.dB, TN.dCall, TN.dCallL, TN.dCallB, TN.dCallBL, TN.dCons, TN.dNil, TN.dTup, TN.dLst, TN.dKeep, TN.dVar, TN.fVar, TN.fPeek, TN.fC, TN.f2, TN.d2, TN.d2V, TN.f1, TN.d1, TN.fCB, TN.dCB, TN.dCBL, TN.fNil, TN.fCons, TN.asBool, TN.dTest, TN.bAnd, TN.bOr, TN.bNot, TN.dAnd, TN.dOr, TN.dNot, TN.fAndV, TN.fOrV, TN.fNotV, TN.dAndV, TN.dOrV, TN.dNotV, TN.dIfE, TN.dIfL, TN.fIfE, TN.fChain, TN.fSlice, TN.dSlice, TN.fNo, TN.fEnd, TN.dAppend, TN.dInsert, TN.dPopAt, TN.ownL, TN.start0, TN.begB, TN.backD, TN.wipeD, TN.dYes, TN.sNever, List.getElem?_cons_zero, List.getElem?_cons_succ, List.set_cons_zero, List.set_cons_succ, List.map_cons, List.map_nil, List.length_cons, List.length_nil, List.cons_append, List.nil_append, List.replicate_succ, List.replicate_zero, Option.map_some, Option.map_none, Nat.add_one_sub_one, Nat.sub_zero, Nat.sub_self, Nat.zero_add, reduceCtorEq, Option.some.injEq, PyData.int.injEq, PyData.str.injEq, PyData.bool.injEq, PyData.list.injEq, PyData.tuple.injEq, Sl.sh.injEq, Sl.ow.injEq, List.cons.injEq, exists_eq_left', exists_eq_left, true_implies, false_implies, and_true, true_and, forall_const, Option.isSome_some, TN.imp_ff, TN.imp_tf, TN.imp_tt, exists_eq_left, exists_eq_left', exists_eq])
  have e1 : ((done : Int) + (m : Int)) = ((done + m : Nat) : Int) := by omega
  have e2 : (match some (PyData.list ((List.range (qs.length + 1)).map fun k => optD (f k))), oAdd (.int (done : Int)) (.int (m : Int)) with | some d, some e => oIx d e | _, _ => none) = some (optD (f (done + m))) := by
    show oIx _ (.int ((done : Int) + (m : Int))) = _
    rw [e1]; exact optD_at f (by omega)
  refine ⟨_, _, ⟨rfl, rfl⟩, _, _, rfl, rfl, _, e2, ?_⟩
  obtain ⟨w, i0, i1⟩ := ev_word e un
  cases hf : f (done + m) with
  | none =>
    refine ⟨false, rfl, (fun z => by cases z), fun _ => nx _ ⟨hl', acc, _, _, _, ?_, by omega, rfl⟩⟩
    rw [← ea, wF_none (f := fun m => f (done + m)) hf]
  | some n =>
    refine ⟨true, rfl, fun _ => ?_, (fun z => by cases z)⟩
    simp only [i0, i1]
    have fin : ∀ z : Int, z = ((n + costE e : Nat) : Int) → List.length (acc.map fun w => PyData.tuple [.int w.1, w.2.1.d, .int ((done : Int) + w.2.2)]) < 100000 ∧ E'.nx [.sh (.int p), .sh (lstN qs), .sh (.int done), .sh (.list ((List.range (qs.length + 1)).map fun k => optD (f k))), .ow ((acc.map fun w => PyData.tuple [.int w.1, w.2.1.d, .int ((done : Int) + w.2.2)]) ++ [.tuple [.int z, e.d, .int ((done : Int) + m)]]), .sh e.d, .sh (.int m), .sh (.int n)] := fun z ez => by
      subst ez
      refine ⟨by rw [List.length_map]; omega, nx _ ⟨hl', acc ++ [(n + costE e, e, m)], .sh e.d, .sh (.int m), .sh (.int n), ?_, by rw [List.length_append]; simp; omega, ?_⟩⟩
      · rw [← ea, wF_some (f := fun m => f (done + m)) hf, List.append_assoc]; rfl
      · rw [List.map_append]; rfl
    refine ⟨_, rfl, fun h => ⟨_, rfl, by omega, ?_⟩, fun h => ⟨_, rfl, _, rfl, by omega, ?_⟩⟩
    · exact fin n (by unfold costE; rw [if_pos h]; omega)
    · exact fin (n + 1) (by unfold costE; rw [if_neg (by rw [h]; exact Bool.false_ne_true)]; omega)

abbrev s_events_at : Stmt := topS 19
theorem sc_events_at : FnScope ["place", "heard_at", "done", "found", "coming"] ["place", "heard_at", "done"] (defScope s_events_at) := ⟨rfl, rfl, rfl, by decide +kernel, rfl, by decide +kernel, by decide +kernel⟩
theorem ok_events_at (b : Blt mg) {f : Addr} {fd : FuncData} (F : Fun K "events_at" "events_at" s_events_at f fd) : FnG P w K mg base CX0 1 f fd ["place", "heard_at", "done"] (sp0 K semEventsAt) := by
  refine fn0 (k := 0) F sc_events_at (fun ds Q h => by obtain ⟨p, qs, d, rfl, _⟩ := h; rfl) (fun cdv A outer s H E hg hr =>
    have nd := sc_events_at.nd
    have hu := hr.units
    have hu1 := hu_of hr
    (pss_cons (ps_set (i := 3) nd rfl (by first | exact Or.inl rfl | exact Or.inr rfl) (pe_lst (pa_cons (pe_tupX (pa_cons (pe_tupX (pa_cons pe_str (pa_cons (pv 0) pa_nil))) (pa_cons pe_int pa_nil))) pa_nil)))
 (pss_cons (ps_set (i := 4) nd rfl (by first | exact Or.inl rfl | exact Or.inr rfl) (pe_slice sl_U (pv 1) (po_some (pv 2)) (po_some (pe_op op_addU (pv 2) pe_int))))
 (pss_cons (ps_if (pt_cmpR (op_eqD hu) (pe_slice sl_U (pv 4) po_none (po_some pe_int)) (pe_lst (pa_cons (pv 0) pa_nil)) (nomark _)) (pss_one (ps_expr (by exact (pe_bm PySem.F.plainAttrs_list PySem.F.slot_list_append PySem.F.type_list_append mt_append (pv 3) (pa_cons (pe_tupX (pa_cons (pe_tupX (pa_cons pe_str (pa_cons (pv 0) pa_nil))) (pa_cons pe_int pa_nil))) pa_nil))))) (pss_one (ps_if (pt_cmpR op_gtU (pe_callB call_len (by rfl) b.len (by decide +kernel) (pa_cons (pv 4) pa_nil)) pe_int (nomark _)) (pss_one (ps_expr (by exact (pe_bm PySem.F.plainAttrs_list PySem.F.slot_list_append PySem.F.type_list_append mt_append (pv 3) (pa_cons (pe_tupX (pa_cons (pe_tupX (pa_cons pe_str (pa_cons (pv 0) (pa_cons (pe_ix ix_seq (pv 4) pe_int (fun _ _ => rfl)) pa_nil)))) (pa_cons pe_int pa_nil))) pa_nil))))) pss_nil)))
 (pss_cons (ps_if (pt_cmpR (op_eqD hu) (pv 4) (pe_lst (pa_cons (pv 0) (pa_cons (pv 0) pa_nil))) (nomark _)) (pss_one (ps_expr (by exact (pe_bm PySem.F.plainAttrs_list PySem.F.slot_list_append PySem.F.type_list_append mt_append (pv 3) (pa_cons (pe_tupX (pa_cons (pe_tupX (pa_cons pe_str (pa_cons (pv 0) pa_nil))) (pa_cons pe_int pa_nil))) pa_nil))))) pss_nil)
 (pss_one (ps_ret (pv 3))))))))
    (ls_seq (ls_asgL (i := 3) (by decide) (ll_lst (les_cons (le_tup (les_cons (le_tup (les_cons (LP.e lp_str) (les_cons (LP.e (lp_var (i := 0))) les_nil))) (les_cons (LP.e lp_int) les_nil))) les_nil)))
 (ls_seq (ls_asg (LP.e (lp_slice (LP.m (lp_var (i := 1))) (lo_some (LP.m (lp_var (i := 2)))) (lo_some (LP.m (lp_op (LP.m (lp_var (i := 2))) (LP.m lp_int) rb_add))))) (lg_name (i := 4) (by decide)))
 (ls_seq (ls_if (lt_test (le_op (LP.e (lp_slice (LP.m (lp_var (i := 4))) lo_none (lo_some (LP.m lp_int)))) (LL.e (ll_lst (les_cons (LP.e (lp_var (i := 0))) les_nil))) rb_eq)) (ls_drop (le_append (j := 3) (le_tup (les_cons (le_tup (les_cons (LP.e lp_str) (les_cons (LP.e (lp_var (i := 0))) les_nil))) (les_cons (LP.e lp_int) les_nil))))) (ls_if (LB.g (lb_test (LP.m (lp_op (LP.m (lp_cb (lms_cons (LP.m (lp_var (i := 4))) lms_nil) rc_len)) (LP.m lp_int) rb_U)))) (ls_drop (le_append (j := 3) (le_tup (les_cons (le_tup (les_cons (LP.e lp_str) (les_cons (LP.e (lp_var (i := 0))) (les_cons (LP.e (lp_op (LP.m (lp_var (i := 4))) (LP.m lp_int) rb_ix)) les_nil)))) (les_cons (LP.e lp_int) les_nil))))) ls_next))
 (ls_seq (ls_if (lt_test (le_op (LP.e (lp_var (i := 4))) (LL.e (ll_lst (les_cons (LP.e (lp_var (i := 0))) (les_cons (LP.e (lp_var (i := 0))) les_nil)))) rb_eq)) (ls_drop (le_append (j := 3) (le_tup (les_cons (le_tup (les_cons (LP.e lp_str) (les_cons (LP.e (lp_var (i := 0))) les_nil))) (les_cons (LP.e lp_int) les_nil))))) ls_next)
 (ls_retV (j := 3) (by decide)))))) ?_
  rintro ds Q ⟨p, qs, done, rfl, hd, few, q⟩
  (simp only [TN.dCallO, TN.dCallOI, TN.dCallNO, TN.oVar, TN.sCut, TN.tgLst, TN.iK, TN.iV, TN.iLT, TN.pNew, TN.dCallN, TN.dCompI2, TN.dLAddE, TN.oD, TN.sDNew, TN.sPutD, TN.fGetO, TN.fGetO2, TN.fInO, TN.fNinO, TN.dVarD, TN.dExtS, TN.mOwn, TN.dCallM, TN.mVar, TN.sRetV, TN.dAug, TN.dCallNT, TN.dCallNL, TN.fIxTs, TN.sForI, TN.dCompI, TN.dCompL, TN.dCompT, TN.dCompR, TN.iL, TN.iT, TN.iR1, TN.iR2, TN.iR3, TN.iS, TN.iE, TN.iRv, TN.iZ, TN.dKeepT, TN.dCallT, TN.pTup, TN.pCons, TN.pOwn, TN.sAsgT, TN.sRetT, TN.tpL, TN.fIxT, TN.fTp, TN.dAppendT, TN.dReverseT, TN.dClearT, TN.dVarT, TN.dReverse, TN.dClear, TN.dPop, Pt.d, Sl.tp.injEq, TN.startF, TN.dCallV, Sl.fn.injEq, TN.dCallF, TN.dLRev, TN.dLAdd, TN.dLSlP, TN.dLSlice, TN.dSliceE, TN.dNo, TN.dEnd, TN.fNo, TN.sSeq, TN.sNext, TN.sDrop, TN.sRet, TN.sRetL, TN.sRetN, TN.sIf, TN.sAsg, TN.sAsgL, TN.sStore, TN.sForL, TN.sForT, TN.sForR, TN.sForR2, TN.tgN, TN.tgTup, TN.tgCons, TN.tgNil, TN.dP, TN.dB, TN.dCall, TN.dCallL, TN.dCallB, TN.dCallBL, TN.dCons, TN.dNil, TN.dTup, TN.dLst, TN.dKeep, TN.dVar, TN.fVar, TN.fPeek, TN.fC, TN.f2, TN.d2, TN.d2V, TN.f1, TN.d1, TN.fCB, TN.dCB, TN.dCBL, TN.fNil, TN.fCons, TN.asBool, TN.dTest, TN.bAnd, TN.bOr, TN.bNot, TN.dAnd, TN.dOr, TN.dNot, TN.fAndV, TN.fOrV, TN.fNotV, TN.dAndV, TN.dOrV, TN.dNotV, TN.dIfE, TN.dIfL, TN.fIfE, TN.fChain, TN.fSlice, TN.dSlice, TN.fNo, TN.fEnd, TN.dAppend, TN.dInsert, TN.dPopAt, TN.ownL, TN.start0, TN.begB, TN.backD, TN.wipeD, TN.dYes, TN.sNever, List.getElem?_cons_zero, List.getElem?_cons_succ, List.set_cons_zero, List.set_cons_succ, List.map_cons, List.map_nil, List.length_cons, List.length_nil, List.cons_append, List.nil_append, List.replicate_succ, List.replicate_zero, Option.map_some, Option.map_none, Nat.add_one_sub_one, Nat.sub_zero, Nat.sub_self, Nat.zero_add, reduceCtorEq, Option.some.injEq, PyData.int.injEq, PyData.str.injEq, PyData.bool.injEq, PyData.list.injEq, PyData.tuple.injEq, Sl.sh.injEq, Sl.ow.injEq, List.cons.injEq, exists_eq_left', exists_eq_left, true_implies, false_implies, and_true, true_and, forall_const, Option.isSome_some, TN.imp_ff, TN.imp_tf, TN.imp_tt, exists_eq_left, exists_eq_left', exists_eq])
  refine ⟨by omega, by omega, by omega, lstN ((qs.drop done).take 2), oSlN_mid hd, _, oSlN_one, by omega, ?_⟩
  have e1 : ∀ xs : List Nat, oEq (lstN xs) (.list [.int p]) = some (.bool (decide (xs = [p]))) := fun xs => oEq_lstN (b := [p])
  have e2 : ∀ xs : List Nat, oEq (lstN xs) (.list [.int p, .int p]) = some (.bool (decide (xs = [p, p]))) := fun xs => oEq_lstN (b := [p, p])
  have gt : ∀ xs : List Nat, oU (fun i j => decide (j < i)) (fun i j => decide (j.cps.toList < i.cps.toList)) (.int (xs.length : Nat)) (.int 0) = some (.bool (decide ((0 : Int) < (xs.length : Int)))) := fun _ => rfl
  generalize hc : qs.drop done = c at q ⊢
  cases c with
  | nil =>
    simp only [evsAt, List.take_nil, e1, e2, oLen_lstN, gt, List.map_cons, List.map_nil] at q ⊢
    (simp only [TN.dCallO, TN.dCallOI, TN.dCallNO, TN.oVar, TN.sCut, TN.tgLst, TN.iK, TN.iV, TN.iLT, TN.pNew, TN.dCallN, TN.dCompI2, TN.dLAddE, TN.oD, TN.sDNew, TN.sPutD, TN.fGetO, TN.fGetO2, TN.fInO, TN.fNinO, TN.dVarD, TN.dExtS, TN.mOwn, TN.dCallM, TN.mVar, TN.sRetV, TN.dAug, TN.dCallNT, TN.dCallNL, TN.fIxTs, TN.sForI, TN.dCompI, TN.dCompL, TN.dCompT, TN.dCompR, TN.iL, TN.iT, TN.iR1, TN.iR2, TN.iR3, TN.iS, TN.iE, TN.iRv, TN.iZ, TN.dKeepT, TN.dCallT, TN.pTup, TN.pCons, TN.pOwn, TN.sAsgT, TN.sRetT, TN.tpL, TN.fIxT, TN.fTp, TN.dAppendT, TN.dReverseT, TN.dClearT, TN.dVarT, TN.dReverse, TN.dClear, TN.dPop, Pt.d, Sl.tp.injEq, TN.startF, TN.dCallV, Sl.fn.injEq, TN.dCallF, TN.dLRev, TN.dLAdd, TN.dLSlP, TN.dLSlice, TN.dSliceE, TN.dNo, TN.dEnd, TN.fNo, TN.sSeq, TN.sNext, TN.sDrop, TN.sRet, TN.sRetL, TN.sRetN, TN.sIf, TN.sAsg, TN.sAsgL, TN.sStore, TN.sForL, TN.sForT, TN.sForR, TN.sForR2, TN.tgN, TN.tgTup, TN.tgCons, TN.tgNil, TN.dP, TN.dB, TN.dCall, TN.dCallL, TN.dCallB, TN.dCallBL, TN.dCons, TN.dNil, TN.dTup, TN.dLst, TN.dKeep, TN.dVar, TN.fVar, TN.fPeek, TN.fC, TN.f2, TN.d2, TN.d2V, TN.f1, TN.d1, TN.fCB, TN.dCB, TN.dCBL, TN.fNil, TN.fCons, TN.asBool, TN.dTest, TN.bAnd, TN.bOr, TN.bNot, TN.dAnd, TN.dOr, TN.dNot, TN.fAndV, TN.fOrV, TN.fNotV, TN.dAndV, TN.dOrV, TN.dNotV, TN.dIfE, TN.dIfL, TN.fIfE, TN.fChain, TN.fSlice, TN.dSlice, TN.fNo, TN.fEnd, TN.dAppend, TN.dInsert, TN.dPopAt, TN.ownL, TN.start0, TN.begB, TN.backD, TN.wipeD, TN.dYes, TN.sNever, List.getElem?_cons_zero, List.getElem?_cons_succ, List.set_cons_zero, List.set_cons_succ, List.map_cons, List.map_nil, List.length_cons, List.length_nil, List.cons_append, List.nil_append, List.replicate_succ, List.replicate_zero, Option.map_some, Option.map_none, Nat.add_one_sub_one, Nat.sub_zero, Nat.sub_self, Nat.zero_add, reduceCtorEq, Option.some.injEq, PyData.int.injEq, PyData.str.injEq, PyData.bool.injEq, PyData.list.injEq, PyData.tuple.injEq, Sl.sh.injEq, Sl.ow.injEq, List.cons.injEq, exists_eq_left', exists_eq_left, true_implies, false_implies, and_true, true_and, forall_const, Option.isSome_some, TN.imp_ff, TN.imp_tf, TN.imp_tt, exists_eq_left, exists_eq_left', exists_eq])
    simp
    exact q
  | cons x c =>
    by_cases h1 : x = p
    · subst h1
      simp only [evsAt, List.take_succ_cons, List.take_zero, e1, e2, if_pos] at q ⊢
      cases c with
      | nil =>
        (simp only [TN.dCallO, TN.dCallOI, TN.dCallNO, TN.oVar, TN.sCut, TN.tgLst, TN.iK, TN.iV, TN.iLT, TN.pNew, TN.dCallN, TN.dCompI2, TN.dLAddE, TN.oD, TN.sDNew, TN.sPutD, TN.fGetO, TN.fGetO2, TN.fInO, TN.fNinO, TN.dVarD, TN.dExtS, TN.mOwn, TN.dCallM, TN.mVar, TN.sRetV, TN.dAug, TN.dCallNT, TN.dCallNL, TN.fIxTs, TN.sForI, TN.dCompI, TN.dCompL, TN.dCompT, TN.dCompR, TN.iL, TN.iT, TN.iR1, TN.iR2, TN.iR3, TN.iS, TN.iE, TN.iRv, TN.iZ, TN.dKeepT, TN.dCallT, TN.pTup, TN.pCons, TN.pOwn, TN.sAsgT, TN.sRetT, TN.tpL, TN.fIxT, TN.fTp, TN.dAppendT, TN.dReverseT, TN.dClearT, TN.dVarT, TN.dReverse, TN.dClear, TN.dPop, Pt.d, Sl.tp.injEq, TN.startF, TN.dCallV, Sl.fn.injEq, TN.dCallF, TN.dLRev, TN.dLAdd, TN.dLSlP, TN.dLSlice, TN.dSliceE, TN.dNo, TN.dEnd, TN.fNo, TN.sSeq, TN.sNext, TN.sDrop, TN.sRet, TN.sRetL, TN.sRetN, TN.sIf, TN.sAsg, TN.sAsgL, TN.sStore, TN.sForL, TN.sForT, TN.sForR, TN.sForR2, TN.tgN, TN.tgTup, TN.tgCons, TN.tgNil, TN.dP, TN.dB, TN.dCall, TN.dCallL, TN.dCallB, TN.dCallBL, TN.dCons, TN.dNil, TN.dTup, TN.dLst, TN.dKeep, TN.dVar, TN.fVar, TN.fPeek, TN.fC, TN.f2, TN.d2, TN.d2V, TN.f1, TN.d1, TN.fCB, TN.dCB, TN.dCBL, TN.fNil, TN.fCons, TN.asBool, TN.dTest, TN.bAnd, TN.bOr, TN.bNot, TN.dAnd, TN.dOr, TN.dNot, TN.fAndV, TN.fOrV, TN.fNotV, TN.dAndV, TN.dOrV, TN.dNotV, TN.dIfE, TN.dIfL, TN.fIfE, TN.fChain, TN.fSlice, TN.dSlice, TN.fNo, TN.fEnd, TN.dAppend, TN.dInsert, TN.dPopAt, TN.ownL, TN.start0, TN.begB, TN.backD, TN.wipeD, TN.dYes, TN.sNever, List.getElem?_cons_zero, List.getElem?_cons_succ, List.set_cons_zero, List.set_cons_succ, List.map_cons, List.map_nil, List.length_cons, List.length_nil, List.cons_append, List.nil_append, List.replicate_succ, List.replicate_zero, Option.map_some, Option.map_none, Nat.add_one_sub_one, Nat.sub_zero, Nat.sub_self, Nat.zero_add, reduceCtorEq, Option.some.injEq, PyData.int.injEq, PyData.str.injEq, PyData.bool.injEq, PyData.list.injEq, PyData.tuple.injEq, Sl.sh.injEq, Sl.ow.injEq, List.cons.injEq, exists_eq_left', exists_eq_left, true_implies, false_implies, and_true, true_and, forall_const, Option.isSome_some, TN.imp_ff, TN.imp_tf, TN.imp_tt, exists_eq_left, exists_eq_left', exists_eq])
        simp at q
        simp
        exact q
      | cons y c =>
        by_cases h2 : y = x
        · subst h2
          simp at q
          (simp only [TN.dCallO, TN.dCallOI, TN.dCallNO, TN.oVar, TN.sCut, TN.tgLst, TN.iK, TN.iV, TN.iLT, TN.pNew, TN.dCallN, TN.dCompI2, TN.dLAddE, TN.oD, TN.sDNew, TN.sPutD, TN.fGetO, TN.fGetO2, TN.fInO, TN.fNinO, TN.dVarD, TN.dExtS, TN.mOwn, TN.dCallM, TN.mVar, TN.sRetV, TN.dAug, TN.dCallNT, TN.dCallNL, TN.fIxTs, TN.sForI, TN.dCompI, TN.dCompL, TN.dCompT, TN.dCompR, TN.iL, TN.iT, TN.iR1, TN.iR2, TN.iR3, TN.iS, TN.iE, TN.iRv, TN.iZ, TN.dKeepT, TN.dCallT, TN.pTup, TN.pCons, TN.pOwn, TN.sAsgT, TN.sRetT, TN.tpL, TN.fIxT, TN.fTp, TN.dAppendT, TN.dReverseT, TN.dClearT, TN.dVarT, TN.dReverse, TN.dClear, TN.dPop, Pt.d, Sl.tp.injEq, TN.startF, TN.dCallV, Sl.fn.injEq, TN.dCallF, TN.dLRev, TN.dLAdd, TN.dLSlP, TN.dLSlice, TN.dSliceE, TN.dNo, TN.dEnd, TN.fNo, TN.sSeq, TN.sNext, TN.sDrop, TN.sRet, TN.sRetL, TN.sRetN, TN.sIf, TN.sAsg, TN.sAsgL, TN.sStore, TN.sForL, TN.sForT, TN.sForR, TN.sForR2, TN.tgN, TN.tgTup, TN.tgCons, TN.tgNil, TN.dP, TN.dB, TN.dCall, TN.dCallL, TN.dCallB, TN.dCallBL, TN.dCons, TN.dNil, TN.dTup, TN.dLst, TN.dKeep, TN.dVar, TN.fVar, TN.fPeek, TN.fC, TN.f2, TN.d2, TN.d2V, TN.f1, TN.d1, TN.fCB, TN.dCB, TN.dCBL, TN.fNil, TN.fCons, TN.asBool, TN.dTest, TN.bAnd, TN.bOr, TN.bNot, TN.dAnd, TN.dOr, TN.dNot, TN.fAndV, TN.fOrV, TN.fNotV, TN.dAndV, TN.dOrV, TN.dNotV, TN.dIfE, TN.dIfL, TN.fIfE, TN.fChain, TN.fSlice, TN.dSlice, TN.fNo, TN.fEnd, TN.dAppend, TN.dInsert, TN.dPopAt, TN.ownL, TN.start0, TN.begB, TN.backD, TN.wipeD, TN.dYes, TN.sNever, List.getElem?_cons_zero, List.getElem?_cons_succ, List.set_cons_zero, List.set_cons_succ, List.map_cons, List.map_nil, List.length_cons, List.length_nil, List.cons_append, List.nil_append, List.replicate_succ, List.replicate_zero, Option.map_some, Option.map_none, Nat.add_one_sub_one, Nat.sub_zero, Nat.sub_self, Nat.zero_add, reduceCtorEq, Option.some.injEq, PyData.int.injEq, PyData.str.injEq, PyData.bool.injEq, PyData.list.injEq, PyData.tuple.injEq, Sl.sh.injEq, Sl.ow.injEq, List.cons.injEq, exists_eq_left', exists_eq_left, true_implies, false_implies, and_true, true_and, forall_const, Option.isSome_some, TN.imp_ff, TN.imp_tf, TN.imp_tt, exists_eq_left, exists_eq_left', exists_eq])
          simp
          exact q
        · simp [h2] at q
          (simp only [TN.dCallO, TN.dCallOI, TN.dCallNO, TN.oVar, TN.sCut, TN.tgLst, TN.iK, TN.iV, TN.iLT, TN.pNew, TN.dCallN, TN.dCompI2, TN.dLAddE, TN.oD, TN.sDNew, TN.sPutD, TN.fGetO, TN.fGetO2, TN.fInO, TN.fNinO, TN.dVarD, TN.dExtS, TN.mOwn, TN.dCallM, TN.mVar, TN.sRetV, TN.dAug, TN.dCallNT, TN.dCallNL, TN.fIxTs, TN.sForI, TN.dCompI, TN.dCompL, TN.dCompT, TN.dCompR, TN.iL, TN.iT, TN.iR1, TN.iR2, TN.iR3, TN.iS, TN.iE, TN.iRv, TN.iZ, TN.dKeepT, TN.dCallT, TN.pTup, TN.pCons, TN.pOwn, TN.sAsgT, TN.sRetT, TN.tpL, TN.fIxT, TN.fTp, TN.dAppendT, TN.dReverseT, TN.dClearT, TN.dVarT, TN.dReverse, TN.dClear, TN.dPop, Pt.d, Sl.tp.injEq, TN.startF, TN.dCallV, Sl.fn.injEq, TN.dCallF, TN.dLRev, TN.dLAdd, TN.dLSlP, TN.dLSlice, TN.dSliceE, TN.dNo, TN.dEnd, TN.fNo, TN.sSeq, TN.sNext, TN.sDrop, TN.sRet, TN.sRetL, TN.sRetN, TN.sIf, TN.sAsg, TN.sAsgL, TN.sStore, TN.sForL, TN.sForT, TN.sForR, TN.sForR2, TN.tgN, TN.tgTup, TN.tgCons, TN.tgNil, TN.dP, TN.dB, TN.dCall, TN.dCallL, TN.dCallB, TN.dCallBL, TN.dCons, TN.dNil, TN.dTup, TN.dLst, TN.dKeep, TN.dVar, TN.fVar, TN.fPeek, TN.fC, TN.f2, TN.d2, TN.d2V, TN.f1, TN.d1, TN.fCB, TN.dCB, TN.dCBL, TN.fNil, TN.fCons, TN.asBool, TN.dTest, TN.bAnd, TN.bOr, TN.bNot, TN.dAnd, TN.dOr, TN.dNot, TN.fAndV, TN.fOrV, TN.fNotV, TN.dAndV, TN.dOrV, TN.dNotV, TN.dIfE, TN.dIfL, TN.fIfE, TN.fChain, TN.fSlice, TN.dSlice, TN.fNo, TN.fEnd, TN.dAppend, TN.dInsert, TN.dPopAt, TN.ownL, TN.start0, TN.begB, TN.backD, TN.wipeD, TN.dYes, TN.sNever, List.getElem?_cons_zero, List.getElem?_cons_succ, List.set_cons_zero, List.set_cons_succ, List.map_cons, List.map_nil, List.length_cons, List.length_nil, List.cons_append, List.nil_append, List.replicate_succ, List.replicate_zero, Option.map_some, Option.map_none, Nat.add_one_sub_one, Nat.sub_zero, Nat.sub_self, Nat.zero_add, reduceCtorEq, Option.some.injEq, PyData.int.injEq, PyData.str.injEq, PyData.bool.injEq, PyData.list.injEq, PyData.tuple.injEq, Sl.sh.injEq, Sl.ow.injEq, List.cons.injEq, exists_eq_left', exists_eq_left, true_implies, false_implies, and_true, true_and, forall_const, Option.isSome_some, TN.imp_ff, TN.imp_tf, TN.imp_tt, exists_eq_left, exists_eq_left', exists_eq])
          simp [h2]
          exact q
    · have ix : oIx (lstN (x :: c.take 1)) (.int 0) = some (.int x) := ixl0
      simp only [evsAt, List.take_succ_cons, List.take_zero, e1, e2, oLen_lstN, gt, if_neg h1, ix] at q ⊢
      simp [h1] at q
      (simp only [TN.dCallO, TN.dCallOI, TN.dCallNO, TN.oVar, TN.sCut, TN.tgLst, TN.iK, TN.iV, TN.iLT, TN.pNew, TN.dCallN, TN.dCompI2, TN.dLAddE, TN.oD, TN.sDNew, TN.sPutD, TN.fGetO, TN.fGetO2, TN.fInO, TN.fNinO, TN.dVarD, TN.dExtS, TN.mOwn, TN.dCallM, TN.mVar, TN.sRetV, TN.dAug, TN.dCallNT, TN.dCallNL, TN.fIxTs, TN.sForI, TN.dCompI, TN.dCompL, TN.dCompT, TN.dCompR, TN.iL, TN.iT, TN.iR1, TN.iR2, TN.iR3, TN.iS, TN.iE, TN.iRv, TN.iZ, TN.dKeepT, TN.dCallT, TN.pTup, TN.pCons, TN.pOwn, TN.sAsgT, TN.sRetT, TN.tpL, TN.fIxT, TN.fTp, TN.dAppendT, TN.dReverseT, TN.dClearT, TN.dVarT, TN.dReverse, TN.dClear, TN.dPop, Pt.d, Sl.tp.injEq, TN.startF, TN.dCallV, Sl.fn.injEq, TN.dCallF, TN.dLRev, TN.dLAdd, TN.dLSlP, TN.dLSlice, TN.dSliceE, TN.dNo, TN.dEnd, TN.fNo, TN.sSeq, TN.sNext, TN.sDrop, TN.sRet, TN.sRetL, TN.sRetN, TN.sIf, TN.sAsg, TN.sAsgL, TN.sStore, TN.sForL, TN.sForT, TN.sForR, TN.sForR2, TN.tgN, TN.tgTup, TN.tgCons, TN.tgNil, TN.dP, TN.dB, TN.dCall, TN.dCallL, TN.dCallB, TN.dCallBL, TN.dCons, TN.dNil, TN.dTup, TN.dLst, TN.dKeep, TN.dVar, TN.fVar, TN.fPeek, TN.fC, TN.f2, TN.d2, TN.d2V, TN.f1, TN.d1, TN.fCB, TN.dCB, TN.dCBL, TN.fNil, TN.fCons, TN.asBool, TN.dTest, TN.bAnd, TN.bOr, TN.bNot, TN.dAnd, TN.dOr, TN.dNot, TN.fAndV, TN.fOrV, TN.fNotV, TN.dAndV, TN.dOrV, TN.dNotV, TN.dIfE, TN.dIfL, TN.fIfE, TN.fChain, TN.fSlice, TN.dSlice, TN.fNo, TN.fEnd, TN.dAppend, TN.dInsert, TN.dPopAt, TN.ownL, TN.start0, TN.begB, TN.backD, TN.wipeD, TN.dYes, TN.sNever, List.getElem?_cons_zero, List.getElem?_cons_succ, List.set_cons_zero, List.set_cons_succ, List.map_cons, List.map_nil, List.length_cons, List.length_nil, List.cons_append, List.nil_append, List.replicate_succ, List.replicate_zero, Option.map_some, Option.map_none, Nat.add_one_sub_one, Nat.sub_zero, Nat.sub_self, Nat.zero_add, reduceCtorEq, Option.some.injEq, PyData.int.injEq, PyData.str.injEq, PyData.bool.injEq, PyData.list.injEq, PyData.tuple.injEq, Sl.sh.injEq, Sl.ow.injEq, List.cons.injEq, exists_eq_left', exists_eq_left, true_implies, false_implies, and_true, true_and, forall_const, Option.isSome_some, TN.imp_ff, TN.imp_tf, TN.imp_tt, exists_eq_left, exists_eq_left', exists_eq])
      simp [h1]
      exact q

abbrev s_fewest : Stmt := topS 20
theorem sc_fewest : FnScope ["found", "faults", "_"] ["found"] (defScope s_fewest) := ⟨rfl, rfl, rfl, by decide +kernel, rfl, by decide +kernel, by decide +kernel⟩
theorem ok_fewest (b : Blt mg) {f : Addr} {fd : FuncData} (F : Fun K "fewest" "fewest" s_fewest f fd) : FnG P w K mg base CX0 1 f fd ["found"] (sp0 K semFewest) := by
  refine fn0 (k := 0) F sc_fewest (fun ds Q h => by obtain ⟨xs, rfl, _⟩ := h; rfl) (fun cdv A outer s H E hg hr =>
    have nd := sc_fewest.nd
    have hu := hr.units
    have hu1 := hu_of hr
    (pss_one (ps_ret (pe_callBK (crD_min rfl) (by rfl) b.min (by decide +kernel) (pa_cons (pe_lc (own := [("faults", 1), ("_", 2), ("_", 2)]) (g := (gTup K 3 (gCons (gName 1) (gCons (gName 2) (gCons (gName 2) gNil))))) (tt := tYes) rfl nd (pi_list (pv 0)) (blkOk_by (own := [("faults", 1), ("_", 2), ("_", 2)]) (N := ["found", "faults", "_"]) (sc := defScope s_fewest) (by decide +kernel)) (fun _ _ _ _ _ => (pg_tup (n := 3) rfl (pgs_cons (pg_name (i := 1) nd rfl (by first | exact Or.inl rfl | exact Or.inr rfl)) (pgs_cons (pg_name (i := 2) nd rfl (by first | exact Or.inl rfl | exact Or.inr rfl)) (pgs_cons (pg_name (i := 2) nd rfl (by first | exact Or.inl rfl | exact Or.inr rfl)) pgs_nil))))) (fun _ _ _ _ _ => by exact pts_nil) (fun _ _ _ _ _ => by exact (pv 1))) pa_nil) (pk_cons pe_non pk_nil)))))
    (ls_ret (le_cbK (les_cons (LL.e (ll_compI (vs := [1, 2, 2]) (li_list (LP.e (lp_var (i := 0)))) (lgc_tup (lgcs_cons (lgc_name (by decide) (by decide)) (lgcs_cons (lgc_name (by decide) (by decide)) (lgcs_cons (lgc_name (by decide) (by decide)) lgcs_nil)))) (by decide) lt_yes (LP.e (lp_var (i := 1))))) les_nil) (rcD_min (c := V.non) (dd := PyData.none) (fun _ => .non)))) ?_
  rintro ds Q ⟨xs, rfl, few, q⟩
  (simp only [TN.dCallO, TN.dCallOI, TN.dCallNO, TN.oVar, TN.sCut, TN.tgLst, TN.iK, TN.iV, TN.iLT, TN.pNew, TN.dCallN, TN.dCompI2, TN.dLAddE, TN.oD, TN.sDNew, TN.sPutD, TN.fGetO, TN.fGetO2, TN.fInO, TN.fNinO, TN.dVarD, TN.dExtS, TN.mOwn, TN.dCallM, TN.mVar, TN.sRetV, TN.dAug, TN.dCallNT, TN.dCallNL, TN.fIxTs, TN.sForI, TN.dCompI, TN.dCompL, TN.dCompT, TN.dCompR, TN.iL, TN.iT, TN.iR1, TN.iR2, TN.iR3, TN.iS, TN.iE, TN.iRv, TN.iZ, TN.dKeepT, TN.dCallT, TN.pTup, TN.pCons, TN.pOwn, TN.sAsgT, TN.sRetT, TN.tpL, TN.fIxT, TN.fTp, TN.dAppendT, TN.dReverseT, TN.dClearT, TN.dVarT, TN.dReverse, TN.dClear, TN.dPop, Pt.d, Sl.tp.injEq, TN.startF, TN.dCallV, Sl.fn.injEq, TN.dCallF, TN.dLRev, TN.dLAdd, TN.dLSlP, TN.dLSlice, TN.dSliceE, TN.dNo, TN.dEnd, TN.fNo, TN.sSeq, TN.sNext, TN.sDrop, TN.sRet, TN.sRetL, TN.sRetN, TN.sIf, TN.sAsg, TN.sAsgL, TN.sStore, TN.sForL, TN.sForT, TN.sForR, TN.sForR2, TN.tgN, TN.tgTup, TN.tgCons, TN.tgNil, TN.dP, TN.dB, TN.dCall, TN.dCallL, TN.dCallB, TN.dCallBL, TN.dCons, TN.dNil, TN.dTup, TN.dLst, TN.dKeep, TN.dVar, TN.fVar, TN.fPeek, TN.fC, TN.f2, TN.d2, TN.d2V, TN.f1, TN.d1, TN.fCB, TN.dCB, TN.dCBL, TN.fNil, TN.fCons, TN.asBool, TN.dTest, TN.bAnd, TN.bOr, TN.bNot, TN.dAnd, TN.dOr, TN.dNot, TN.fAndV, TN.fOrV, TN.fNotV, TN.dAndV, TN.dOrV, TN.dNotV, TN.dIfE, TN.dIfL, TN.fIfE, TN.fChain, TN.fSlice, TN.dSlice, TN.fNo, TN.fEnd, TN.dAppend, TN.dInsert, TN.dPopAt, TN.ownL, TN.start0, TN.begB, TN.backD, TN.wipeD, TN.dYes, TN.sNever, List.getElem?_cons_zero, List.getElem?_cons_succ, List.set_cons_zero, List.set_cons_succ, List.map_cons, List.map_nil, List.length_cons, List.length_nil, List.cons_append, List.nil_append, List.replicate_succ, List.replicate_zero, Option.map_some, Option.map_none, Nat.add_one_sub_one, Nat.sub_zero, Nat.sub_self, Nat.zero_add, reduceCtorEq, Option.some.injEq, PyData.int.injEq, PyData.str.injEq, PyData.bool.injEq, PyData.list.injEq, PyData.tuple.injEq, Sl.sh.injEq, Sl.ow.injEq, List.cons.injEq, exists_eq_left', exists_eq_left, true_implies, false_implies, and_true, true_and, forall_const, Option.isSome_some, TN.imp_ff, TN.imp_tf, TN.imp_tt, exists_eq_left, exists_eq_left', exists_eq])
  refine compT_fil (fun x : Nat × D × D => .tuple [.int x.1, x.2.1, x.2.2]) (fun x => .int x.1) (fun _ => true) (fun _ => True) (fun x => [.sh (.list (xs.map fun x => .tuple [.int x.1, x.2.1, x.2.2])), .sh (.int x.1), .sh x.2.2]) rfl ?_ ?_ ?_ ?_ xs [] (fun _ _ => trivial) (by simp; omega) ?_
  · intro x R k
    (simp only [TN.dCallO, TN.dCallOI, TN.dCallNO, TN.oVar, TN.sCut, TN.tgLst, TN.iK, TN.iV, TN.iLT, TN.pNew, TN.dCallN, TN.dCompI2, TN.dLAddE, TN.oD, TN.sDNew, TN.sPutD, TN.fGetO, TN.fGetO2, TN.fInO, TN.fNinO, TN.dVarD, TN.dExtS, TN.mOwn, TN.dCallM, TN.mVar, TN.sRetV, TN.dAug, TN.dCallNT, TN.dCallNL, TN.fIxTs, TN.sForI, TN.dCompI, TN.dCompL, TN.dCompT, TN.dCompR, TN.iL, TN.iT, TN.iR1, TN.iR2, TN.iR3, TN.iS, TN.iE, TN.iRv, TN.iZ, TN.dKeepT, TN.dCallT, TN.pTup, TN.pCons, TN.pOwn, TN.sAsgT, TN.sRetT, TN.tpL, TN.fIxT, TN.fTp, TN.dAppendT, TN.dReverseT, TN.dClearT, TN.dVarT, TN.dReverse, TN.dClear, TN.dPop, Pt.d, Sl.tp.injEq, TN.startF, TN.dCallV, Sl.fn.injEq, TN.dCallF, TN.dLRev, TN.dLAdd, TN.dLSlP, TN.dLSlice, TN.dSliceE, TN.dNo, TN.dEnd, TN.fNo, TN.sSeq, TN.sNext, TN.sDrop, TN.sRet, TN.sRetL, TN.sRetN, TN.sIf, TN.sAsg, TN.sAsgL, TN.sStore, TN.sForL, TN.sForT, TN.sForR, TN.sForR2, TN.tgN, TN.tgTup, TN.tgCons, TN.tgNil, TN.dP, TN.dB, TN.dCall, TN.dCallL, TN.dCallB, TN.dCallBL, TN.dCons, TN.dNil, TN.dTup, TN.dLst, TN.dKeep, TN.dVar, TN.fVar, TN.fPeek, TN.fC, TN.f2, TN.d2, TN.d2V, TN.f1, TN.d1, TN.fCB, TN.dCB, TN.dCBL, TN.fNil, TN.fCons, TN.asBool, TN.dTest, TN.bAnd, TN.bOr, TN.bNot, TN.dAnd, TN.dOr, TN.dNot, TN.fAndV, TN.fOrV, TN.fNotV, TN.dAndV, TN.dOrV, TN.dNotV, TN.dIfE, TN.dIfL, TN.fIfE, TN.fChain, TN.fSlice, TN.dSlice, TN.fNo, TN.fEnd, TN.dAppend, TN.dInsert, TN.dPopAt, TN.ownL, TN.start0, TN.begB, TN.backD, TN.wipeD, TN.dYes, TN.sNever, List.getElem?_cons_zero, List.getElem?_cons_succ, List.set_cons_zero, List.set_cons_succ, List.map_cons, List.map_nil, List.length_cons, List.length_nil, List.cons_append, List.nil_append, List.replicate_succ, List.replicate_zero, Option.map_some, Option.map_none, Nat.add_one_sub_one, Nat.sub_zero, Nat.sub_self, Nat.zero_add, reduceCtorEq, Option.some.injEq, PyData.int.injEq, PyData.str.injEq, PyData.bool.injEq, PyData.list.injEq, PyData.tuple.injEq, Sl.sh.injEq, Sl.ow.injEq, List.cons.injEq, exists_eq_left', exists_eq_left, true_implies, false_implies, and_true, true_and, forall_const, Option.isSome_some, TN.imp_ff, TN.imp_tf, TN.imp_tt, exists_eq_left, exists_eq_left', exists_eq])
    exact ⟨_, _, ⟨rfl, rfl⟩, _, _, rfl, _, _, rfl, rfl, k⟩
  · intro x; rfl
  · intro x R _ k; exact k
  · intro x R _ _ k
    (simp only [TN.dCallO, TN.dCallOI, TN.dCallNO, TN.oVar, TN.sCut, TN.tgLst, TN.iK, TN.iV, TN.iLT, TN.pNew, TN.dCallN, TN.dCompI2, TN.dLAddE, TN.oD, TN.sDNew, TN.sPutD, TN.fGetO, TN.fGetO2, TN.fInO, TN.fNinO, TN.dVarD, TN.dExtS, TN.mOwn, TN.dCallM, TN.mVar, TN.sRetV, TN.dAug, TN.dCallNT, TN.dCallNL, TN.fIxTs, TN.sForI, TN.dCompI, TN.dCompL, TN.dCompT, TN.dCompR, TN.iL, TN.iT, TN.iR1, TN.iR2, TN.iR3, TN.iS, TN.iE, TN.iRv, TN.iZ, TN.dKeepT, TN.dCallT, TN.pTup, TN.pCons, TN.pOwn, TN.sAsgT, TN.sRetT, TN.tpL, TN.fIxT, TN.fTp, TN.dAppendT, TN.dReverseT, TN.dClearT, TN.dVarT, TN.dReverse, TN.dClear, TN.dPop, Pt.d, Sl.tp.injEq, TN.startF, TN.dCallV, Sl.fn.injEq, TN.dCallF, TN.dLRev, TN.dLAdd, TN.dLSlP, TN.dLSlice, TN.dSliceE, TN.dNo, TN.dEnd, TN.fNo, TN.sSeq, TN.sNext, TN.sDrop, TN.sRet, TN.sRetL, TN.sRetN, TN.sIf, TN.sAsg, TN.sAsgL, TN.sStore, TN.sForL, TN.sForT, TN.sForR, TN.sForR2, TN.tgN, TN.tgTup, TN.tgCons, TN.tgNil, TN.dP, TN.dB, TN.dCall, TN.dCallL, TN.dCallB, TN.dCallBL, TN.dCons, TN.dNil, TN.dTup, TN.dLst, TN.dKeep, TN.dVar, TN.fVar, TN.fPeek, TN.fC, TN.f2, TN.d2, TN.d2V, TN.f1, TN.d1, TN.fCB, TN.dCB, TN.dCBL, TN.fNil, TN.fCons, TN.asBool, TN.dTest, TN.bAnd, TN.bOr, TN.bNot, TN.dAnd, TN.dOr, TN.dNot, TN.fAndV, TN.fOrV, TN.fNotV, TN.dAndV, TN.dOrV, TN.dNotV, TN.dIfE, TN.dIfL, TN.fIfE, TN.fChain, TN.fSlice, TN.dSlice, TN.fNo, TN.fEnd, TN.dAppend, TN.dInsert, TN.dPopAt, TN.ownL, TN.start0, TN.begB, TN.backD, TN.wipeD, TN.dYes, TN.sNever, List.getElem?_cons_zero, List.getElem?_cons_succ, List.set_cons_zero, List.set_cons_succ, List.map_cons, List.map_nil, List.length_cons, List.length_nil, List.cons_append, List.nil_append, List.replicate_succ, List.replicate_zero, Option.map_some, Option.map_none, Nat.add_one_sub_one, Nat.sub_zero, Nat.sub_self, Nat.zero_add, reduceCtorEq, Option.some.injEq, PyData.int.injEq, PyData.str.injEq, PyData.bool.injEq, PyData.list.injEq, PyData.tuple.injEq, Sl.sh.injEq, Sl.ow.injEq, List.cons.injEq, exists_eq_left', exists_eq_left, true_implies, false_implies, and_true, true_and, forall_const, Option.isSome_some, TN.imp_ff, TN.imp_tf, TN.imp_tt, exists_eq_left, exists_eq_left', exists_eq])
    exact k
  rw [List.nil_append, List.filter_eq_self.mpr (fun _ _ => rfl)]
  have e : ∀ ys : List (Nat × D × D), ominD .none [.list (ys.map fun x => PyData.int x.1)] = some (optD (minO (ys.map (·.1)))) := fun ys => min_opt ys
  exact ⟨_, e xs, q⟩

abbrev s_history : Stmt := topS 21
theorem sc_history : FnScope ["told_at", "heard_at", "table", "events", "done", "at", "place", "_", "event"] ["told_at", "heard_at", "table"] (defScope s_history) := ⟨rfl, rfl, rfl, by decide +kernel, rfl, by decide +kernel, by decide +kernel⟩
theorem ok_history (b : Blt mg) (h_ways : Has P w K mg base "ways" 2 ["place", "heard_at", "done", "behind"] (sp0 K semWays)) {cA tA : Addr} (L : LamAt K mg base cA tA ("history" ++ ".<locals>." ++ "<lambda>")) {f : Addr} {fd : FuncData} (F : Fun K "history" "history" s_history f fd) (hcd : fd.code = .ref cA) : FnG P w K mg base CX0 3 f fd ["told_at", "heard_at", "table"] (sp0 K semHistory) := by
  refine fn0L (k := 2) F hcd sc_history (fun ds Q h => by obtain ⟨ps, qs, n, rfl, _⟩ := h; rfl) (fun A outer s H E hg hr =>
    have nd := sc_history.nd
    have hu := hr.units
    have hu1 := hu_of hr
    (pss_cons (ps_set (i := 3) nd rfl (by first | exact Or.inl rfl | exact Or.inr rfl) (pe_lst pa_nil))
 (pss_cons (ps_set (i := 4) nd rfl (by first | exact Or.inl rfl | exact Or.inr rfl) pe_int)
 (pss_cons (ps_for PassesOwn.never rfl (pi_enum (by rfl) b.enumerate (pa_cons (pv 0) pa_nil)) (pg_tup (n := 2) rfl (pgs_cons (pg_name (i := 5) nd rfl (by first | exact Or.inl rfl | exact Or.inr rfl)) (pgs_cons (pg_name (i := 6) nd rfl (by first | exact Or.inl rfl | exact Or.inr rfl)) pgs_nil))) (pss_cons (ps_asg (pe_minKey (N := ["way"]) (p := "way") (k := 0) rfl (by rfl) b.min (hr.mono (by decide)) (pa_cons (pe_has (h_ways.up (by decide)) hg hr (by rfl) (pa_cons (pv 6) (pa_cons (pv 1) (pa_cons (pv 4) (pa_cons (pe_ix ix_seq (pv 2) (pe_op op_addU (pv 5) pe_int) (fun _ _ => rfl)) pa_nil))))) pa_nil) L rfl rfl rfl ⟨rfl, rfl, rfl, by decide +kernel, rfl, by decide +kernel, by decide +kernel⟩ (fun _ _ _ _ _ => rfl) (fun q A outer s H E f cd hr2 => (pe_ix ix_seq (pv 0) pe_int (fun _ _ => rfl)))) (pg_tup (n := 3) rfl (pgs_cons (pg_name (i := 7) nd rfl (by first | exact Or.inl rfl | exact Or.inr rfl)) (pgs_cons (pg_name (i := 8) nd rfl (by first | exact Or.inl rfl | exact Or.inr rfl)) (pgs_cons (pg_name (i := 4) nd rfl (by first | exact Or.inl rfl | exact Or.inr rfl)) pgs_nil)))))
 (pss_one (ps_expr (by exact (pe_bm PySem.F.plainAttrs_list PySem.F.slot_list_append PySem.F.type_list_append mt_append (pv 3) (pa_cons (pv 8) pa_nil)))))))
 (pss_one (ps_ret (pv 3)))))))
    (ls_seq (ls_asgL (i := 3) (by decide) (ll_lst les_nil))
 (ls_seq (ls_asg (LP.e lp_int) (lg_name (i := 4) (by decide)))
 (ls_seq (ls_forI (li_enum (LP.e (lp_var (i := 0)))) (lgp_tup (lgs_cons (lg_name (i := 5) (by decide)) (lgs_cons (lg_name (i := 6) (by decide)) lgs_nil))) (ls_seq (ls_asg (le_minK keyD_0 (LL.e (ll_call (les_cons (LP.e (lp_var (i := 6))) (les_cons (LP.e (lp_var (i := 1))) (les_cons (LP.e (lp_var (i := 4))) (les_cons (LP.e (lp_op (LP.m (lp_var (i := 2))) (LP.m (lp_op (LP.m (lp_var (i := 5))) (LP.m lp_int) rb_add)) rb_ix)) les_nil))))))) (lg_tup (lgs_cons (lg_name (i := 7) (by decide)) (lgs_cons (lg_name (i := 8) (by decide)) (lgs_cons (lg_name (i := 4) (by decide)) lgs_nil)))))
 (ls_drop (le_append (j := 3) (LP.e (lp_var (i := 8)))))))
 (ls_retV (j := 3) (by decide))))) ?_
  rintro ds Q ⟨ps, qs, n, rfl, f1, f2, e0, q⟩
  (simp only [TN.dCallO, TN.dCallOI, TN.dCallNO, TN.oVar, TN.sCut, TN.tgLst, TN.iK, TN.iV, TN.iLT, TN.pNew, TN.dCallN, TN.dCompI2, TN.dLAddE, TN.oD, TN.sDNew, TN.sPutD, TN.fGetO, TN.fGetO2, TN.fInO, TN.fNinO, TN.dVarD, TN.dExtS, TN.mOwn, TN.dCallM, TN.mVar, TN.sRetV, TN.dAug, TN.dCallNT, TN.dCallNL, TN.fIxTs, TN.sForI, TN.dCompI, TN.dCompL, TN.dCompT, TN.dCompR, TN.iL, TN.iT, TN.iR1, TN.iR2, TN.iR3, TN.iS, TN.iE, TN.iRv, TN.iZ, TN.dKeepT, TN.dCallT, TN.pTup, TN.pCons, TN.pOwn, TN.sAsgT, TN.sRetT, TN.tpL, TN.fIxT, TN.fTp, TN.dAppendT, TN.dReverseT, TN.dClearT, TN.dVarT, TN.dReverse, TN.dClear, TN.dPop, Pt.d, Sl.tp.injEq, TN.startF, TN.dCallV, Sl.fn.injEq, TN.dCallF, TN.dLRev, TN.dLAdd, TN.dLSlP, TN.dLSlice, TN.dSliceE, TN.dNo, TN.dEnd, TN.fNo, TN.sSeq, TN.sNext, TN.sDrop, TN.sRet, TN.sRetL, TN.sRetN, TN.sIf, TN.sAsg, TN.sAsgL, TN.sStore, TN.sForL, TN.sForT, TN.sForR, TN.sForR2, TN.tgN, TN.tgTup, TN.tgCons, TN.tgNil, TN.dP, TN.dB, TN.dCall, TN.dCallL, TN.dCallB, TN.dCallBL, TN.dCons, TN.dNil, TN.dTup, TN.dLst, TN.dKeep, TN.dVar, TN.fVar, TN.fPeek, TN.fC, TN.f2, TN.d2, TN.d2V, TN.f1, TN.d1, TN.fCB, TN.dCB, TN.dCBL, TN.fNil, TN.fCons, TN.asBool, TN.dTest, TN.bAnd, TN.bOr, TN.bNot, TN.dAnd, TN.dOr, TN.dNot, TN.fAndV, TN.fOrV, TN.fNotV, TN.dAndV, TN.dOrV, TN.dNotV, TN.dIfE, TN.dIfL, TN.fIfE, TN.fChain, TN.fSlice, TN.dSlice, TN.fNo, TN.fEnd, TN.dAppend, TN.dInsert, TN.dPopAt, TN.ownL, TN.start0, TN.begB, TN.backD, TN.wipeD, TN.dYes, TN.sNever, List.getElem?_cons_zero, List.getElem?_cons_succ, List.set_cons_zero, List.set_cons_succ, List.map_cons, List.map_nil, List.length_cons, List.length_nil, List.cons_append, List.nil_append, List.replicate_succ, List.replicate_zero, Option.map_some, Option.map_none, Nat.add_one_sub_one, Nat.sub_zero, Nat.sub_self, Nat.zero_add, reduceCtorEq, Option.some.injEq, PyData.int.injEq, PyData.str.injEq, PyData.bool.injEq, PyData.list.injEq, PyData.tuple.injEq, Sl.sh.injEq, Sl.ow.injEq, List.cons.injEq, exists_eq_left', exists_eq_left, true_implies, false_implies, and_true, true_and, forall_const, Option.isSome_some, TN.imp_ff, TN.imp_tf, TN.imp_tt, exists_eq_left, exists_eq_left', exists_eq])
  refine ⟨by omega, ?_⟩
  rw [enumD_map]
  refine forD_go (fun x : Nat × Nat => PyData.tuple [.int x.1, .int x.2]) (fun ls ρ => ∃ (at_ done m : Nat) (es : List Ev) (b5 b6 b7 b8 : Sl), ls = numd at_ (ps.drop at_) ∧ at_ ≤ ps.length ∧ done ≤ qs.length ∧ fewF (ps.drop at_) (qs.drop done) = some m ∧ faultsE es + m = n ∧ es.length = at_ ∧ (∀ es2, Tells (ps.drop at_) (qs.drop done) es2 → Tells ps qs (es ++ es2)) ∧
    ρ = [.sh (lstN ps), .sh (lstN qs), .sh (.list (tableL ps qs)), .ow (es.map Ev.d), .sh (.int done), b5, b6, b7, b8]) ?_ ?_ _ _ ⟨0, 0, n, [], _, _, _, _, rfl, Nat.zero_le _, Nat.zero_le _, e0, by simp [faultsE], rfl, fun es2 t => t, rfl⟩
  rotate_left
  · rintro ρ ⟨at_, done, m, es, b5, b6, b7, b8, el, ha, hd, ef, en, le, ht, rfl⟩
    have e1 : ps.drop at_ = [] := by
      cases h : ps.drop at_ with
      | nil => rfl
      | cons x xs => rw [h] at el; cases el
    rw [e1] at ef ht
    have e2 : qs.drop done = [] := by
      cases h : qs.drop done with
      | nil => rfl
      | cons x xs => rw [h] at ef; cases ef
    rw [e2] at ef ht
    injection ef with ef
    subst ef
    (simp only [TN.dCallO, TN.dCallOI, TN.dCallNO, TN.oVar, TN.sCut, TN.tgLst, TN.iK, TN.iV, TN.iLT, TN.pNew, TN.dCallN, TN.dCompI2, TN.dLAddE, TN.oD, TN.sDNew, TN.sPutD, TN.fGetO, TN.fGetO2, TN.fInO, TN.fNinO, TN.dVarD, TN.dExtS, TN.mOwn, TN.dCallM, TN.mVar, TN.sRetV, TN.dAug, TN.dCallNT, TN.dCallNL, TN.fIxTs, TN.sForI, TN.dCompI, TN.dCompL, TN.dCompT, TN.dCompR, TN.iL, TN.iT, TN.iR1, TN.iR2, TN.iR3, TN.iS, TN.iE, TN.iRv, TN.iZ, TN.dKeepT, TN.dCallT, TN.pTup, TN.pCons, TN.pOwn, TN.sAsgT, TN.sRetT, TN.tpL, TN.fIxT, TN.fTp, TN.dAppendT, TN.dReverseT, TN.dClearT, TN.dVarT, TN.dReverse, TN.dClear, TN.dPop, Pt.d, Sl.tp.injEq, TN.startF, TN.dCallV, Sl.fn.injEq, TN.dCallF, TN.dLRev, TN.dLAdd, TN.dLSlP, TN.dLSlice, TN.dSliceE, TN.dNo, TN.dEnd, TN.fNo, TN.sSeq, TN.sNext, TN.sDrop, TN.sRet, TN.sRetL, TN.sRetN, TN.sIf, TN.sAsg, TN.sAsgL, TN.sStore, TN.sForL, TN.sForT, TN.sForR, TN.sForR2, TN.tgN, TN.tgTup, TN.tgCons, TN.tgNil, TN.dP, TN.dB, TN.dCall, TN.dCallL, TN.dCallB, TN.dCallBL, TN.dCons, TN.dNil, TN.dTup, TN.dLst, TN.dKeep, TN.dVar, TN.fVar, TN.fPeek, TN.fC, TN.f2, TN.d2, TN.d2V, TN.f1, TN.d1, TN.fCB, TN.dCB, TN.dCBL, TN.fNil, TN.fCons, TN.asBool, TN.dTest, TN.bAnd, TN.bOr, TN.bNot, TN.dAnd, TN.dOr, TN.dNot, TN.fAndV, TN.fOrV, TN.fNotV, TN.dAndV, TN.dOrV, TN.dNotV, TN.dIfE, TN.dIfL, TN.fIfE, TN.fChain, TN.fSlice, TN.dSlice, TN.fNo, TN.fEnd, TN.dAppend, TN.dInsert, TN.dPopAt, TN.ownL, TN.start0, TN.begB, TN.backD, TN.wipeD, TN.dYes, TN.sNever, List.getElem?_cons_zero, List.getElem?_cons_succ, List.set_cons_zero, List.set_cons_succ, List.map_cons, List.map_nil, List.length_cons, List.length_nil, List.cons_append, List.nil_append, List.replicate_succ, List.replicate_zero, Option.map_some, Option.map_none, Nat.add_one_sub_one, Nat.sub_zero, Nat.sub_self, Nat.zero_add, reduceCtorEq, Option.some.injEq, PyData.int.injEq, PyData.str.injEq, PyData.bool.injEq, PyData.list.injEq, PyData.tuple.injEq, Sl.sh.injEq, Sl.ow.injEq, List.cons.injEq, exists_eq_left', exists_eq_left, true_implies, false_implies, and_true, true_and, forall_const, Option.isSome_some, TN.imp_ff, TN.imp_tf, TN.imp_tt, exists_eq_left, exists_eq_left', exists_eq])
    have t := ht [] .nil
    rw [List.append_nil] at t
    exact q es t (by omega)
  rintro ⟨k, p⟩ ls ρ E' ⟨at_, done, m, es, b5, b6, b7, b8, el, ha, hd, ef, en, le, ht, rfl⟩ nx _ rt _
  cases h : ps.drop at_ with
  | nil => rw [h] at el; cases el
  | cons x xs =>
    rw [h] at el ef ht
    have al : at_ < ps.length := by
      have := congrArg List.length h
      rw [List.length_drop, List.length_cons] at this; omega
    have hx : ps.drop (at_ + 1) = xs := by
      have := List.drop_eq_getElem_cons al
      rw [h] at this; injection this with _ this; exact this.symm
    have el : (k, p) :: ls = (at_, x) :: numd (at_ + 1) xs := el
    injection el with e1 e2
    injection e1 with e3 e4
    subst e3 e4 e2
    (simp only [TN.dCallO, TN.dCallOI, TN.dCallNO, TN.oVar, TN.sCut, TN.tgLst, TN.iK, TN.iV, TN.iLT, TN.pNew, TN.dCallN, TN.dCompI2, TN.dLAddE, TN.oD, TN.sDNew, TN.sPutD, TN.fGetO, TN.fGetO2, TN.fInO, TN.fNinO, TN.dVarD, TN.dExtS, TN.mOwn, TN.dCallM, TN.mVar, TN.sRetV, TN.dAug, TN.dCallNT, TN.dCallNL, TN.fIxTs, TN.sForI, TN.dCompI, TN.dCompL, TN.dCompT, TN.dCompR, TN.iL, TN.iT, TN.iR1, TN.iR2, TN.iR3, TN.iS, TN.iE, TN.iRv, TN.iZ, TN.dKeepT, TN.dCallT, TN.pTup, TN.pCons, TN.pOwn, TN.sAsgT, TN.sRetT, TN.tpL, TN.fIxT, TN.fTp, TN.dAppendT, TN.dReverseT, TN.dClearT, TN.dVarT, TN.dReverse, TN.dClear, TN.dPop, Pt.d, Sl.tp.injEq, TN.startF, TN.dCallV, Sl.fn.injEq, TN.dCallF, TN.dLRev, TN.dLAdd, TN.dLSlP, TN.dLSlice, TN.dSliceE, TN.dNo, TN.dEnd, TN.fNo, TN.sSeq, TN.sNext, TN.sDrop, TN.sRet, TN.sRetL, TN.sRetN, TN.sIf, TN.sAsg, TN.sAsgL, TN.sStore, TN.sForL, TN.sForT, TN.sForR, TN.sForR2, TN.tgN, TN.tgTup, TN.tgCons, TN.tgNil, TN.dP, TN.dB, TN.dCall, TN.dCallL, TN.dCallB, TN.dCallBL, TN.dCons, TN.dNil, TN.dTup, TN.dLst, TN.dKeep, TN.dVar, TN.fVar, TN.fPeek, TN.fC, TN.f2, TN.d2, TN.d2V, TN.f1, TN.d1, TN.fCB, TN.dCB, TN.dCBL, TN.fNil, TN.fCons, TN.asBool, TN.dTest, TN.bAnd, TN.bOr, TN.bNot, TN.dAnd, TN.dOr, TN.dNot, TN.fAndV, TN.fOrV, TN.fNotV, TN.dAndV, TN.dOrV, TN.dNotV, TN.dIfE, TN.dIfL, TN.fIfE, TN.fChain, TN.fSlice, TN.dSlice, TN.fNo, TN.fEnd, TN.dAppend, TN.dInsert, TN.dPopAt, TN.ownL, TN.start0, TN.begB, TN.backD, TN.wipeD, TN.dYes, TN.sNever, List.getElem?_cons_zero, List.getElem?_cons_succ, List.set_cons_zero, List.set_cons_succ, List.map_cons, List.map_nil, List.length_cons, List.length_nil, List.cons_append, List.nil_append, List.replicate_succ, List.replicate_zero, Option.map_some, Option.map_none, Nat.add_one_sub_one, Nat.sub_zero, Nat.sub_self, Nat.zero_add, reduceCtorEq, Option.some.injEq, PyData.int.injEq, PyData.str.injEq, PyData.bool.injEq, PyData.list.injEq, PyData.tuple.injEq, Sl.sh.injEq, Sl.ow.injEq, List.cons.injEq, exists_eq_left', exists_eq_left, true_implies, false_implies, and_true, true_and, forall_const, Option.isSome_some, TN.imp_ff, TN.imp_tf, TN.imp_tt, exists_eq_left, exists_eq_left', exists_eq])
    unfold dMinK
    (simp only [TN.dCallO, TN.dCallOI, TN.dCallNO, TN.oVar, TN.sCut, TN.tgLst, TN.iK, TN.iV, TN.iLT, TN.pNew, TN.dCallN, TN.dCompI2, TN.dLAddE, TN.oD, TN.sDNew, TN.sPutD, TN.fGetO, TN.fGetO2, TN.fInO, TN.fNinO, TN.dVarD, TN.dExtS, TN.mOwn, TN.dCallM, TN.mVar, TN.sRetV, TN.dAug, TN.dCallNT, TN.dCallNL, TN.fIxTs, TN.sForI, TN.dCompI, TN.dCompL, TN.dCompT, TN.dCompR, TN.iL, TN.iT, TN.iR1, TN.iR2, TN.iR3, TN.iS, TN.iE, TN.iRv, TN.iZ, TN.dKeepT, TN.dCallT, TN.pTup, TN.pCons, TN.pOwn, TN.sAsgT, TN.sRetT, TN.tpL, TN.fIxT, TN.fTp, TN.dAppendT, TN.dReverseT, TN.dClearT, TN.dVarT, TN.dReverse, TN.dClear, TN.dPop, Pt.d, Sl.tp.injEq, TN.startF, TN.dCallV, Sl.fn.injEq, TN.dCallF, TN.dLRev, TN.dLAdd, TN.dLSlP, TN.dLSlice, TN.dSliceE, TN.dNo, TN.dEnd, TN.fNo, TN.sSeq, TN.sNext, TN.sDrop, TN.sRet, TN.sRetL, TN.sRetN, TN.sIf, TN.sAsg, TN.sAsgL, TN.sStore, TN.sForL, TN.sForT, TN.sForR, TN.sForR2, TN.tgN, TN.tgTup, TN.tgCons, TN.tgNil, TN.dP, TN.dB, TN.dCall, TN.dCallL, TN.dCallB, TN.dCallBL, TN.dCons, TN.dNil, TN.dTup, TN.dLst, TN.dKeep, TN.dVar, TN.fVar, TN.fPeek, TN.fC, TN.f2, TN.d2, TN.d2V, TN.f1, TN.d1, TN.fCB, TN.dCB, TN.dCBL, TN.fNil, TN.fCons, TN.asBool, TN.dTest, TN.bAnd, TN.bOr, TN.bNot, TN.dAnd, TN.dOr, TN.dNot, TN.fAndV, TN.fOrV, TN.fNotV, TN.dAndV, TN.dOrV, TN.dNotV, TN.dIfE, TN.dIfL, TN.fIfE, TN.fChain, TN.fSlice, TN.dSlice, TN.fNo, TN.fEnd, TN.dAppend, TN.dInsert, TN.dPopAt, TN.ownL, TN.start0, TN.begB, TN.backD, TN.wipeD, TN.dYes, TN.sNever, List.getElem?_cons_zero, List.getElem?_cons_succ, List.set_cons_zero, List.set_cons_succ, List.map_cons, List.map_nil, List.length_cons, List.length_nil, List.cons_append, List.nil_append, List.replicate_succ, List.replicate_zero, Option.map_some, Option.map_none, Nat.add_one_sub_one, Nat.sub_zero, Nat.sub_self, Nat.zero_add, reduceCtorEq, Option.some.injEq, PyData.int.injEq, PyData.str.injEq, PyData.bool.injEq, PyData.list.injEq, PyData.tuple.injEq, Sl.sh.injEq, Sl.ow.injEq, List.cons.injEq, exists_eq_left', exists_eq_left, true_implies, false_implies, and_true, true_and, forall_const, Option.isSome_some, TN.imp_ff, TN.imp_tf, TN.imp_tt, exists_eq_left, exists_eq_left', exists_eq])
    have row : (match some (PyData.list (tableL ps qs)), oAdd (.int (k : Int)) (.int 1) with | some d, some e => oIx d e | _, _ => none) = some (.list (rowL xs qs)) := by
      show atI (tableL ps qs) (((k + 1 : Nat)) : Int) = _
      have e := tableL_at ps qs (k + 1) al
      rw [hx] at e
      exact L2.atI_nat e
    have ew : (waysF p (qs.drop done) fun j => fewF xs (qs.drop (done + j))) = waysF p (qs.drop done) fun j => fewF xs ((qs.drop done).drop j) := by simp only [List.drop_drop]
    have pos := few_ways ef
    rw [← ew] at pos
    obtain ⟨bw1, bw2⟩ := best_way (done := done) pos
    refine ⟨_, _, ⟨rfl, rfl⟩, _, _, rfl, rfl, _, row, p, qs, done, fun j => fewF xs (qs.drop j), rfl, hd, f2, _, rfl, _, _, rfl, by rw [List.length_map]; exact pos, bw1, fun e he => ?_⟩
    obtain ⟨⟨c, evn, j⟩, hw, rfl, least⟩ := bw2 e he
    rw [ew] at hw least
    obtain ⟨g1, k2, g2, g3⟩ := few_step ef hw least
    have g1 : (evn, j) ∈ evsAt p (qs.drop done) := g1
    have g2 : fewF xs ((qs.drop done).drop j) = some k2 := g2
    have g3 : m = k2 + costE evn := g3
    have jl := evsAt_le g1
    rw [List.length_drop] at jl
    rw [List.drop_drop] at g2
    refine ⟨_, rfl, rfl, _, _, rfl, _, _, rfl, _, _, rfl, rfl, by rw [List.length_map]; omega, nx _ ⟨k + 1, done + j, k2, es ++ [evn], .sh (.int k), .sh (.int p), .sh (.int c), .sh evn.d, by rw [hx], by omega, by omega, by rw [hx]; exact g2, ?_, by rw [List.length_append, le]; rfl, fun es2 t => ?_, ?_⟩⟩
    · rw [faults_app]; show faultsE es + (costE evn + 0) + k2 = n; omega
    · rw [hx] at t
      rw [List.append_assoc]
      exact ht _ (evsAt_tells g1 (by rw [List.drop_drop]; exact t))
    · rw [List.map_append, show ((done : Int) + (j : Int)) = ((done + j : Nat) : Int) by omega]; rfl

abbrev s__law_cell_at : Stmt := topS 23
theorem sc__law_cell_at : FnScope ["script", "k"] ["script", "k"] (defScope s__law_cell_at) := ⟨rfl, rfl, rfl, by decide +kernel, rfl, by decide +kernel, by decide +kernel⟩
theorem ok__law_cell_at (b : Blt mg) {f : Addr} {fd : FuncData} (F : Fun K "_law_cell_at" "_law_cell_at" s__law_cell_at f fd) : FnG P w K mg base CX0 1 f fd ["script", "k"] (sp0 K semCell) := by
  refine fn0 (k := 0) F sc__law_cell_at (fun ds Q h => by obtain ⟨ns, k, rfl, _⟩ := h; rfl) (fun cdv A outer s H E hg hr =>
    have nd := sc__law_cell_at.nd
    have hu := hr.units
    have hu1 := hu_of hr
    (pss_cons (ps_if (pt_cmpR op_ltU (pv 1) (pe_callB call_len (by rfl) b.len (by decide +kernel) (pa_cons (pv 0) pa_nil)) (nomark _)) (pss_one (ps_ret (pe_ix ix_seq (pv 0) (pv 1) (fun _ _ => rfl)))) pss_nil)
 (pss_one (ps_ret pe_int))))
    (ls_seq (ls_if (LB.g (lb_test (LP.m (lp_op (LP.m (lp_var (i := 1))) (LP.m (lp_cb (lms_cons (LP.m (lp_var (i := 0))) lms_nil) rc_len)) rb_U)))) (ls_ret (LP.e (lp_op (LP.m (lp_var (i := 0))) (LP.m (lp_var (i := 1))) rb_ix))) ls_next)
 (ls_ret (LP.e lp_int))) ?_
  rintro ds Q ⟨ns, k, rfl, q⟩
  (simp only [TN.sSeq, TN.sNext, TN.sDrop, TN.sRet, TN.sRetL, TN.sRetN, TN.sIf, TN.sAsg, TN.sAsgL, TN.sStore, TN.sForL, TN.sForT, TN.sForR, TN.sForR2, TN.tgN, TN.tgTup, TN.tgCons, TN.tgNil, TN.dP, TN.dB, TN.dCall, TN.dCallL, TN.dCallB, TN.dCallBL, TN.dCons, TN.dNil, TN.dTup, TN.dLst, TN.dKeep, TN.dVar, TN.fVar, TN.fPeek, TN.fC, TN.f2, TN.d2, TN.d2V, TN.f1, TN.d1, TN.fCB, TN.dCB, TN.dCBL, TN.fNil, TN.fCons, TN.asBool, TN.dTest, TN.bAnd, TN.bOr, TN.bNot, TN.dAnd, TN.dOr, TN.dNot, TN.fAndV, TN.fOrV, TN.fNotV, TN.dAndV, TN.dOrV, TN.dNotV, TN.dIfE, TN.dIfL, TN.fIfE, TN.fChain, TN.fSlice, TN.dSlice, TN.fNo, TN.fEnd, TN.dAppend, TN.dInsert, TN.dPopAt, TN.ownL, TN.start0, TN.begB, TN.backD, TN.wipeD, TN.dYes, TN.sNever, List.getElem?_cons_zero, List.getElem?_cons_succ, List.set_cons_zero, List.set_cons_succ, List.map_cons, List.map_nil, List.length_cons, List.length_nil, List.cons_append, List.nil_append, List.replicate_succ, List.replicate_zero, Option.map_some, Option.map_none, Nat.add_one_sub_one, Nat.sub_zero, Nat.sub_self, Nat.zero_add, reduceCtorEq, Option.some.injEq, PyData.int.injEq, PyData.str.injEq, PyData.bool.injEq, PyData.list.injEq, PyData.tuple.injEq, Sl.sh.injEq, Sl.ow.injEq, List.cons.injEq, exists_eq_left', exists_eq_left, true_implies, false_implies, and_true, true_and, forall_const, Option.isSome_some, TN.imp_ff, TN.imp_tf, TN.imp_tt, exists_eq_left, exists_eq_left', exists_eq])
  rw [oLen_ns]
  refine ⟨_, rfl, fun h => ?_, fun _ => q 0⟩
  have hk : k < ns.length := by have := of_decide_eq_true h; omega
  refine ⟨.int ns[k], by show atI _ _ = _; rw [atI_nat (by rw [List.length_map]; exact hk), List.getElem_map], q _⟩

abbrev s__law_bag : Stmt := topS 24
theorem sc__law_bag : FnScope ["cell"] ["cell"] (defScope s__law_bag) := ⟨rfl, rfl, rfl, by decide +kernel, rfl, by decide +kernel, by decide +kernel⟩
theorem ok__law_bag (b : Blt mg) {f : Addr} {fd : FuncData} (F : Fun K "_law_bag" "_law_bag" s__law_bag f fd) : FnG P w K mg base CX0 1 f fd ["cell"] (sp0 K semBagC) := by
  refine fn0 (k := 0) F sc__law_bag (fun ds Q h => by obtain ⟨c, rfl, _⟩ := h; rfl) (fun cdv A outer s H E hg hr =>
    have nd := sc__law_bag.nd
    have hu := hr.units
    have hu1 := hu_of hr
    (pss_one (ps_ret (pe_lst (pa_cons (pe_callB (call_max2 rfl) (by rfl) b.max (by decide +kernel) (pa_cons pe_int (pa_cons (pe_op op_sub (pv 0) (pe_op op_powB pe_int pe_int)) pa_nil))) (pa_cons (pe_op op_mod (pv 0) (pe_op op_addU (pe_op op_powB pe_int pe_int) pe_int)) (pa_cons pe_int pa_nil)))))))
    (ls_retL (ll_lst (les_cons (LP.e (lp_cb (lms_cons (LP.m lp_int) (lms_cons (LP.m (lp_op (LP.m (lp_var (i := 0))) (LP.m (lp_op (LP.m lp_int) (LP.m lp_int) rb_pow)) rb_sub)) lms_nil)) rc_max)) (les_cons (LP.e (lp_op (LP.m (lp_var (i := 0))) (LP.m (lp_op (LP.m (lp_op (LP.m lp_int) (LP.m lp_int) rb_pow)) (LP.m lp_int) rb_add)) rb_mod)) (les_cons (LP.e lp_int) les_nil))))) ?_
  rintro ds Q ⟨c, rfl, q⟩
  (simp only [TN.dCallM, TN.mVar, TN.sRetV, TN.dAug, TN.dCallNT, TN.dCallNL, TN.fIxTs, TN.sForI, TN.dCompI, TN.dCompL, TN.dCompT, TN.dCompR, TN.iL, TN.iT, TN.iR1, TN.iR2, TN.iR3, TN.iS, TN.iE, TN.iRv, TN.iZ, TN.dKeepT, TN.dCallT, TN.pTup, TN.pCons, TN.pOwn, TN.sAsgT, TN.sRetT, TN.tpL, TN.fIxT, TN.fTp, TN.dAppendT, TN.dReverseT, TN.dClearT, TN.dVarT, TN.dReverse, TN.dClear, TN.dPop, Pt.d, Sl.tp.injEq, TN.startF, TN.dCallV, Sl.fn.injEq, TN.dCallF, TN.dLRev, TN.dLAdd, TN.dLSlP, TN.dLSlice, TN.dSliceE, TN.dNo, TN.dEnd, TN.fNo, TN.sSeq, TN.sNext, TN.sDrop, TN.sRet, TN.sRetL, TN.sRetN, TN.sIf, TN.sAsg, TN.sAsgL, TN.sStore, TN.sForL, TN.sForT, TN.sForR, TN.sForR2, TN.tgN, TN.tgTup, TN.tgCons, TN.tgNil, TN.dP, TN.dB, TN.dCall, TN.dCallL, TN.dCallB, TN.dCallBL, TN.dCons, TN.dNil, TN.dTup, TN.dLst, TN.dKeep, TN.dVar, TN.fVar, TN.fPeek, TN.fC, TN.f2, TN.d2, TN.d2V, TN.f1, TN.d1, TN.fCB, TN.dCB, TN.dCBL, TN.fNil, TN.fCons, TN.asBool, TN.dTest, TN.bAnd, TN.bOr, TN.bNot, TN.dAnd, TN.dOr, TN.dNot, TN.fAndV, TN.fOrV, TN.fNotV, TN.dAndV, TN.dOrV, TN.dNotV, TN.dIfE, TN.dIfL, TN.fIfE, TN.fChain, TN.fSlice, TN.dSlice, TN.fNo, TN.fEnd, TN.dAppend, TN.dInsert, TN.dPopAt, TN.ownL, TN.start0, TN.begB, TN.backD, TN.wipeD, TN.dYes, TN.sNever, List.getElem?_cons_zero, List.getElem?_cons_succ, List.set_cons_zero, List.set_cons_succ, List.map_cons, List.map_nil, List.length_cons, List.length_nil, List.cons_append, List.nil_append, List.replicate_succ, List.replicate_zero, Option.map_some, Option.map_none, Nat.add_one_sub_one, Nat.sub_zero, Nat.sub_self, Nat.zero_add, reduceCtorEq, Option.some.injEq, PyData.int.injEq, PyData.str.injEq, PyData.bool.injEq, PyData.list.injEq, PyData.tuple.injEq, Sl.sh.injEq, Sl.ow.injEq, List.cons.injEq, exists_eq_left', exists_eq_left, true_implies, false_implies, and_true, true_and, forall_const, Option.isSome_some, TN.imp_ff, TN.imp_tf, TN.imp_tt, exists_eq_left, exists_eq_left', exists_eq])
  have m0 := Int.emod_nonneg c (b := 10000000000000000000000000000000000000121) (by decide)
  have m1 := Int.emod_lt_of_pos c (b := 10000000000000000000000000000000000000121) (by decide)
  refine ⟨.int (if c - 1000000000000000000 > 1 then c - 1000000000000000000 else 1), by rw [pw18]; rfl, .int (c % 10000000000000000000000000000000000000121), by rw [pw40]; exact md40, by omega, q _ ⟨_, _, 0, rfl, ?_, by omega, by omega, by omega, by omega⟩⟩
  split <;> omega

abbrev s__law_draw : Stmt := topS 25
theorem sc__law_draw : FnScope ["bag", "sides", "digit"] ["bag", "sides"] (defScope s__law_draw) := ⟨rfl, rfl, rfl, by decide +kernel, rfl, by decide +kernel, by decide +kernel⟩
theorem ok__law_draw (b : Blt mg) {f : Addr} {fd : FuncData} (F : Fun K "_law_draw" "_law_draw" s__law_draw f fd) : FnG P w K mg base CX0 1 f fd ["bag", "sides"] (spB K semWind) := by
  refine fnB (k := 0) F sc__law_draw (fun xs ds Q h => by obtain ⟨n, w, _, _, rfl, _⟩ := h; rfl) (fun cdv A outer s H E hg hr =>
    have nd := sc__law_draw.nd
    have hu := hr.units
    have hu1 := hu_of hr
    (pss_cons (ps_if (pt_cmpR op_gtU (pe_ix ix_seq (pv 0) pe_int (fun _ _ => rfl)) pe_int (nomark _)) (pss_cons (ps_set (i := 2) nd rfl (by first | exact Or.inl rfl | exact Or.inr rfl) (pe_op op_mod (pe_ix ix_seq (pv 0) pe_int (fun _ _ => rfl)) (pv 1)))
 (pss_cons (ps_asg (pe_op op_fdiv (pe_ix ix_seq (pv 0) pe_int (fun _ _ => rfl)) (pv 1)) (pg_sub (pv 0) pe_int set_list))
 (pss_one (ps_ret (pv 2))))) pss_nil)
 (pss_cons (ps_asg (pe_op op_addU (pe_ix ix_seq (pv 0) pe_int (fun _ _ => rfl)) pe_int) (pg_sub (pv 0) pe_int set_list))
 (pss_cons (ps_set (i := 2) nd rfl (by first | exact Or.inl rfl | exact Or.inr rfl) (pe_op op_mod (pe_op op_powB (pe_op op_addU (pe_ix ix_seq (pv 0) pe_int (fun _ _ => rfl)) (pe_op op_mul (pe_ix ix_seq (pv 0) pe_int (fun _ _ => rfl)) pe_int)) pe_int) (pe_op op_addU (pe_op op_powB pe_int pe_int) pe_int)))
 (pss_cons (ps_set (i := 2) nd rfl (by first | exact Or.inl rfl | exact Or.inr rfl) (pe_op op_mod (pe_op op_powB (pe_op op_addU (pv 2) (pe_op op_mul (pe_ix ix_seq (pv 0) pe_int (fun _ _ => rfl)) pe_int)) pe_int) (pe_op op_addU (pe_op op_powB pe_int pe_int) pe_int)))
 (pss_one (ps_ret (pe_op op_mod (pe_op op_fdiv (pv 2) pe_int) (pv 1)))))))))
    (ls_seq (ls_if (LB.g (lb_test (LP.m (lp_op (LP.m (lp_op (lm_peek (i := 0)) (LP.m lp_int) rb_ix)) (LP.m lp_int) rb_U)))) (ls_seq (ls_asg (LP.e (lp_op (LP.m (lp_op (lm_peek (i := 0)) (LP.m lp_int) rb_ix)) (LP.m (lp_var (i := 1))) rb_mod)) (lg_name (i := 2) (by decide)))
 (ls_seq (ls_store (j := 0) (LP.e (lp_op (LP.m (lp_op (lm_peek (i := 0)) (LP.m lp_int) rb_ix)) (LP.m (lp_var (i := 1))) rb_div)) (LP.e lp_int))
 (ls_ret (LP.e (lp_var (i := 2)))))) ls_next)
 (ls_seq (ls_store (j := 0) (LP.e (lp_op (LP.m (lp_op (lm_peek (i := 0)) (LP.m lp_int) rb_ix)) (LP.m lp_int) rb_add)) (LP.e lp_int))
 (ls_seq (ls_asg (LP.e (lp_op (LP.m (lp_op (LP.m (lp_op (LP.m (lp_op (lm_peek (i := 0)) (LP.m lp_int) rb_ix)) (LP.m (lp_op (LP.m (lp_op (lm_peek (i := 0)) (LP.m lp_int) rb_ix)) (LP.m lp_int) rb_mul)) rb_add)) (LP.m lp_int) rb_pow)) (LP.m (lp_op (LP.m (lp_op (LP.m lp_int) (LP.m lp_int) rb_pow)) (LP.m lp_int) rb_add)) rb_mod)) (lg_name (i := 2) (by decide)))
 (ls_seq (ls_asg (LP.e (lp_op (LP.m (lp_op (LP.m (lp_op (LP.m (lp_var (i := 2))) (LP.m (lp_op (LP.m (lp_op (lm_peek (i := 0)) (LP.m lp_int) rb_ix)) (LP.m lp_int) rb_mul)) rb_add)) (LP.m lp_int) rb_pow)) (LP.m (lp_op (LP.m (lp_op (LP.m lp_int) (LP.m lp_int) rb_pow)) (LP.m lp_int) rb_add)) rb_mod)) (lg_name (i := 2) (by decide)))
 (ls_ret (LP.e (lp_op (LP.m (lp_op (LP.m (lp_var (i := 2))) (LP.m lp_int) rb_div)) (LP.m (lp_var (i := 1))) rb_mod))))))) ?_
  rintro xs ds Q ⟨n, w, sp, hn, rfl, w0, w1, q⟩
  obtain ⟨a, b, c, rfl, a0, b0, b1, c0, c1⟩ := sp
  (simp only [TN.dCallM, TN.mVar, TN.sRetV, TN.dAug, TN.dCallNT, TN.dCallNL, TN.fIxTs, TN.sForI, TN.dCompI, TN.dCompL, TN.dCompT, TN.dCompR, TN.iL, TN.iT, TN.iR1, TN.iR2, TN.iR3, TN.iS, TN.iE, TN.iRv, TN.iZ, TN.dKeepT, TN.dCallT, TN.pTup, TN.pCons, TN.pOwn, TN.sAsgT, TN.sRetT, TN.tpL, TN.fIxT, TN.fTp, TN.dAppendT, TN.dReverseT, TN.dClearT, TN.dVarT, TN.dReverse, TN.dClear, TN.dPop, Pt.d, Sl.tp.injEq, TN.startF, TN.dCallV, Sl.fn.injEq, TN.dCallF, TN.dLRev, TN.dLAdd, TN.dLSlP, TN.dLSlice, TN.dSliceE, TN.dNo, TN.dEnd, TN.fNo, TN.sSeq, TN.sNext, TN.sDrop, TN.sRet, TN.sRetL, TN.sRetN, TN.sIf, TN.sAsg, TN.sAsgL, TN.sStore, TN.sForL, TN.sForT, TN.sForR, TN.sForR2, TN.tgN, TN.tgTup, TN.tgCons, TN.tgNil, TN.dP, TN.dB, TN.dCall, TN.dCallL, TN.dCallB, TN.dCallBL, TN.dCons, TN.dNil, TN.dTup, TN.dLst, TN.dKeep, TN.dVar, TN.fVar, TN.fPeek, TN.fC, TN.f2, TN.d2, TN.d2V, TN.f1, TN.d1, TN.fCB, TN.dCB, TN.dCBL, TN.fNil, TN.fCons, TN.asBool, TN.dTest, TN.bAnd, TN.bOr, TN.bNot, TN.dAnd, TN.dOr, TN.dNot, TN.fAndV, TN.fOrV, TN.fNotV, TN.dAndV, TN.dOrV, TN.dNotV, TN.dIfE, TN.dIfL, TN.fIfE, TN.fChain, TN.fSlice, TN.dSlice, TN.fNo, TN.fEnd, TN.dAppend, TN.dInsert, TN.dPopAt, TN.ownL, TN.start0, TN.begB, TN.backD, TN.wipeD, TN.dYes, TN.sNever, List.getElem?_cons_zero, List.getElem?_cons_succ, List.set_cons_zero, List.set_cons_succ, List.map_cons, List.map_nil, List.length_cons, List.length_nil, List.cons_append, List.nil_append, List.replicate_succ, List.replicate_zero, Option.map_some, Option.map_none, Nat.add_one_sub_one, Nat.sub_zero, Nat.sub_self, Nat.zero_add, reduceCtorEq, Option.some.injEq, PyData.int.injEq, PyData.str.injEq, PyData.bool.injEq, PyData.list.injEq, PyData.tuple.injEq, Sl.sh.injEq, Sl.ow.injEq, List.cons.injEq, exists_eq_left', exists_eq_left, true_implies, false_implies, and_true, true_and, forall_const, Option.isSome_some, TN.imp_ff, TN.imp_tf, TN.imp_tt, exists_eq_left, exists_eq_left', exists_eq]); (simp only [Ev.d, TN.ix0, TN.ix1, TN.ix2, TN.ixl0, TN.ixl1, TN.ixl2, TN.ixm2, TN.ixm3, TN.len2, TN.len3, TN.neg1, TN.ty_tup, TN.ty_lst, TN.ty_str, TN.ty_int, TN.oLen_tupL, TN.oLen_lstL, TN.oU_int, TN.oEq_int, TN.oNe_int, decide_true, Bool.not_true, Bool.not_false, reduceCtorEq, Option.some.injEq, PyData.int.injEq, PyData.str.injEq, PyData.bool.injEq, PyData.list.injEq, PyData.tuple.injEq, exists_eq_left', TN.imp_ff, TN.imp_tf, TN.imp_tt, true_and, and_true, forall_const, true_implies, false_implies, TN.w_place_place, TN.n_place_place, TN.w_place_name, TN.n_place_name, TN.w_place_lost, TN.n_place_lost, TN.w_place_twice, TN.n_place_twice, TN.w_place_as, TN.n_place_as, TN.w_name_place, TN.n_name_place, TN.w_name_name, TN.n_name_name, TN.w_name_lost, TN.n_name_lost, TN.w_name_twice, TN.n_name_twice, TN.w_name_as, TN.n_name_as, TN.w_lost_place, TN.n_lost_place, TN.w_lost_name, TN.n_lost_name, TN.w_lost_lost, TN.n_lost_lost, TN.w_lost_twice, TN.n_lost_twice, TN.w_lost_as, TN.n_lost_as, TN.w_twice_place, TN.n_twice_place, TN.w_twice_name, TN.n_twice_name, TN.w_twice_lost, TN.n_twice_lost, TN.w_twice_twice, TN.n_twice_twice, TN.w_twice_as, TN.n_twice_as, TN.w_as_place, TN.n_as_place, TN.w_as_name, TN.n_as_name, TN.w_as_lost, TN.n_as_lost, TN.w_as_twice, TN.n_as_twice, TN.w_as_as, TN.n_as_as])
  refine ⟨fun h => ?_, fun h => ?_⟩
  · have h : 1 < a := of_decide_eq_true h
    exact ⟨.int (a % w), if_pos w0, .int (a / w), if_pos ⟨w0, w1⟩, _, _, 0, rfl, rfl, rfl, q _ _ (Int.emod_nonneg _ (by omega)) (Int.emod_lt_of_pos _ w0) ⟨a / w, b, c, rfl, Int.ediv_nonneg a0 (by omega), b0, b1, c0, by omega⟩⟩
  · have hb : n ≤ 1000000000000 := hn
    have p1 := oPow5 (x := b + (c + 1) * 982451653) (by omega) (by omega)
    have m0 := Int.emod_nonneg ((b + (c + 1) * 982451653) ^ 5) (b := 1000000000000000000000000000000000000003) (by decide)
    have m1 := Int.emod_lt_of_pos ((b + (c + 1) * 982451653) ^ 5) (b := 1000000000000000000000000000000000000003) (by decide)
    have hx : oMul (.int (c + 1)) (.int 982451653) = some (.int ((c + 1) * 982451653)) := oMul_r (by decide)
    have hy : oMul (.int (c + 1)) (.int 15485863) = some (.int ((c + 1) * 15485863)) := oMul_r (by decide)
    have q1 := md39 (c := (b + (c + 1) * 982451653) ^ 5)
    have p2 := oPow3 (x := (b + (c + 1) * 982451653) ^ 5 % 1000000000000000000000000000000000000003 + (c + 1) * 15485863) (by omega) (by omega)
    obtain ⟨m, em⟩ : ∃ m, (b + (c + 1) * 982451653) ^ 5 % 1000000000000000000000000000000000000003 = m := ⟨_, rfl⟩
    rw [em] at m0 m1 p2 q1
    refine ⟨.int (c + 1), rfl, _, _, 2, rfl, rfl, rfl, .int m, ?_, ?_⟩
    · simp only [List.set_cons_succ, List.set_cons_zero, ixl1, ixl2, hx, oAdd_int, p1, pw39, q1]
    refine ⟨.int ((m + (c + 1) * 15485863) ^ 3 % 1000000000000000000000000000000000067), ?_, .int ((m + (c + 1) * 15485863) ^ 3 % 1000000000000000000000000000000000067 / 1024 % w), ?_, q _ _ (Int.emod_nonneg _ (by omega)) (Int.emod_lt_of_pos _ w0) ⟨a, b, c + 1, rfl, a0, b0, b1, by omega, by omega⟩⟩
    · simp only [List.set_cons_succ, List.set_cons_zero, ixl1, ixl2, hy, oAdd_int, p2, pw36, md36]
    · rw [oDiv_p (by decide) (by decide)]
      exact oMod_p w0

abbrev s__law_line : Stmt := topS 26
theorem sc__law_line : FnScope ["bag", "upto", "size", "stock", "k"] ["bag", "upto"] (defScope s__law_line) := ⟨rfl, rfl, rfl, by decide +kernel, rfl, by decide +kernel, by decide +kernel⟩
theorem ok__law_line (b : Blt mg) (h__law_draw : Has P w K mg base "_law_draw" 1 ["bag", "sides"] (spB K semWind)) {f : Addr} {fd : FuncData} (F : Fun K "_law_line" "_law_line" s__law_line f fd) : FnG P w K mg base CX0 2 f fd ["bag", "upto"] (spB K semLineC) := by
  refine fnB (k := 1) F sc__law_line (fun xs ds Q h => by obtain ⟨n, m, _, _, rfl, _⟩ := h; rfl) (fun cdv A outer s H E hg hr =>
    have nd := sc__law_line.nd
    have hu := hr.units
    have hu1 := hu_of hr
    (pss_cons (ps_set (i := 2) nd rfl (by first | exact Or.inl rfl | exact Or.inr rfl) (pe_op op_addU pe_int (pe_has (h__law_draw.up (by decide)) hg hr (by rfl) (pa_cons (pv 0) (pa_cons (pv 1) pa_nil)))))
 (pss_cons (ps_set (i := 3) nd rfl (by first | exact Or.inl rfl | exact Or.inr rfl) (pe_slice sl_U (pe_callTy (call_listU rfl) (by rfl) b.list (by decide +kernel) (pa_cons pe_str pa_nil)) (po_some (pe_has (h__law_draw.up (by decide)) hg hr (by rfl) (pa_cons (pv 0) (pa_cons pe_int pa_nil)))) po_none))
 (pss_cons (ps_set (i := 3) nd rfl (by first | exact Or.inl rfl | exact Or.inr rfl) (pe_ifExp (pt_cmpR (op_eqD hu) (pe_has (h__law_draw.up (by decide)) hg hr (by rfl) (pa_cons (pv 0) (pa_cons pe_int pa_nil))) pe_int (nomark _)) (pe_slice sl_U (pv 3) po_none (po_some (pv 2))) (pv 3)))
 (pss_one (ps_ret (pe_callTy call_tupleX (by rfl) b.tuple (by decide +kernel) (pa_cons (pe_lc (own := [("k", 4)]) (g := gName 4) (tt := tYes) rfl nd (pi_range1 (by rfl) b.range (pa_cons (pv 2) pa_nil)) (blkOk_by (own := [("k", 4)]) (N := ["bag", "upto", "size", "stock", "k"]) (sc := defScope s__law_line) (by decide +kernel)) (fun _ _ _ _ _ => pg_name (i := 4) nd rfl (by first | exact Or.inl rfl | exact Or.inr rfl)) (fun _ _ _ _ _ => by exact pts_nil) (fun _ _ _ _ _ => by exact (pe_bm PySem.F.plainAttrs_list PySem.F.slot_list_pop PySem.F.type_list_pop mt_popAt (pv 3) (pa_cons (pe_has (h__law_draw.up (by decide)) hg hr (by rfl) (pa_cons (pv 0) (pa_cons (pe_callB call_len (by rfl) b.len (by decide +kernel) (pa_cons (pv 3) pa_nil)) pa_nil))) pa_nil)))) pa_nil))))))))
    (ls_seq (ls_asg (le_op (LP.e lp_int) (le_callB (j := 0) (les_cons (LP.e (lp_var (i := 1))) les_nil)) rb_add) (lg_name (i := 2) (by decide)))
 (ls_seq (ls_asgL (i := 3) (by decide) (ll_sliceE (LP.e (lp_cb (lms_cons (LP.m lp_str) lms_nil) (RCL.c rc_list))) (loe_some (le_callB (j := 0) (les_cons (LP.e lp_int) les_nil))) loe_none))
 (ls_seq (ls_asgL (i := 3) (by decide) (ll_ifE (lt_test (le_op (le_callB (j := 0) (les_cons (LP.e lp_int) les_nil)) (LP.e lp_int) rb_eq)) (ll_slP (lm_peek (i := 3)) lo_none (lo_some (LP.m (lp_var (i := 2))))) (ll_own (i := 3) (by decide))))
 (ls_ret (le_cb (les_cons (LL.e (ll_compR (j := 4) (vs := [4]) (by decide) (by decide) (les_cons (LP.e (lp_var (i := 2))) les_nil) lt_yes (le_popAt (j := 3) (le_callB (j := 0) (les_cons (LP.e (lp_cb (lms_cons (lm_peek (i := 3)) lms_nil) rc_len)) les_nil))))) les_nil) rc_tuple))))) ?_
  rintro xs ds Q ⟨n, m, sp, hn, rfl, m1, m2, q⟩
  have hb : n + 200 ≤ 1000000000000 := hn
  (simp only [TN.dCallM, TN.mVar, TN.sRetV, TN.dAug, TN.dCallNT, TN.dCallNL, TN.fIxTs, TN.sForI, TN.dCompI, TN.dCompL, TN.dCompT, TN.dCompR, TN.iL, TN.iT, TN.iR1, TN.iR2, TN.iR3, TN.iS, TN.iE, TN.iRv, TN.iZ, TN.dKeepT, TN.dCallT, TN.pTup, TN.pCons, TN.pOwn, TN.sAsgT, TN.sRetT, TN.tpL, TN.fIxT, TN.fTp, TN.dAppendT, TN.dReverseT, TN.dClearT, TN.dVarT, TN.dReverse, TN.dClear, TN.dPop, Pt.d, Sl.tp.injEq, TN.startF, TN.dCallV, Sl.fn.injEq, TN.dCallF, TN.dLRev, TN.dLAdd, TN.dLSlP, TN.dLSlice, TN.dSliceE, TN.dNo, TN.dEnd, TN.fNo, TN.sSeq, TN.sNext, TN.sDrop, TN.sRet, TN.sRetL, TN.sRetN, TN.sIf, TN.sAsg, TN.sAsgL, TN.sStore, TN.sForL, TN.sForT, TN.sForR, TN.sForR2, TN.tgN, TN.tgTup, TN.tgCons, TN.tgNil, TN.dP, TN.dB, TN.dCall, TN.dCallL, TN.dCallB, TN.dCallBL, TN.dCons, TN.dNil, TN.dTup, TN.dLst, TN.dKeep, TN.dVar, TN.fVar, TN.fPeek, TN.fC, TN.f2, TN.d2, TN.d2V, TN.f1, TN.d1, TN.fCB, TN.dCB, TN.dCBL, TN.fNil, TN.fCons, TN.asBool, TN.dTest, TN.bAnd, TN.bOr, TN.bNot, TN.dAnd, TN.dOr, TN.dNot, TN.fAndV, TN.fOrV, TN.fNotV, TN.dAndV, TN.dOrV, TN.dNotV, TN.dIfE, TN.dIfL, TN.fIfE, TN.fChain, TN.fSlice, TN.dSlice, TN.fNo, TN.fEnd, TN.dAppend, TN.dInsert, TN.dPopAt, TN.ownL, TN.start0, TN.begB, TN.backD, TN.wipeD, TN.dYes, TN.sNever, List.getElem?_cons_zero, List.getElem?_cons_succ, List.set_cons_zero, List.set_cons_succ, List.map_cons, List.map_nil, List.length_cons, List.length_nil, List.cons_append, List.nil_append, List.replicate_succ, List.replicate_zero, Option.map_some, Option.map_none, Nat.add_one_sub_one, Nat.sub_zero, Nat.sub_self, Nat.zero_add, reduceCtorEq, Option.some.injEq, PyData.int.injEq, PyData.str.injEq, PyData.bool.injEq, PyData.list.injEq, PyData.tuple.injEq, Sl.sh.injEq, Sl.ow.injEq, List.cons.injEq, exists_eq_left', exists_eq_left, true_implies, false_implies, and_true, true_and, forall_const, Option.isSome_some, TN.imp_ff, TN.imp_tf, TN.imp_tt, exists_eq_left, exists_eq_left', exists_eq])
  have oa : oL oList [PyData.str (Str.ofString "abcdefghijklmnopqrstuvwxyz")] = some (.list ((alpha 26).map PyData.str)) := by
    show (oList [.str SIGNS]).map _ = _
    rw [signs_list]; rfl
  refine windN sp (by show n ≤ (1000000000000 : Int); omega) (by omega) (by omega) fun c ys hc sp1 => ⟨_, rfl, _, oAdd_int, _, oa, windN sp1 (by show _ ≤ (1000000000000 : Int); omega) (by omega) (by omega) fun j ys2 hj sp2 => ⟨_, rfl, _, rfl, _, rfl, windN sp2 (by show _ ≤ (1000000000000 : Int); omega) (by omega) (by omega) fun b ys4 hb4 sp4 => ⟨_, rfl, _, oEq_int, _, rfl, fun _ => ?_, fun _ => ?_⟩⟩⟩
  all_goals simp only [cut_from]
  · refine ⟨_, _, _, rfl, rfl, rfl, _, rfl, by omega, by omega, ?_⟩
    rw [show (1 : Int) + (c : Int) = ((1 + c : Nat) : Int) by omega, cut_to, rangeD_nat]
    refine compD_go (fun (k : Nat) => PyData.int k) (fun ks acc ρ => ∃ (n' : Int) (zs : List D) (l' L' : List Str), Spl n' zs ∧ n' + (ks.length : Int) ≤ n + 200 ∧ acc = l'.map PyData.str ∧ (l' ++ L').Perm ((List.drop j (alpha 26)).take (1 + c)) ∧ l'.length + ks.length = 1 + c ∧ ρ = [.ow zs, .sh (.int m), .sh (.int ((1 + c : Nat) : Int)), .ow (L'.map PyData.str), .no]) ?_ ?_ _ _ _ ⟨_, ys4, [], ((List.drop j (alpha 26)).take (1 + c)), sp4, by rw [List.length_range]; omega, rfl, List.Perm.refl _, by simp, by simp only [List.map_take, List.map_drop]⟩
    rotate_left
    · rintro acc ρ ⟨n', zs, l', L', sp', hn', rfl, pm, hl, rfl⟩
      (simp only [TN.dCallM, TN.mVar, TN.sRetV, TN.dAug, TN.dCallNT, TN.dCallNL, TN.fIxTs, TN.sForI, TN.dCompI, TN.dCompL, TN.dCompT, TN.dCompR, TN.iL, TN.iT, TN.iR1, TN.iR2, TN.iR3, TN.iS, TN.iE, TN.iRv, TN.iZ, TN.dKeepT, TN.dCallT, TN.pTup, TN.pCons, TN.pOwn, TN.sAsgT, TN.sRetT, TN.tpL, TN.fIxT, TN.fTp, TN.dAppendT, TN.dReverseT, TN.dClearT, TN.dVarT, TN.dReverse, TN.dClear, TN.dPop, Pt.d, Sl.tp.injEq, TN.startF, TN.dCallV, Sl.fn.injEq, TN.dCallF, TN.dLRev, TN.dLAdd, TN.dLSlP, TN.dLSlice, TN.dSliceE, TN.dNo, TN.dEnd, TN.fNo, TN.sSeq, TN.sNext, TN.sDrop, TN.sRet, TN.sRetL, TN.sRetN, TN.sIf, TN.sAsg, TN.sAsgL, TN.sStore, TN.sForL, TN.sForT, TN.sForR, TN.sForR2, TN.tgN, TN.tgTup, TN.tgCons, TN.tgNil, TN.dP, TN.dB, TN.dCall, TN.dCallL, TN.dCallB, TN.dCallBL, TN.dCons, TN.dNil, TN.dTup, TN.dLst, TN.dKeep, TN.dVar, TN.fVar, TN.fPeek, TN.fC, TN.f2, TN.d2, TN.d2V, TN.f1, TN.d1, TN.fCB, TN.dCB, TN.dCBL, TN.fNil, TN.fCons, TN.asBool, TN.dTest, TN.bAnd, TN.bOr, TN.bNot, TN.dAnd, TN.dOr, TN.dNot, TN.fAndV, TN.fOrV, TN.fNotV, TN.dAndV, TN.dOrV, TN.dNotV, TN.dIfE, TN.dIfL, TN.fIfE, TN.fChain, TN.fSlice, TN.dSlice, TN.fNo, TN.fEnd, TN.dAppend, TN.dInsert, TN.dPopAt, TN.ownL, TN.start0, TN.begB, TN.backD, TN.wipeD, TN.dYes, TN.sNever, List.getElem?_cons_zero, List.getElem?_cons_succ, List.set_cons_zero, List.set_cons_succ, List.map_cons, List.map_nil, List.length_cons, List.length_nil, List.cons_append, List.nil_append, List.replicate_succ, List.replicate_zero, Option.map_some, Option.map_none, Nat.add_one_sub_one, Nat.sub_zero, Nat.sub_self, Nat.zero_add, reduceCtorEq, Option.some.injEq, PyData.int.injEq, PyData.str.injEq, PyData.bool.injEq, PyData.list.injEq, PyData.tuple.injEq, Sl.sh.injEq, Sl.ow.injEq, List.cons.injEq, exists_eq_left', exists_eq_left, true_implies, false_implies, and_true, true_and, forall_const, Option.isSome_some, TN.imp_ff, TN.imp_tf, TN.imp_tt, exists_eq_left, exists_eq_left', exists_eq])
      simp only [List.length_nil] at hl hn'
      exact ⟨_, rfl, q l' zs (row_sub pm (fun x hx => List.mem_of_mem_drop (List.mem_of_mem_take hx)) (((alpha_nd 26).sublist (List.drop_sublist _ _)).sublist (List.take_sublist _ _)) (by omega) (by omega)) (by omega) (sp'.up (by omega))⟩
    rintro x ks acc ρ K ⟨n', zs, l', L', sp', hn', rfl, pm, hl, rfl⟩ nx
    have LF : ((List.drop j (alpha 26)).take (1 + c)).length ≤ 26 ∧ 1 + c ≤ ((List.drop j (alpha 26)).take (1 + c)).length := by rw [List.length_take, List.length_drop, alpha_len]; omega
    refine ⟨rfl, fun _ => ?_, (fun z => by cases z)⟩
    (simp only [TN.dCallM, TN.mVar, TN.sRetV, TN.dAug, TN.dCallNT, TN.dCallNL, TN.fIxTs, TN.sForI, TN.dCompI, TN.dCompL, TN.dCompT, TN.dCompR, TN.iL, TN.iT, TN.iR1, TN.iR2, TN.iR3, TN.iS, TN.iE, TN.iRv, TN.iZ, TN.dKeepT, TN.dCallT, TN.pTup, TN.pCons, TN.pOwn, TN.sAsgT, TN.sRetT, TN.tpL, TN.fIxT, TN.fTp, TN.dAppendT, TN.dReverseT, TN.dClearT, TN.dVarT, TN.dReverse, TN.dClear, TN.dPop, Pt.d, Sl.tp.injEq, TN.startF, TN.dCallV, Sl.fn.injEq, TN.dCallF, TN.dLRev, TN.dLAdd, TN.dLSlP, TN.dLSlice, TN.dSliceE, TN.dNo, TN.dEnd, TN.fNo, TN.sSeq, TN.sNext, TN.sDrop, TN.sRet, TN.sRetL, TN.sRetN, TN.sIf, TN.sAsg, TN.sAsgL, TN.sStore, TN.sForL, TN.sForT, TN.sForR, TN.sForR2, TN.tgN, TN.tgTup, TN.tgCons, TN.tgNil, TN.dP, TN.dB, TN.dCall, TN.dCallL, TN.dCallB, TN.dCallBL, TN.dCons, TN.dNil, TN.dTup, TN.dLst, TN.dKeep, TN.dVar, TN.fVar, TN.fPeek, TN.fC, TN.f2, TN.d2, TN.d2V, TN.f1, TN.d1, TN.fCB, TN.dCB, TN.dCBL, TN.fNil, TN.fCons, TN.asBool, TN.dTest, TN.bAnd, TN.bOr, TN.bNot, TN.dAnd, TN.dOr, TN.dNot, TN.fAndV, TN.fOrV, TN.fNotV, TN.dAndV, TN.dOrV, TN.dNotV, TN.dIfE, TN.dIfL, TN.fIfE, TN.fChain, TN.fSlice, TN.dSlice, TN.fNo, TN.fEnd, TN.dAppend, TN.dInsert, TN.dPopAt, TN.ownL, TN.start0, TN.begB, TN.backD, TN.wipeD, TN.dYes, TN.sNever, List.getElem?_cons_zero, List.getElem?_cons_succ, List.set_cons_zero, List.set_cons_succ, List.map_cons, List.map_nil, List.length_cons, List.length_nil, List.cons_append, List.nil_append, List.replicate_succ, List.replicate_zero, Option.map_some, Option.map_none, Nat.add_one_sub_one, Nat.sub_zero, Nat.sub_self, Nat.zero_add, reduceCtorEq, Option.some.injEq, PyData.int.injEq, PyData.str.injEq, PyData.bool.injEq, PyData.list.injEq, PyData.tuple.injEq, Sl.sh.injEq, Sl.ow.injEq, List.cons.injEq, exists_eq_left', exists_eq_left, true_implies, false_implies, and_true, true_and, forall_const, Option.isSome_some, TN.imp_ff, TN.imp_tf, TN.imp_tt, exists_eq_left, exists_eq_left', exists_eq])
    rw [List.length_cons] at hl hn'
    have pe := pm.length_eq
    rw [List.length_append] at pe
    have L0 : 0 < L'.length := by omega
    have ol : oLen [.list (L'.map PyData.str)] = some (.int L'.length) := oLen_lstL
    refine ⟨_, ol, windN sp' (by show _ ≤ (1000000000000 : Int); omega) (by omega) (by omega) fun i zs2 hi sp3 => ⟨_, rfl, ?_⟩⟩
    have hi : i < L'.length := by omega
    have pl := pop_len hi
    refine ⟨_, (i : Int), i, .str (L'.getD i ""), rfl, by rw [List.length_map]; omega, rfl, by rw [List.length_map]; exact ixN_nat hi, get_strs hi, by rw [List.length_map]; omega, ?_⟩
    rw [pop_er hi]
    exact nx _ _ ⟨n' + 1, zs2, l' ++ [L'.getD i ""], L'.take i ++ L'.drop (i + 1), sp3, by omega, by rw [List.map_append]; rfl, (pop_perm hi).trans pm, by rw [List.length_append, List.length_singleton]; omega, rfl⟩
  · refine ⟨_, rfl, ?_⟩
    (simp only [TN.dCallM, TN.mVar, TN.sRetV, TN.dAug, TN.dCallNT, TN.dCallNL, TN.fIxTs, TN.sForI, TN.dCompI, TN.dCompL, TN.dCompT, TN.dCompR, TN.iL, TN.iT, TN.iR1, TN.iR2, TN.iR3, TN.iS, TN.iE, TN.iRv, TN.iZ, TN.dKeepT, TN.dCallT, TN.pTup, TN.pCons, TN.pOwn, TN.sAsgT, TN.sRetT, TN.tpL, TN.fIxT, TN.fTp, TN.dAppendT, TN.dReverseT, TN.dClearT, TN.dVarT, TN.dReverse, TN.dClear, TN.dPop, Pt.d, Sl.tp.injEq, TN.startF, TN.dCallV, Sl.fn.injEq, TN.dCallF, TN.dLRev, TN.dLAdd, TN.dLSlP, TN.dLSlice, TN.dSliceE, TN.dNo, TN.dEnd, TN.fNo, TN.sSeq, TN.sNext, TN.sDrop, TN.sRet, TN.sRetL, TN.sRetN, TN.sIf, TN.sAsg, TN.sAsgL, TN.sStore, TN.sForL, TN.sForT, TN.sForR, TN.sForR2, TN.tgN, TN.tgTup, TN.tgCons, TN.tgNil, TN.dP, TN.dB, TN.dCall, TN.dCallL, TN.dCallB, TN.dCallBL, TN.dCons, TN.dNil, TN.dTup, TN.dLst, TN.dKeep, TN.dVar, TN.fVar, TN.fPeek, TN.fC, TN.f2, TN.d2, TN.d2V, TN.f1, TN.d1, TN.fCB, TN.dCB, TN.dCBL, TN.fNil, TN.fCons, TN.asBool, TN.dTest, TN.bAnd, TN.bOr, TN.bNot, TN.dAnd, TN.dOr, TN.dNot, TN.fAndV, TN.fOrV, TN.fNotV, TN.dAndV, TN.dOrV, TN.dNotV, TN.dIfE, TN.dIfL, TN.fIfE, TN.fChain, TN.fSlice, TN.dSlice, TN.fNo, TN.fEnd, TN.dAppend, TN.dInsert, TN.dPopAt, TN.ownL, TN.start0, TN.begB, TN.backD, TN.wipeD, TN.dYes, TN.sNever, List.getElem?_cons_zero, List.getElem?_cons_succ, List.set_cons_zero, List.set_cons_succ, List.map_cons, List.map_nil, List.length_cons, List.length_nil, List.cons_append, List.nil_append, List.replicate_succ, List.replicate_zero, Option.map_some, Option.map_none, Nat.add_one_sub_one, Nat.sub_zero, Nat.sub_self, Nat.zero_add, reduceCtorEq, Option.some.injEq, PyData.int.injEq, PyData.str.injEq, PyData.bool.injEq, PyData.list.injEq, PyData.tuple.injEq, Sl.sh.injEq, Sl.ow.injEq, List.cons.injEq, exists_eq_left', exists_eq_left, true_implies, false_implies, and_true, true_and, forall_const, Option.isSome_some, TN.imp_ff, TN.imp_tf, TN.imp_tt, exists_eq_left, exists_eq_left', exists_eq])
    refine ⟨by omega, by omega, ?_⟩
    rw [show (1 : Int) + (c : Int) = ((1 + c : Nat) : Int) by omega, rangeD_nat]
    refine compD_go (fun (k : Nat) => PyData.int k) (fun ks acc ρ => ∃ (n' : Int) (zs : List D) (l' L' : List Str), Spl n' zs ∧ n' + (ks.length : Int) ≤ n + 200 ∧ acc = l'.map PyData.str ∧ (l' ++ L').Perm (List.drop j (alpha 26)) ∧ l'.length + ks.length = 1 + c ∧ ρ = [.ow zs, .sh (.int m), .sh (.int ((1 + c : Nat) : Int)), .ow (L'.map PyData.str), .no]) ?_ ?_ _ _ _ ⟨_, ys4, [], (List.drop j (alpha 26)), sp4, by rw [List.length_range]; omega, rfl, List.Perm.refl _, by simp, by simp only [List.map_drop]⟩
    rotate_left
    · rintro acc ρ ⟨n', zs, l', L', sp', hn', rfl, pm, hl, rfl⟩
      (simp only [TN.dCallM, TN.mVar, TN.sRetV, TN.dAug, TN.dCallNT, TN.dCallNL, TN.fIxTs, TN.sForI, TN.dCompI, TN.dCompL, TN.dCompT, TN.dCompR, TN.iL, TN.iT, TN.iR1, TN.iR2, TN.iR3, TN.iS, TN.iE, TN.iRv, TN.iZ, TN.dKeepT, TN.dCallT, TN.pTup, TN.pCons, TN.pOwn, TN.sAsgT, TN.sRetT, TN.tpL, TN.fIxT, TN.fTp, TN.dAppendT, TN.dReverseT, TN.dClearT, TN.dVarT, TN.dReverse, TN.dClear, TN.dPop, Pt.d, Sl.tp.injEq, TN.startF, TN.dCallV, Sl.fn.injEq, TN.dCallF, TN.dLRev, TN.dLAdd, TN.dLSlP, TN.dLSlice, TN.dSliceE, TN.dNo, TN.dEnd, TN.fNo, TN.sSeq, TN.sNext, TN.sDrop, TN.sRet, TN.sRetL, TN.sRetN, TN.sIf, TN.sAsg, TN.sAsgL, TN.sStore, TN.sForL, TN.sForT, TN.sForR, TN.sForR2, TN.tgN, TN.tgTup, TN.tgCons, TN.tgNil, TN.dP, TN.dB, TN.dCall, TN.dCallL, TN.dCallB, TN.dCallBL, TN.dCons, TN.dNil, TN.dTup, TN.dLst, TN.dKeep, TN.dVar, TN.fVar, TN.fPeek, TN.fC, TN.f2, TN.d2, TN.d2V, TN.f1, TN.d1, TN.fCB, TN.dCB, TN.dCBL, TN.fNil, TN.fCons, TN.asBool, TN.dTest, TN.bAnd, TN.bOr, TN.bNot, TN.dAnd, TN.dOr, TN.dNot, TN.fAndV, TN.fOrV, TN.fNotV, TN.dAndV, TN.dOrV, TN.dNotV, TN.dIfE, TN.dIfL, TN.fIfE, TN.fChain, TN.fSlice, TN.dSlice, TN.fNo, TN.fEnd, TN.dAppend, TN.dInsert, TN.dPopAt, TN.ownL, TN.start0, TN.begB, TN.backD, TN.wipeD, TN.dYes, TN.sNever, List.getElem?_cons_zero, List.getElem?_cons_succ, List.set_cons_zero, List.set_cons_succ, List.map_cons, List.map_nil, List.length_cons, List.length_nil, List.cons_append, List.nil_append, List.replicate_succ, List.replicate_zero, Option.map_some, Option.map_none, Nat.add_one_sub_one, Nat.sub_zero, Nat.sub_self, Nat.zero_add, reduceCtorEq, Option.some.injEq, PyData.int.injEq, PyData.str.injEq, PyData.bool.injEq, PyData.list.injEq, PyData.tuple.injEq, Sl.sh.injEq, Sl.ow.injEq, List.cons.injEq, exists_eq_left', exists_eq_left, true_implies, false_implies, and_true, true_and, forall_const, Option.isSome_some, TN.imp_ff, TN.imp_tf, TN.imp_tt, exists_eq_left, exists_eq_left', exists_eq])
      simp only [List.length_nil] at hl hn'
      exact ⟨_, rfl, q l' zs (row_sub pm (fun x hx => List.mem_of_mem_drop (hx)) ((alpha_nd 26).sublist (List.drop_sublist _ _)) (by omega) (by omega)) (by omega) (sp'.up (by omega))⟩
    rintro x ks acc ρ K ⟨n', zs, l', L', sp', hn', rfl, pm, hl, rfl⟩ nx
    have LF : (List.drop j (alpha 26)).length ≤ 26 ∧ 1 + c ≤ (List.drop j (alpha 26)).length := by rw [List.length_drop, alpha_len]; omega
    refine ⟨rfl, fun _ => ?_, (fun z => by cases z)⟩
    (simp only [TN.dCallM, TN.mVar, TN.sRetV, TN.dAug, TN.dCallNT, TN.dCallNL, TN.fIxTs, TN.sForI, TN.dCompI, TN.dCompL, TN.dCompT, TN.dCompR, TN.iL, TN.iT, TN.iR1, TN.iR2, TN.iR3, TN.iS, TN.iE, TN.iRv, TN.iZ, TN.dKeepT, TN.dCallT, TN.pTup, TN.pCons, TN.pOwn, TN.sAsgT, TN.sRetT, TN.tpL, TN.fIxT, TN.fTp, TN.dAppendT, TN.dReverseT, TN.dClearT, TN.dVarT, TN.dReverse, TN.dClear, TN.dPop, Pt.d, Sl.tp.injEq, TN.startF, TN.dCallV, Sl.fn.injEq, TN.dCallF, TN.dLRev, TN.dLAdd, TN.dLSlP, TN.dLSlice, TN.dSliceE, TN.dNo, TN.dEnd, TN.fNo, TN.sSeq, TN.sNext, TN.sDrop, TN.sRet, TN.sRetL, TN.sRetN, TN.sIf, TN.sAsg, TN.sAsgL, TN.sStore, TN.sForL, TN.sForT, TN.sForR, TN.sForR2, TN.tgN, TN.tgTup, TN.tgCons, TN.tgNil, TN.dP, TN.dB, TN.dCall, TN.dCallL, TN.dCallB, TN.dCallBL, TN.dCons, TN.dNil, TN.dTup, TN.dLst, TN.dKeep, TN.dVar, TN.fVar, TN.fPeek, TN.fC, TN.f2, TN.d2, TN.d2V, TN.f1, TN.d1, TN.fCB, TN.dCB, TN.dCBL, TN.fNil, TN.fCons, TN.asBool, TN.dTest, TN.bAnd, TN.bOr, TN.bNot, TN.dAnd, TN.dOr, TN.dNot, TN.fAndV, TN.fOrV, TN.fNotV, TN.dAndV, TN.dOrV, TN.dNotV, TN.dIfE, TN.dIfL, TN.fIfE, TN.fChain, TN.fSlice, TN.dSlice, TN.fNo, TN.fEnd, TN.dAppend, TN.dInsert, TN.dPopAt, TN.ownL, TN.start0, TN.begB, TN.backD, TN.wipeD, TN.dYes, TN.sNever, List.getElem?_cons_zero, List.getElem?_cons_succ, List.set_cons_zero, List.set_cons_succ, List.map_cons, List.map_nil, List.length_cons, List.length_nil, List.cons_append, List.nil_append, List.replicate_succ, List.replicate_zero, Option.map_some, Option.map_none, Nat.add_one_sub_one, Nat.sub_zero, Nat.sub_self, Nat.zero_add, reduceCtorEq, Option.some.injEq, PyData.int.injEq, PyData.str.injEq, PyData.bool.injEq, PyData.list.injEq, PyData.tuple.injEq, Sl.sh.injEq, Sl.ow.injEq, List.cons.injEq, exists_eq_left', exists_eq_left, true_implies, false_implies, and_true, true_and, forall_const, Option.isSome_some, TN.imp_ff, TN.imp_tf, TN.imp_tt, exists_eq_left, exists_eq_left', exists_eq])
    rw [List.length_cons] at hl hn'
    have pe := pm.length_eq
    rw [List.length_append] at pe
    have L0 : 0 < L'.length := by omega
    have ol : oLen [.list (L'.map PyData.str)] = some (.int L'.length) := oLen_lstL
    refine ⟨_, ol, windN sp' (by show _ ≤ (1000000000000 : Int); omega) (by omega) (by omega) fun i zs2 hi sp3 => ⟨_, rfl, ?_⟩⟩
    have hi : i < L'.length := by omega
    have pl := pop_len hi
    refine ⟨_, (i : Int), i, .str (L'.getD i ""), rfl, by rw [List.length_map]; omega, rfl, by rw [List.length_map]; exact ixN_nat hi, get_strs hi, by rw [List.length_map]; omega, ?_⟩
    rw [pop_er hi]
    exact nx _ _ ⟨n' + 1, zs2, l' ++ [L'.getD i ""], L'.take i ++ L'.drop (i + 1), sp3, by omega, by rw [List.map_append]; rfl, (pop_perm hi).trans pm, by rw [List.length_append, List.length_singleton]; omega, rfl⟩

abbrev s__law_front : Stmt := topS 27
theorem sc__law_front : FnScope ["line", "spot"] ["line", "spot"] (defScope s__law_front) := ⟨rfl, rfl, rfl, by decide +kernel, rfl, by decide +kernel, by decide +kernel⟩
theorem ok__law_front (b : Blt mg) {f : Addr} {fd : FuncData} (F : Fun K "_law_front" "_law_front" s__law_front f fd) : FnG P w K mg base CX0 1 f fd ["line", "spot"] (sp0 K semFront) := by
  refine fn0 (k := 0) F sc__law_front (fun ds Q h => by obtain ⟨r, p, rfl, _⟩ := h; rfl) (fun cdv A outer s H E hg hr =>
    have nd := sc__law_front.nd
    have hu := hr.units
    have hu1 := hu_of hr
    (pss_one (ps_ret (pe_op op_addU (pe_op op_addU (pe_tupX (pa_cons (pe_ix ix_seq (pv 0) (pv 1) (fun _ _ => rfl)) pa_nil)) (pe_slice sl_U (pv 0) po_none (po_some (pv 1)))) (pe_slice sl_U (pv 0) (po_some (pe_op op_addU (pv 1) pe_int)) po_none)))))
    (ls_ret (le_op (le_op (le_tup (les_cons (LP.e (lp_op (LP.m (lp_var (i := 0))) (LP.m (lp_var (i := 1))) rb_ix)) les_nil)) (LP.e (lp_slice (LP.m (lp_var (i := 0))) lo_none (lo_some (LP.m (lp_var (i := 1)))))) rb_add) (LP.e (lp_slice (LP.m (lp_var (i := 0))) (lo_some (LP.m (lp_op (LP.m (lp_var (i := 1))) (LP.m lp_int) rb_add))) lo_none)) rb_add)) ?_
  rintro ds Q ⟨r, p, rfl, hp, few, q⟩
  (simp only [TN.sSeq, TN.sNext, TN.sDrop, TN.sRet, TN.sRetL, TN.sRetN, TN.sIf, TN.sAsg, TN.sAsgL, TN.sStore, TN.sForL, TN.sForT, TN.sForR, TN.sForR2, TN.tgN, TN.tgTup, TN.tgCons, TN.tgNil, TN.dP, TN.dB, TN.dCall, TN.dCallL, TN.dCallB, TN.dCallBL, TN.dCons, TN.dNil, TN.dTup, TN.dLst, TN.dKeep, TN.dVar, TN.fVar, TN.fPeek, TN.fC, TN.f2, TN.d2, TN.d2V, TN.f1, TN.d1, TN.fCB, TN.dCB, TN.dCBL, TN.fNil, TN.fCons, TN.asBool, TN.dTest, TN.bAnd, TN.bOr, TN.bNot, TN.dAnd, TN.dOr, TN.dNot, TN.fAndV, TN.fOrV, TN.fNotV, TN.dAndV, TN.dOrV, TN.dNotV, TN.dIfE, TN.dIfL, TN.fIfE, TN.fChain, TN.fSlice, TN.dSlice, TN.fNo, TN.fEnd, TN.dAppend, TN.dInsert, TN.dPopAt, TN.ownL, TN.start0, TN.begB, TN.backD, TN.wipeD, TN.dYes, TN.sNever, List.getElem?_cons_zero, List.getElem?_cons_succ, List.set_cons_zero, List.set_cons_succ, List.map_cons, List.map_nil, List.length_cons, List.length_nil, List.cons_append, List.nil_append, List.replicate_succ, List.replicate_zero, Option.map_some, Option.map_none, Nat.add_one_sub_one, Nat.sub_zero, Nat.sub_self, Nat.zero_add, reduceCtorEq, Option.some.injEq, PyData.int.injEq, PyData.str.injEq, PyData.bool.injEq, PyData.list.injEq, PyData.tuple.injEq, Sl.sh.injEq, Sl.ow.injEq, List.cons.injEq, exists_eq_left', exists_eq_left, true_implies, false_implies, and_true, true_and, forall_const, Option.isSome_some, TN.imp_ff, TN.imp_tf, TN.imp_tt, exists_eq_left, exists_eq_left', exists_eq])
  refine ⟨_, oIx_tupL hp, by omega, _, oSl_to, _, oAdd_tup (a := [r.getD p ""]) (by simp; omega), _, ?_, _, oAdd_tup (by simp; omega), q⟩
  show oSlice (some ((p : Int) + 1)) none (tupL r) = _
  exact oSl_from (p := p + 1)

abbrev s__law_act : Stmt := topS 28
theorem sc__law_act : FnScope ["two", "act", "kind", "told_letter", "heard_at", "notes", "later", "one", "other", "named"] ["two", "act"] (defScope s__law_act) := ⟨rfl, rfl, rfl, by decide +kernel, rfl, by decide +kernel, by decide +kernel⟩
theorem ok__law_act (b : Blt mg) (h__law_front : Has P w K mg base "_law_front" 1 ["line", "spot"] (sp0 K semFront)) {f : Addr} {fd : FuncData} (F : Fun K "_law_act" "_law_act" s__law_act f fd) : FnG P w K mg base CX0 2 f fd ["two", "act"] (sp0 K semAct) := by
  refine fn0 (k := 1) F sc__law_act (fun ds Q h => by obtain ⟨t, x, e, rfl, _⟩ := h; rfl) (fun cdv A outer s H E hg hr =>
    have nd := sc__law_act.nd
    have hu := hr.units
    have hu1 := hu_of hr
    (pss_cons (ps_asg (pv 0) (pg_tup (n := 2) rfl (pgs_cons (pg_name (i := 7) nd rfl (by first | exact Or.inl rfl | exact Or.inr rfl)) (pgs_cons (pg_name (i := 8) nd rfl (by first | exact Or.inl rfl | exact Or.inr rfl)) pgs_nil))))
 (pss_cons (ps_set (i := 2) nd rfl (by first | exact Or.inl rfl | exact Or.inr rfl) (pe_ix ix_seq (pv 1) pe_int (fun _ _ => rfl)))
 (pss_cons (ps_if (pt_cmpR (op_eqD hu) (pv 2) pe_str (nomark _)) (pss_cons (ps_set (i := 9) nd rfl (by first | exact Or.inl rfl | exact Or.inr rfl) (pe_ix ix_seq (pv 1) pe_int (fun _ _ => rfl)))
 (pss_cons (ps_set (i := 6) nd rfl (by first | exact Or.inl rfl | exact Or.inr rfl) (pe_tupX (pa_cons (pe_has (h__law_front.up (by decide)) hg hr (by rfl) (pa_cons (pv 7) (pa_cons (pe_tidx (pv 7) (pv 9)) pa_nil))) (pa_cons (pe_has (h__law_front.up (by decide)) hg hr (by rfl) (pa_cons (pv 8) (pa_cons (pe_tidx (pv 8) (pv 9)) pa_nil))) pa_nil))))
 (pss_one (ps_ret (pe_tupX (pa_cons (pv 6) (pa_cons (pv 9) (pa_cons (pe_lst (pa_cons (pv 9) pa_nil)) pa_nil)))))))) pss_nil)
 (pss_cons (ps_set (i := 3) nd rfl (by first | exact Or.inl rfl | exact Or.inr rfl) (pe_ix ix_seq (pv 7) (pe_ix ix_seq (pv 1) pe_int (fun _ _ => rfl)) (fun _ _ => rfl)))
 (pss_cons (ps_if (pt_cmpR (op_eqD hu) (pv 2) pe_str (nomark _)) (pss_one (ps_ret (pe_tupX (pa_cons (pe_tupX (pa_cons (pe_has (h__law_front.up (by decide)) hg hr (by rfl) (pa_cons (pv 7) (pa_cons (pe_ix ix_seq (pv 1) pe_int (fun _ _ => rfl)) pa_nil))) (pa_cons (pv 8) pa_nil))) (pa_cons (pv 3) (pa_cons (pe_lst pa_nil) pa_nil)))))) pss_nil)
 (pss_cons (ps_set (i := 4) nd rfl (by first | exact Or.inl rfl | exact Or.inr rfl) (pe_ifExp (pt_cmpR (op_eqD hu) (pv 2) pe_str (nomark _)) (pe_ix ix_seq (pv 1) pe_int (fun _ _ => rfl)) (pe_ix ix_seq (pv 1) pe_int (fun _ _ => rfl))))
 (pss_cons (ps_set (i := 5) nd rfl (by first | exact Or.inl rfl | exact Or.inr rfl) (pe_lst (pa_cons (pe_ix ix_seq (pv 8) (pv 4) (fun _ _ => rfl)) pa_nil)))
 (pss_cons (ps_set (i := 6) nd rfl (by first | exact Or.inl rfl | exact Or.inr rfl) (pe_has (h__law_front.up (by decide)) hg hr (by rfl) (pa_cons (pv 8) (pa_cons (pv 4) pa_nil))))
 (pss_cons (ps_if (pt_cmpR (op_eqD hu) (pv 2) pe_str (nomark _)) (pss_cons (ps_expr (by exact (pe_bm PySem.F.plainAttrs_list PySem.F.slot_list_append PySem.F.type_list_append mt_append (pv 5) (pa_cons (pe_ix ix_seq (pv 6) (pe_ix ix_seq (pv 1) pe_int (fun _ _ => rfl)) (fun _ _ => rfl)) pa_nil))))
 (pss_one (ps_set (i := 6) nd rfl (by first | exact Or.inl rfl | exact Or.inr rfl) (pe_has (h__law_front.up (by decide)) hg hr (by rfl) (pa_cons (pv 6) (pa_cons (pe_ix ix_seq (pv 1) pe_int (fun _ _ => rfl)) pa_nil)))))) pss_nil)
 (pss_one (ps_ret (pe_tupX (pa_cons (pe_tupX (pa_cons (pe_has (h__law_front.up (by decide)) hg hr (by rfl) (pa_cons (pv 7) (pa_cons (pe_ix ix_seq (pv 1) pe_int (fun _ _ => rfl)) pa_nil))) (pa_cons (pv 6) pa_nil))) (pa_cons (pv 3) (pa_cons (pv 5) pa_nil))))))))))))))))
    (ls_seq (ls_asg (LP.e (lp_var (i := 0))) (lg_tup (lgs_cons (lg_name (i := 7) (by decide)) (lgs_cons (lg_name (i := 8) (by decide)) lgs_nil))))
 (ls_seq (ls_asg (LP.e (lp_op (LP.m (lp_var (i := 1))) (LP.m lp_int) rb_ix)) (lg_name (i := 2) (by decide)))
 (ls_seq (ls_if (LB.g (lb_test (LP.m (lp_op (LP.m (lp_var (i := 2))) (LP.m lp_str) rb_eq)))) (ls_seq (ls_asg (LP.e (lp_op (LP.m (lp_var (i := 1))) (LP.m lp_int) rb_ix)) (lg_name (i := 9) (by decide)))
 (ls_seq (ls_asg (le_tup (les_cons (le_call (les_cons (LP.e (lp_var (i := 7))) (les_cons (LP.e (lp_tindex (LP.m (lp_var (i := 7))) (LP.m (lp_var (i := 9))))) les_nil))) (les_cons (le_call (les_cons (LP.e (lp_var (i := 8))) (les_cons (LP.e (lp_tindex (LP.m (lp_var (i := 8))) (LP.m (lp_var (i := 9))))) les_nil))) les_nil))) (lg_name (i := 6) (by decide)))
 (ls_ret (le_tup (les_cons (LP.e (lp_var (i := 6))) (les_cons (LP.e (lp_var (i := 9))) (les_cons (LL.e (ll_lst (les_cons (LP.e (lp_var (i := 9))) les_nil))) les_nil))))))) ls_next)
 (ls_seq (ls_asg (LP.e (lp_op (LP.m (lp_var (i := 7))) (LP.m (lp_op (LP.m (lp_var (i := 1))) (LP.m lp_int) rb_ix)) rb_ix)) (lg_name (i := 3) (by decide)))
 (ls_seq (ls_if (LB.g (lb_test (LP.m (lp_op (LP.m (lp_var (i := 2))) (LP.m lp_str) rb_eq)))) (ls_ret (le_tup (les_cons (le_tup (les_cons (le_call (les_cons (LP.e (lp_var (i := 7))) (les_cons (LP.e (lp_op (LP.m (lp_var (i := 1))) (LP.m lp_int) rb_ix)) les_nil))) (les_cons (LP.e (lp_var (i := 8))) les_nil))) (les_cons (LP.e (lp_var (i := 3))) (les_cons (LL.e (ll_lst les_nil)) les_nil))))) ls_next)
 (ls_seq (ls_asg (le_ifE (LB.g (lb_test (LP.m (lp_op (LP.m (lp_var (i := 2))) (LP.m lp_str) rb_eq)))) (LP.e (lp_op (LP.m (lp_var (i := 1))) (LP.m lp_int) rb_ix)) (LP.e (lp_op (LP.m (lp_var (i := 1))) (LP.m lp_int) rb_ix))) (lg_name (i := 4) (by decide)))
 (ls_seq (ls_asgL (i := 5) (by decide) (ll_lst (les_cons (LP.e (lp_op (LP.m (lp_var (i := 8))) (LP.m (lp_var (i := 4))) rb_ix)) les_nil)))
 (ls_seq (ls_asg (le_call (les_cons (LP.e (lp_var (i := 8))) (les_cons (LP.e (lp_var (i := 4))) les_nil))) (lg_name (i := 6) (by decide)))
 (ls_seq (ls_if (LB.g (lb_test (LP.m (lp_op (LP.m (lp_var (i := 2))) (LP.m lp_str) rb_eq)))) (ls_seq (ls_drop (le_append (j := 5) (LP.e (lp_op (LP.m (lp_var (i := 6))) (LP.m (lp_op (LP.m (lp_var (i := 1))) (LP.m lp_int) rb_ix)) rb_ix))))
 (ls_asg (le_call (les_cons (LP.e (lp_var (i := 6))) (les_cons (LP.e (lp_op (LP.m (lp_var (i := 1))) (LP.m lp_int) rb_ix)) les_nil))) (lg_name (i := 6) (by decide)))) ls_next)
 (ls_ret (le_tup (les_cons (le_tup (les_cons (le_call (les_cons (LP.e (lp_var (i := 7))) (les_cons (LP.e (lp_op (LP.m (lp_var (i := 1))) (LP.m lp_int) rb_ix)) les_nil))) (les_cons (LP.e (lp_var (i := 6))) les_nil))) (les_cons (LP.e (lp_var (i := 3))) (les_cons (le_var (i := 5) (by decide)) les_nil)))))))))))))) ?_
  rintro ds Q ⟨t, h, e, rfl, gp, ok, q⟩
  have tf := gp.gt.few
  have hf := gp.gh.few
  have hl := gp.len
  cases e with
  | name x =>
    have hx : x ∈ t := ok
    have hxh := gp.pm.mem_iff.mp hx
    (simp only [TN.dCallM, TN.mVar, TN.sRetV, TN.dAug, TN.dCallNT, TN.dCallNL, TN.fIxTs, TN.sForI, TN.dCompI, TN.dCompL, TN.dCompT, TN.dCompR, TN.iL, TN.iT, TN.iR1, TN.iR2, TN.iR3, TN.iS, TN.iE, TN.iRv, TN.iZ, TN.dKeepT, TN.dCallT, TN.pTup, TN.pCons, TN.pOwn, TN.sAsgT, TN.sRetT, TN.tpL, TN.fIxT, TN.fTp, TN.dAppendT, TN.dReverseT, TN.dClearT, TN.dVarT, TN.dReverse, TN.dClear, TN.dPop, Pt.d, Sl.tp.injEq, TN.startF, TN.dCallV, Sl.fn.injEq, TN.dCallF, TN.dLRev, TN.dLAdd, TN.dLSlP, TN.dLSlice, TN.dSliceE, TN.dNo, TN.dEnd, TN.fNo, TN.sSeq, TN.sNext, TN.sDrop, TN.sRet, TN.sRetL, TN.sRetN, TN.sIf, TN.sAsg, TN.sAsgL, TN.sStore, TN.sForL, TN.sForT, TN.sForR, TN.sForR2, TN.tgN, TN.tgTup, TN.tgCons, TN.tgNil, TN.dP, TN.dB, TN.dCall, TN.dCallL, TN.dCallB, TN.dCallBL, TN.dCons, TN.dNil, TN.dTup, TN.dLst, TN.dKeep, TN.dVar, TN.fVar, TN.fPeek, TN.fC, TN.f2, TN.d2, TN.d2V, TN.f1, TN.d1, TN.fCB, TN.dCB, TN.dCBL, TN.fNil, TN.fCons, TN.asBool, TN.dTest, TN.bAnd, TN.bOr, TN.bNot, TN.dAnd, TN.dOr, TN.dNot, TN.fAndV, TN.fOrV, TN.fNotV, TN.dAndV, TN.dOrV, TN.dNotV, TN.dIfE, TN.dIfL, TN.fIfE, TN.fChain, TN.fSlice, TN.dSlice, TN.fNo, TN.fEnd, TN.dAppend, TN.dInsert, TN.dPopAt, TN.ownL, TN.start0, TN.begB, TN.backD, TN.wipeD, TN.dYes, TN.sNever, List.getElem?_cons_zero, List.getElem?_cons_succ, List.set_cons_zero, List.set_cons_succ, List.map_cons, List.map_nil, List.length_cons, List.length_nil, List.cons_append, List.nil_append, List.replicate_succ, List.replicate_zero, Option.map_some, Option.map_none, Nat.add_one_sub_one, Nat.sub_zero, Nat.sub_self, Nat.zero_add, reduceCtorEq, Option.some.injEq, PyData.int.injEq, PyData.str.injEq, PyData.bool.injEq, PyData.list.injEq, PyData.tuple.injEq, Sl.sh.injEq, Sl.ow.injEq, List.cons.injEq, exists_eq_left', exists_eq_left, true_implies, false_implies, and_true, true_and, forall_const, Option.isSome_some, TN.imp_ff, TN.imp_tf, TN.imp_tt, exists_eq_left, exists_eq_left', exists_eq]); (simp only [Ev.d, TN.ix0, TN.ix1, TN.ix2, TN.ixl0, TN.ixl1, TN.ixl2, TN.ixm2, TN.ixm3, TN.len2, TN.len3, TN.neg1, TN.ty_tup, TN.ty_lst, TN.ty_str, TN.ty_int, TN.oLen_tupL, TN.oLen_lstL, TN.oU_int, TN.oEq_int, TN.oNe_int, decide_true, Bool.not_true, Bool.not_false, reduceCtorEq, Option.some.injEq, PyData.int.injEq, PyData.str.injEq, PyData.bool.injEq, PyData.list.injEq, PyData.tuple.injEq, exists_eq_left', TN.imp_ff, TN.imp_tf, TN.imp_tt, true_and, and_true, forall_const, true_implies, false_implies, TN.w_place_place, TN.n_place_place, TN.w_place_name, TN.n_place_name, TN.w_place_lost, TN.n_place_lost, TN.w_place_twice, TN.n_place_twice, TN.w_place_as, TN.n_place_as, TN.w_name_place, TN.n_name_place, TN.w_name_name, TN.n_name_name, TN.w_name_lost, TN.n_name_lost, TN.w_name_twice, TN.n_name_twice, TN.w_name_as, TN.n_name_as, TN.w_lost_place, TN.n_lost_place, TN.w_lost_name, TN.n_lost_name, TN.w_lost_lost, TN.n_lost_lost, TN.w_lost_twice, TN.n_lost_twice, TN.w_lost_as, TN.n_lost_as, TN.w_twice_place, TN.n_twice_place, TN.w_twice_name, TN.n_twice_name, TN.w_twice_lost, TN.n_twice_lost, TN.w_twice_twice, TN.n_twice_twice, TN.w_twice_as, TN.n_twice_as, TN.w_as_place, TN.n_as_place, TN.w_as_name, TN.n_as_name, TN.w_as_lost, TN.n_as_lost, TN.w_as_twice, TN.n_as_twice, TN.w_as_as, TN.n_as_as])
    have q : Q (.sh (.tuple [pairS (toF t (ixS x t)) (toF h (ixS x h)), .str (t.getD (ixS x t) ""), lstL [h.getD (ixS x h) ""]])) := q
    rw [ix_getD hx, ix_getD hxh] at q
    exact ⟨_, _, ⟨rfl, rfl⟩, _, _, rfl, rfl, _, oTIx hx, t, ixS x t, rfl, idx_lt hx, tf, _, rfl, _, oTIx hxh, h, ixS x h, rfl, idx_lt hxh, hf, _, rfl, by omega, by omega, by omega, q⟩
  | place p =>
    have hp : p < t.length := ok
    (simp only [TN.dCallM, TN.mVar, TN.sRetV, TN.dAug, TN.dCallNT, TN.dCallNL, TN.fIxTs, TN.sForI, TN.dCompI, TN.dCompL, TN.dCompT, TN.dCompR, TN.iL, TN.iT, TN.iR1, TN.iR2, TN.iR3, TN.iS, TN.iE, TN.iRv, TN.iZ, TN.dKeepT, TN.dCallT, TN.pTup, TN.pCons, TN.pOwn, TN.sAsgT, TN.sRetT, TN.tpL, TN.fIxT, TN.fTp, TN.dAppendT, TN.dReverseT, TN.dClearT, TN.dVarT, TN.dReverse, TN.dClear, TN.dPop, Pt.d, Sl.tp.injEq, TN.startF, TN.dCallV, Sl.fn.injEq, TN.dCallF, TN.dLRev, TN.dLAdd, TN.dLSlP, TN.dLSlice, TN.dSliceE, TN.dNo, TN.dEnd, TN.fNo, TN.sSeq, TN.sNext, TN.sDrop, TN.sRet, TN.sRetL, TN.sRetN, TN.sIf, TN.sAsg, TN.sAsgL, TN.sStore, TN.sForL, TN.sForT, TN.sForR, TN.sForR2, TN.tgN, TN.tgTup, TN.tgCons, TN.tgNil, TN.dP, TN.dB, TN.dCall, TN.dCallL, TN.dCallB, TN.dCallBL, TN.dCons, TN.dNil, TN.dTup, TN.dLst, TN.dKeep, TN.dVar, TN.fVar, TN.fPeek, TN.fC, TN.f2, TN.d2, TN.d2V, TN.f1, TN.d1, TN.fCB, TN.dCB, TN.dCBL, TN.fNil, TN.fCons, TN.asBool, TN.dTest, TN.bAnd, TN.bOr, TN.bNot, TN.dAnd, TN.dOr, TN.dNot, TN.fAndV, TN.fOrV, TN.fNotV, TN.dAndV, TN.dOrV, TN.dNotV, TN.dIfE, TN.dIfL, TN.fIfE, TN.fChain, TN.fSlice, TN.dSlice, TN.fNo, TN.fEnd, TN.dAppend, TN.dInsert, TN.dPopAt, TN.ownL, TN.start0, TN.begB, TN.backD, TN.wipeD, TN.dYes, TN.sNever, List.getElem?_cons_zero, List.getElem?_cons_succ, List.set_cons_zero, List.set_cons_succ, List.map_cons, List.map_nil, List.length_cons, List.length_nil, List.cons_append, List.nil_append, List.replicate_succ, List.replicate_zero, Option.map_some, Option.map_none, Nat.add_one_sub_one, Nat.sub_zero, Nat.sub_self, Nat.zero_add, reduceCtorEq, Option.some.injEq, PyData.int.injEq, PyData.str.injEq, PyData.bool.injEq, PyData.list.injEq, PyData.tuple.injEq, Sl.sh.injEq, Sl.ow.injEq, List.cons.injEq, exists_eq_left', exists_eq_left, true_implies, false_implies, and_true, true_and, forall_const, Option.isSome_some, TN.imp_ff, TN.imp_tf, TN.imp_tt, exists_eq_left, exists_eq_left', exists_eq]); (simp only [Ev.d, TN.ix0, TN.ix1, TN.ix2, TN.ixl0, TN.ixl1, TN.ixl2, TN.ixm2, TN.ixm3, TN.len2, TN.len3, TN.neg1, TN.ty_tup, TN.ty_lst, TN.ty_str, TN.ty_int, TN.oLen_tupL, TN.oLen_lstL, TN.oU_int, TN.oEq_int, TN.oNe_int, decide_true, Bool.not_true, Bool.not_false, reduceCtorEq, Option.some.injEq, PyData.int.injEq, PyData.str.injEq, PyData.bool.injEq, PyData.list.injEq, PyData.tuple.injEq, exists_eq_left', TN.imp_ff, TN.imp_tf, TN.imp_tt, true_and, and_true, forall_const, true_implies, false_implies, TN.w_place_place, TN.n_place_place, TN.w_place_name, TN.n_place_name, TN.w_place_lost, TN.n_place_lost, TN.w_place_twice, TN.n_place_twice, TN.w_place_as, TN.n_place_as, TN.w_name_place, TN.n_name_place, TN.w_name_name, TN.n_name_name, TN.w_name_lost, TN.n_name_lost, TN.w_name_twice, TN.n_name_twice, TN.w_name_as, TN.n_name_as, TN.w_lost_place, TN.n_lost_place, TN.w_lost_name, TN.n_lost_name, TN.w_lost_lost, TN.n_lost_lost, TN.w_lost_twice, TN.n_lost_twice, TN.w_lost_as, TN.n_lost_as, TN.w_twice_place, TN.n_twice_place, TN.w_twice_name, TN.n_twice_name, TN.w_twice_lost, TN.n_twice_lost, TN.w_twice_twice, TN.n_twice_twice, TN.w_twice_as, TN.n_twice_as, TN.w_as_place, TN.n_as_place, TN.w_as_name, TN.n_as_name, TN.w_as_lost, TN.n_as_lost, TN.w_as_twice, TN.n_as_twice, TN.w_as_as, TN.n_as_as])
    exact ⟨_, _, ⟨rfl, rfl⟩, _, _, rfl, rfl, _, oIx_tupL hp, _, oIx_tupL (by omega), by omega, h, p, rfl, by omega, hf, _, rfl, t, p, rfl, hp, tf, _, rfl, by omega, by omega, q⟩
  | lost p =>
    have hp : p < t.length := ok
    (simp only [TN.dCallM, TN.mVar, TN.sRetV, TN.dAug, TN.dCallNT, TN.dCallNL, TN.fIxTs, TN.sForI, TN.dCompI, TN.dCompL, TN.dCompT, TN.dCompR, TN.iL, TN.iT, TN.iR1, TN.iR2, TN.iR3, TN.iS, TN.iE, TN.iRv, TN.iZ, TN.dKeepT, TN.dCallT, TN.pTup, TN.pCons, TN.pOwn, TN.sAsgT, TN.sRetT, TN.tpL, TN.fIxT, TN.fTp, TN.dAppendT, TN.dReverseT, TN.dClearT, TN.dVarT, TN.dReverse, TN.dClear, TN.dPop, Pt.d, Sl.tp.injEq, TN.startF, TN.dCallV, Sl.fn.injEq, TN.dCallF, TN.dLRev, TN.dLAdd, TN.dLSlP, TN.dLSlice, TN.dSliceE, TN.dNo, TN.dEnd, TN.fNo, TN.sSeq, TN.sNext, TN.sDrop, TN.sRet, TN.sRetL, TN.sRetN, TN.sIf, TN.sAsg, TN.sAsgL, TN.sStore, TN.sForL, TN.sForT, TN.sForR, TN.sForR2, TN.tgN, TN.tgTup, TN.tgCons, TN.tgNil, TN.dP, TN.dB, TN.dCall, TN.dCallL, TN.dCallB, TN.dCallBL, TN.dCons, TN.dNil, TN.dTup, TN.dLst, TN.dKeep, TN.dVar, TN.fVar, TN.fPeek, TN.fC, TN.f2, TN.d2, TN.d2V, TN.f1, TN.d1, TN.fCB, TN.dCB, TN.dCBL, TN.fNil, TN.fCons, TN.asBool, TN.dTest, TN.bAnd, TN.bOr, TN.bNot, TN.dAnd, TN.dOr, TN.dNot, TN.fAndV, TN.fOrV, TN.fNotV, TN.dAndV, TN.dOrV, TN.dNotV, TN.dIfE, TN.dIfL, TN.fIfE, TN.fChain, TN.fSlice, TN.dSlice, TN.fNo, TN.fEnd, TN.dAppend, TN.dInsert, TN.dPopAt, TN.ownL, TN.start0, TN.begB, TN.backD, TN.wipeD, TN.dYes, TN.sNever, List.getElem?_cons_zero, List.getElem?_cons_succ, List.set_cons_zero, List.set_cons_succ, List.map_cons, List.map_nil, List.length_cons, List.length_nil, List.cons_append, List.nil_append, List.replicate_succ, List.replicate_zero, Option.map_some, Option.map_none, Nat.add_one_sub_one, Nat.sub_zero, Nat.sub_self, Nat.zero_add, reduceCtorEq, Option.some.injEq, PyData.int.injEq, PyData.str.injEq, PyData.bool.injEq, PyData.list.injEq, PyData.tuple.injEq, Sl.sh.injEq, Sl.ow.injEq, List.cons.injEq, exists_eq_left', exists_eq_left, true_implies, false_implies, and_true, true_and, forall_const, Option.isSome_some, TN.imp_ff, TN.imp_tf, TN.imp_tt, exists_eq_left, exists_eq_left', exists_eq]); (simp only [Ev.d, TN.ix0, TN.ix1, TN.ix2, TN.ixl0, TN.ixl1, TN.ixl2, TN.ixm2, TN.ixm3, TN.len2, TN.len3, TN.neg1, TN.ty_tup, TN.ty_lst, TN.ty_str, TN.ty_int, TN.oLen_tupL, TN.oLen_lstL, TN.oU_int, TN.oEq_int, TN.oNe_int, decide_true, Bool.not_true, Bool.not_false, reduceCtorEq, Option.some.injEq, PyData.int.injEq, PyData.str.injEq, PyData.bool.injEq, PyData.list.injEq, PyData.tuple.injEq, exists_eq_left', TN.imp_ff, TN.imp_tf, TN.imp_tt, true_and, and_true, forall_const, true_implies, false_implies, TN.w_place_place, TN.n_place_place, TN.w_place_name, TN.n_place_name, TN.w_place_lost, TN.n_place_lost, TN.w_place_twice, TN.n_place_twice, TN.w_place_as, TN.n_place_as, TN.w_name_place, TN.n_name_place, TN.w_name_name, TN.n_name_name, TN.w_name_lost, TN.n_name_lost, TN.w_name_twice, TN.n_name_twice, TN.w_name_as, TN.n_name_as, TN.w_lost_place, TN.n_lost_place, TN.w_lost_name, TN.n_lost_name, TN.w_lost_lost, TN.n_lost_lost, TN.w_lost_twice, TN.n_lost_twice, TN.w_lost_as, TN.n_lost_as, TN.w_twice_place, TN.n_twice_place, TN.w_twice_name, TN.n_twice_name, TN.w_twice_lost, TN.n_twice_lost, TN.w_twice_twice, TN.n_twice_twice, TN.w_twice_as, TN.n_twice_as, TN.w_as_place, TN.n_as_place, TN.w_as_name, TN.n_as_name, TN.w_as_lost, TN.n_as_lost, TN.w_as_twice, TN.n_as_twice, TN.w_as_as, TN.n_as_as])
    exact ⟨_, _, ⟨rfl, rfl⟩, _, _, rfl, rfl, _, oIx_tupL hp, t, p, rfl, hp, tf, _, rfl, by omega, by omega, by omega, q⟩
  | twice p =>
    have hp : p < t.length := ok
    have hq : p < h.length := by omega
    have pl := (toF_perm hq).length_eq
    (simp only [TN.dCallM, TN.mVar, TN.sRetV, TN.dAug, TN.dCallNT, TN.dCallNL, TN.fIxTs, TN.sForI, TN.dCompI, TN.dCompL, TN.dCompT, TN.dCompR, TN.iL, TN.iT, TN.iR1, TN.iR2, TN.iR3, TN.iS, TN.iE, TN.iRv, TN.iZ, TN.dKeepT, TN.dCallT, TN.pTup, TN.pCons, TN.pOwn, TN.sAsgT, TN.sRetT, TN.tpL, TN.fIxT, TN.fTp, TN.dAppendT, TN.dReverseT, TN.dClearT, TN.dVarT, TN.dReverse, TN.dClear, TN.dPop, Pt.d, Sl.tp.injEq, TN.startF, TN.dCallV, Sl.fn.injEq, TN.dCallF, TN.dLRev, TN.dLAdd, TN.dLSlP, TN.dLSlice, TN.dSliceE, TN.dNo, TN.dEnd, TN.fNo, TN.sSeq, TN.sNext, TN.sDrop, TN.sRet, TN.sRetL, TN.sRetN, TN.sIf, TN.sAsg, TN.sAsgL, TN.sStore, TN.sForL, TN.sForT, TN.sForR, TN.sForR2, TN.tgN, TN.tgTup, TN.tgCons, TN.tgNil, TN.dP, TN.dB, TN.dCall, TN.dCallL, TN.dCallB, TN.dCallBL, TN.dCons, TN.dNil, TN.dTup, TN.dLst, TN.dKeep, TN.dVar, TN.fVar, TN.fPeek, TN.fC, TN.f2, TN.d2, TN.d2V, TN.f1, TN.d1, TN.fCB, TN.dCB, TN.dCBL, TN.fNil, TN.fCons, TN.asBool, TN.dTest, TN.bAnd, TN.bOr, TN.bNot, TN.dAnd, TN.dOr, TN.dNot, TN.fAndV, TN.fOrV, TN.fNotV, TN.dAndV, TN.dOrV, TN.dNotV, TN.dIfE, TN.dIfL, TN.fIfE, TN.fChain, TN.fSlice, TN.dSlice, TN.fNo, TN.fEnd, TN.dAppend, TN.dInsert, TN.dPopAt, TN.ownL, TN.start0, TN.begB, TN.backD, TN.wipeD, TN.dYes, TN.sNever, List.getElem?_cons_zero, List.getElem?_cons_succ, List.set_cons_zero, List.set_cons_succ, List.map_cons, List.map_nil, List.length_cons, List.length_nil, List.cons_append, List.nil_append, List.replicate_succ, List.replicate_zero, Option.map_some, Option.map_none, Nat.add_one_sub_one, Nat.sub_zero, Nat.sub_self, Nat.zero_add, reduceCtorEq, Option.some.injEq, PyData.int.injEq, PyData.str.injEq, PyData.bool.injEq, PyData.list.injEq, PyData.tuple.injEq, Sl.sh.injEq, Sl.ow.injEq, List.cons.injEq, exists_eq_left', exists_eq_left, true_implies, false_implies, and_true, true_and, forall_const, Option.isSome_some, TN.imp_ff, TN.imp_tf, TN.imp_tt, exists_eq_left, exists_eq_left', exists_eq]); (simp only [Ev.d, TN.ix0, TN.ix1, TN.ix2, TN.ixl0, TN.ixl1, TN.ixl2, TN.ixm2, TN.ixm3, TN.len2, TN.len3, TN.neg1, TN.ty_tup, TN.ty_lst, TN.ty_str, TN.ty_int, TN.oLen_tupL, TN.oLen_lstL, TN.oU_int, TN.oEq_int, TN.oNe_int, decide_true, Bool.not_true, Bool.not_false, reduceCtorEq, Option.some.injEq, PyData.int.injEq, PyData.str.injEq, PyData.bool.injEq, PyData.list.injEq, PyData.tuple.injEq, exists_eq_left', TN.imp_ff, TN.imp_tf, TN.imp_tt, true_and, and_true, forall_const, true_implies, false_implies, TN.w_place_place, TN.n_place_place, TN.w_place_name, TN.n_place_name, TN.w_place_lost, TN.n_place_lost, TN.w_place_twice, TN.n_place_twice, TN.w_place_as, TN.n_place_as, TN.w_name_place, TN.n_name_place, TN.w_name_name, TN.n_name_name, TN.w_name_lost, TN.n_name_lost, TN.w_name_twice, TN.n_name_twice, TN.w_name_as, TN.n_name_as, TN.w_lost_place, TN.n_lost_place, TN.w_lost_name, TN.n_lost_name, TN.w_lost_lost, TN.n_lost_lost, TN.w_lost_twice, TN.n_lost_twice, TN.w_lost_as, TN.n_lost_as, TN.w_twice_place, TN.n_twice_place, TN.w_twice_name, TN.n_twice_name, TN.w_twice_lost, TN.n_twice_lost, TN.w_twice_twice, TN.n_twice_twice, TN.w_twice_as, TN.n_twice_as, TN.w_as_place, TN.n_as_place, TN.w_as_name, TN.n_as_name, TN.w_as_lost, TN.n_as_lost, TN.w_as_twice, TN.n_as_twice, TN.w_as_as, TN.n_as_as])
    exact ⟨_, _, ⟨rfl, rfl⟩, _, _, rfl, rfl, _, oIx_tupL hp, _, oIx_tupL hq, by omega, h, p, rfl, hq, hf, _, rfl, _, oIx_tupL (by omega), by omega, toF h p, p, rfl, by omega, by omega, _, rfl, t, p, rfl, hp, tf, _, rfl, by omega, by omega, q⟩
  | as' p p2 =>
    obtain ⟨hp, hp2, hpp⟩ : p < t.length ∧ p2 < t.length ∧ p ≠ p2 := ok
    (simp only [TN.dCallM, TN.mVar, TN.sRetV, TN.dAug, TN.dCallNT, TN.dCallNL, TN.fIxTs, TN.sForI, TN.dCompI, TN.dCompL, TN.dCompT, TN.dCompR, TN.iL, TN.iT, TN.iR1, TN.iR2, TN.iR3, TN.iS, TN.iE, TN.iRv, TN.iZ, TN.dKeepT, TN.dCallT, TN.pTup, TN.pCons, TN.pOwn, TN.sAsgT, TN.sRetT, TN.tpL, TN.fIxT, TN.fTp, TN.dAppendT, TN.dReverseT, TN.dClearT, TN.dVarT, TN.dReverse, TN.dClear, TN.dPop, Pt.d, Sl.tp.injEq, TN.startF, TN.dCallV, Sl.fn.injEq, TN.dCallF, TN.dLRev, TN.dLAdd, TN.dLSlP, TN.dLSlice, TN.dSliceE, TN.dNo, TN.dEnd, TN.fNo, TN.sSeq, TN.sNext, TN.sDrop, TN.sRet, TN.sRetL, TN.sRetN, TN.sIf, TN.sAsg, TN.sAsgL, TN.sStore, TN.sForL, TN.sForT, TN.sForR, TN.sForR2, TN.tgN, TN.tgTup, TN.tgCons, TN.tgNil, TN.dP, TN.dB, TN.dCall, TN.dCallL, TN.dCallB, TN.dCallBL, TN.dCons, TN.dNil, TN.dTup, TN.dLst, TN.dKeep, TN.dVar, TN.fVar, TN.fPeek, TN.fC, TN.f2, TN.d2, TN.d2V, TN.f1, TN.d1, TN.fCB, TN.dCB, TN.dCBL, TN.fNil, TN.fCons, TN.asBool, TN.dTest, TN.bAnd, TN.bOr, TN.bNot, TN.dAnd, TN.dOr, TN.dNot, TN.fAndV, TN.fOrV, TN.fNotV, TN.dAndV, TN.dOrV, TN.dNotV, TN.dIfE, TN.dIfL, TN.fIfE, TN.fChain, TN.fSlice, TN.dSlice, TN.fNo, TN.fEnd, TN.dAppend, TN.dInsert, TN.dPopAt, TN.ownL, TN.start0, TN.begB, TN.backD, TN.wipeD, TN.dYes, TN.sNever, List.getElem?_cons_zero, List.getElem?_cons_succ, List.set_cons_zero, List.set_cons_succ, List.map_cons, List.map_nil, List.length_cons, List.length_nil, List.cons_append, List.nil_append, List.replicate_succ, List.replicate_zero, Option.map_some, Option.map_none, Nat.add_one_sub_one, Nat.sub_zero, Nat.sub_self, Nat.zero_add, reduceCtorEq, Option.some.injEq, PyData.int.injEq, PyData.str.injEq, PyData.bool.injEq, PyData.list.injEq, PyData.tuple.injEq, Sl.sh.injEq, Sl.ow.injEq, List.cons.injEq, exists_eq_left', exists_eq_left, true_implies, false_implies, and_true, true_and, forall_const, Option.isSome_some, TN.imp_ff, TN.imp_tf, TN.imp_tt, exists_eq_left, exists_eq_left', exists_eq]); (simp only [Ev.d, TN.ix0, TN.ix1, TN.ix2, TN.ixl0, TN.ixl1, TN.ixl2, TN.ixm2, TN.ixm3, TN.len2, TN.len3, TN.neg1, TN.ty_tup, TN.ty_lst, TN.ty_str, TN.ty_int, TN.oLen_tupL, TN.oLen_lstL, TN.oU_int, TN.oEq_int, TN.oNe_int, decide_true, Bool.not_true, Bool.not_false, reduceCtorEq, Option.some.injEq, PyData.int.injEq, PyData.str.injEq, PyData.bool.injEq, PyData.list.injEq, PyData.tuple.injEq, exists_eq_left', TN.imp_ff, TN.imp_tf, TN.imp_tt, true_and, and_true, forall_const, true_implies, false_implies, TN.w_place_place, TN.n_place_place, TN.w_place_name, TN.n_place_name, TN.w_place_lost, TN.n_place_lost, TN.w_place_twice, TN.n_place_twice, TN.w_place_as, TN.n_place_as, TN.w_name_place, TN.n_name_place, TN.w_name_name, TN.n_name_name, TN.w_name_lost, TN.n_name_lost, TN.w_name_twice, TN.n_name_twice, TN.w_name_as, TN.n_name_as, TN.w_lost_place, TN.n_lost_place, TN.w_lost_name, TN.n_lost_name, TN.w_lost_lost, TN.n_lost_lost, TN.w_lost_twice, TN.n_lost_twice, TN.w_lost_as, TN.n_lost_as, TN.w_twice_place, TN.n_twice_place, TN.w_twice_name, TN.n_twice_name, TN.w_twice_lost, TN.n_twice_lost, TN.w_twice_twice, TN.n_twice_twice, TN.w_twice_as, TN.n_twice_as, TN.w_as_place, TN.n_as_place, TN.w_as_name, TN.n_as_name, TN.w_as_lost, TN.n_as_lost, TN.w_as_twice, TN.n_as_twice, TN.w_as_as, TN.n_as_as])
    exact ⟨_, _, ⟨rfl, rfl⟩, _, _, rfl, rfl, _, oIx_tupL hp, _, oIx_tupL (by omega), by omega, h, p2, rfl, by omega, hf, _, rfl, t, p, rfl, hp, tf, _, rfl, by omega, by omega, q⟩

abbrev s__law_gone : Stmt := topS 29
theorem sc__law_gone : FnScope ["two", "acts", "act", "told_letters", "notes", "letter_now", "more"] ["two", "acts"] (defScope s__law_gone) := ⟨rfl, rfl, rfl, by decide +kernel, rfl, by decide +kernel, by decide +kernel⟩
theorem ok__law_gone (b : Blt mg) (h__law_act : Has P w K mg base "_law_act" 2 ["two", "act"] (sp0 K semAct)) {f : Addr} {fd : FuncData} (F : Fun K "_law_gone" "_law_gone" s__law_gone f fd) : FnG P w K mg base CX0 3 f fd ["two", "acts"] (sp0 K semGoneC) := by
  refine fn0 (k := 2) F sc__law_gone (fun ds Q h => by obtain ⟨t, x, es, rfl, _⟩ := h; rfl) (fun cdv A outer s H E hg hr =>
    have nd := sc__law_gone.nd
    have hu := hr.units
    have hu1 := hu_of hr
    (pss_cons (ps_par (i := 3) (j := 4) rfl nd rfl rfl (by decide) rfl rfl (pa_cons (pe_lst pa_nil) (pa_cons (pe_lst pa_nil) pa_nil)) (by rfl))
 (pss_cons (ps_for PassesOwn.never rfl (pi_list (pv 1)) (pg_name (i := 2) nd rfl (by first | exact Or.inl rfl | exact Or.inr rfl)) (pss_cons (ps_asg (pe_has (h__law_act.up (by decide)) hg hr (by rfl) (pa_cons (pv 0) (pa_cons (pv 2) pa_nil))) (pg_tup (n := 3) rfl (pgs_cons (pg_name (i := 0) nd rfl (by first | exact Or.inl rfl | exact Or.inr rfl)) (pgs_cons (pg_name (i := 5) nd rfl (by first | exact Or.inl rfl | exact Or.inr rfl)) (pgs_cons (pg_name (i := 6) nd rfl (by first | exact Or.inl rfl | exact Or.inr rfl)) pgs_nil)))))
 (pss_cons (ps_expr (by exact (pe_bm PySem.F.plainAttrs_list PySem.F.slot_list_append PySem.F.type_list_append mt_append (pv 3) (pa_cons (pv 5) pa_nil))))
 (pss_one (ps_expr (by exact (pe_bm PySem.F.plainAttrs_list PySem.F.slot_list_extend PySem.F.type_list_extend mt_extS (pv 4) (pa_cons (pv 6) pa_nil))))))))
 (pss_one (ps_ret (pe_tupX (pa_cons (pv 0) (pa_cons (pv 3) (pa_cons (pv 4) pa_nil)))))))))
    (ls_seq (ls_parLL (i := 3) (j := 4) (by decide) (by decide) (by decide) (ll_lst les_nil) (ll_lst les_nil))
 (ls_seq (ls_forL (LP.e (lp_var (i := 1))) (lg_name (i := 2) (by decide)) (ls_seq (ls_asg (le_call (les_cons (LP.e (lp_var (i := 0))) (les_cons (LP.e (lp_var (i := 2))) les_nil))) (lg_tup (lgs_cons (lg_name (i := 0) (by decide)) (lgs_cons (lg_name (i := 5) (by decide)) (lgs_cons (lg_name (i := 6) (by decide)) lgs_nil)))))
 (ls_seq (ls_drop (le_append (j := 3) (LP.e (lp_var (i := 5)))))
 (ls_drop (le_extS (j := 4) (LP.e (lp_var (i := 6))))))))
 (ls_ret (le_tup (les_cons (LP.e (lp_var (i := 0))) (les_cons (le_var (i := 3) (by decide)) (les_cons (le_var (i := 4) (by decide)) les_nil))))))) ?_
  rintro ds Q ⟨t, h, es, rfl, gp, few, ok, q⟩
  (simp only [TN.dCallM, TN.mVar, TN.sRetV, TN.dAug, TN.dCallNT, TN.dCallNL, TN.fIxTs, TN.sForI, TN.dCompI, TN.dCompL, TN.dCompT, TN.dCompR, TN.iL, TN.iT, TN.iR1, TN.iR2, TN.iR3, TN.iS, TN.iE, TN.iRv, TN.iZ, TN.dKeepT, TN.dCallT, TN.pTup, TN.pCons, TN.pOwn, TN.sAsgT, TN.sRetT, TN.tpL, TN.fIxT, TN.fTp, TN.dAppendT, TN.dReverseT, TN.dClearT, TN.dVarT, TN.dReverse, TN.dClear, TN.dPop, Pt.d, Sl.tp.injEq, TN.startF, TN.dCallV, Sl.fn.injEq, TN.dCallF, TN.dLRev, TN.dLAdd, TN.dLSlP, TN.dLSlice, TN.dSliceE, TN.dNo, TN.dEnd, TN.fNo, TN.sSeq, TN.sNext, TN.sDrop, TN.sRet, TN.sRetL, TN.sRetN, TN.sIf, TN.sAsg, TN.sAsgL, TN.sStore, TN.sForL, TN.sForT, TN.sForR, TN.sForR2, TN.tgN, TN.tgTup, TN.tgCons, TN.tgNil, TN.dP, TN.dB, TN.dCall, TN.dCallL, TN.dCallB, TN.dCallBL, TN.dCons, TN.dNil, TN.dTup, TN.dLst, TN.dKeep, TN.dVar, TN.fVar, TN.fPeek, TN.fC, TN.f2, TN.d2, TN.d2V, TN.f1, TN.d1, TN.fCB, TN.dCB, TN.dCBL, TN.fNil, TN.fCons, TN.asBool, TN.dTest, TN.bAnd, TN.bOr, TN.bNot, TN.dAnd, TN.dOr, TN.dNot, TN.fAndV, TN.fOrV, TN.fNotV, TN.dAndV, TN.dOrV, TN.dNotV, TN.dIfE, TN.dIfL, TN.fIfE, TN.fChain, TN.fSlice, TN.dSlice, TN.fNo, TN.fEnd, TN.dAppend, TN.dInsert, TN.dPopAt, TN.ownL, TN.start0, TN.begB, TN.backD, TN.wipeD, TN.dYes, TN.sNever, List.getElem?_cons_zero, List.getElem?_cons_succ, List.set_cons_zero, List.set_cons_succ, List.map_cons, List.map_nil, List.length_cons, List.length_nil, List.cons_append, List.nil_append, List.replicate_succ, List.replicate_zero, Option.map_some, Option.map_none, Nat.add_one_sub_one, Nat.sub_zero, Nat.sub_self, Nat.zero_add, reduceCtorEq, Option.some.injEq, PyData.int.injEq, PyData.str.injEq, PyData.bool.injEq, PyData.list.injEq, PyData.tuple.injEq, Sl.sh.injEq, Sl.ow.injEq, List.cons.injEq, exists_eq_left', exists_eq_left, true_implies, false_implies, and_true, true_and, forall_const, Option.isSome_some, TN.imp_ff, TN.imp_tf, TN.imp_tt, exists_eq_left, exists_eq_left', exists_eq])
  refine ⟨by omega, by omega, ?_⟩
  refine forD_go Ev.d (fun ls ρ => ∃ (u v s w : List Str) (b2 b5 b6 : Sl), ρ = [.sh (pairS u v), .sh (.list (es.map Ev.d)), b2, .ow (s.map PyData.str), .ow (w.map PyData.str), b5, b6] ∧ u.Perm t ∧ v.Perm h ∧ s.length + ls.length ≤ 1000 ∧ w.length + 2 * ls.length ≤ 2000 ∧ (∀ e ∈ ls, e.ok t) ∧ (runT t es).1 = (runT u ls).1 ∧ (runT t es).2 = s ++ (runT u ls).2 ∧ (runH h es).1 = (runH v ls).1 ∧ (runH h es).2 = w ++ (runH v ls).2) ?_ ?_ es _ ⟨t, h, [], [], _, _, _, rfl, List.Perm.refl _, List.Perm.refl _, by simp; omega, by simp; omega, ok, rfl, rfl, rfl, rfl⟩
  rotate_left
  · rintro ρ ⟨u, v, s, w, b2, b5, b6, rfl, _, _, _, _, _, e1, e2, e3, e4⟩
    have e1 : (runT t es).1 = u := e1
    have e2 : (runT t es).2 = s := e2.trans (List.append_nil _)
    have e3 : (runH h es).1 = v := e3
    have e4 : (runH h es).2 = w := e4.trans (List.append_nil _)
    (simp only [TN.dCallM, TN.mVar, TN.sRetV, TN.dAug, TN.dCallNT, TN.dCallNL, TN.fIxTs, TN.sForI, TN.dCompI, TN.dCompL, TN.dCompT, TN.dCompR, TN.iL, TN.iT, TN.iR1, TN.iR2, TN.iR3, TN.iS, TN.iE, TN.iRv, TN.iZ, TN.dKeepT, TN.dCallT, TN.pTup, TN.pCons, TN.pOwn, TN.sAsgT, TN.sRetT, TN.tpL, TN.fIxT, TN.fTp, TN.dAppendT, TN.dReverseT, TN.dClearT, TN.dVarT, TN.dReverse, TN.dClear, TN.dPop, Pt.d, Sl.tp.injEq, TN.startF, TN.dCallV, Sl.fn.injEq, TN.dCallF, TN.dLRev, TN.dLAdd, TN.dLSlP, TN.dLSlice, TN.dSliceE, TN.dNo, TN.dEnd, TN.fNo, TN.sSeq, TN.sNext, TN.sDrop, TN.sRet, TN.sRetL, TN.sRetN, TN.sIf, TN.sAsg, TN.sAsgL, TN.sStore, TN.sForL, TN.sForT, TN.sForR, TN.sForR2, TN.tgN, TN.tgTup, TN.tgCons, TN.tgNil, TN.dP, TN.dB, TN.dCall, TN.dCallL, TN.dCallB, TN.dCallBL, TN.dCons, TN.dNil, TN.dTup, TN.dLst, TN.dKeep, TN.dVar, TN.fVar, TN.fPeek, TN.fC, TN.f2, TN.d2, TN.d2V, TN.f1, TN.d1, TN.fCB, TN.dCB, TN.dCBL, TN.fNil, TN.fCons, TN.asBool, TN.dTest, TN.bAnd, TN.bOr, TN.bNot, TN.dAnd, TN.dOr, TN.dNot, TN.fAndV, TN.fOrV, TN.fNotV, TN.dAndV, TN.dOrV, TN.dNotV, TN.dIfE, TN.dIfL, TN.fIfE, TN.fChain, TN.fSlice, TN.dSlice, TN.fNo, TN.fEnd, TN.dAppend, TN.dInsert, TN.dPopAt, TN.ownL, TN.start0, TN.begB, TN.backD, TN.wipeD, TN.dYes, TN.sNever, List.getElem?_cons_zero, List.getElem?_cons_succ, List.set_cons_zero, List.set_cons_succ, List.map_cons, List.map_nil, List.length_cons, List.length_nil, List.cons_append, List.nil_append, List.replicate_succ, List.replicate_zero, Option.map_some, Option.map_none, Nat.add_one_sub_one, Nat.sub_zero, Nat.sub_self, Nat.zero_add, reduceCtorEq, Option.some.injEq, PyData.int.injEq, PyData.str.injEq, PyData.bool.injEq, PyData.list.injEq, PyData.tuple.injEq, Sl.sh.injEq, Sl.ow.injEq, List.cons.injEq, exists_eq_left', exists_eq_left, true_implies, false_implies, and_true, true_and, forall_const, Option.isSome_some, TN.imp_ff, TN.imp_tf, TN.imp_tt, exists_eq_left, exists_eq_left', exists_eq])
    rw [e1, e2, e3, e4] at q
    exact ⟨by omega, q⟩
  rintro e ls ρ E' ⟨u, v, s, w, b2, b5, b6, rfl, pu, pv, fs, fw, hok, e1, e2, e3, e4⟩ nx _ _ _
  have oke := hok e List.mem_cons_self
  rw [List.length_cons] at fs fw
  have gpu : GPair u v := ⟨gp.gt.perm pu, gp.gh.perm pv, pu.trans (gp.pm.trans pv.symm)⟩
  have oku : e.ok u := Ev.ok_perm pu.symm oke
  (simp only [TN.dCallM, TN.mVar, TN.sRetV, TN.dAug, TN.dCallNT, TN.dCallNL, TN.fIxTs, TN.sForI, TN.dCompI, TN.dCompL, TN.dCompT, TN.dCompR, TN.iL, TN.iT, TN.iR1, TN.iR2, TN.iR3, TN.iS, TN.iE, TN.iRv, TN.iZ, TN.dKeepT, TN.dCallT, TN.pTup, TN.pCons, TN.pOwn, TN.sAsgT, TN.sRetT, TN.tpL, TN.fIxT, TN.fTp, TN.dAppendT, TN.dReverseT, TN.dClearT, TN.dVarT, TN.dReverse, TN.dClear, TN.dPop, Pt.d, Sl.tp.injEq, TN.startF, TN.dCallV, Sl.fn.injEq, TN.dCallF, TN.dLRev, TN.dLAdd, TN.dLSlP, TN.dLSlice, TN.dSliceE, TN.dNo, TN.dEnd, TN.fNo, TN.sSeq, TN.sNext, TN.sDrop, TN.sRet, TN.sRetL, TN.sRetN, TN.sIf, TN.sAsg, TN.sAsgL, TN.sStore, TN.sForL, TN.sForT, TN.sForR, TN.sForR2, TN.tgN, TN.tgTup, TN.tgCons, TN.tgNil, TN.dP, TN.dB, TN.dCall, TN.dCallL, TN.dCallB, TN.dCallBL, TN.dCons, TN.dNil, TN.dTup, TN.dLst, TN.dKeep, TN.dVar, TN.fVar, TN.fPeek, TN.fC, TN.f2, TN.d2, TN.d2V, TN.f1, TN.d1, TN.fCB, TN.dCB, TN.dCBL, TN.fNil, TN.fCons, TN.asBool, TN.dTest, TN.bAnd, TN.bOr, TN.bNot, TN.dAnd, TN.dOr, TN.dNot, TN.fAndV, TN.fOrV, TN.fNotV, TN.dAndV, TN.dOrV, TN.dNotV, TN.dIfE, TN.dIfL, TN.fIfE, TN.fChain, TN.fSlice, TN.dSlice, TN.fNo, TN.fEnd, TN.dAppend, TN.dInsert, TN.dPopAt, TN.ownL, TN.start0, TN.begB, TN.backD, TN.wipeD, TN.dYes, TN.sNever, List.getElem?_cons_zero, List.getElem?_cons_succ, List.set_cons_zero, List.set_cons_succ, List.map_cons, List.map_nil, List.length_cons, List.length_nil, List.cons_append, List.nil_append, List.replicate_succ, List.replicate_zero, Option.map_some, Option.map_none, Nat.add_one_sub_one, Nat.sub_zero, Nat.sub_self, Nat.zero_add, reduceCtorEq, Option.some.injEq, PyData.int.injEq, PyData.str.injEq, PyData.bool.injEq, PyData.list.injEq, PyData.tuple.injEq, Sl.sh.injEq, Sl.ow.injEq, List.cons.injEq, exists_eq_left', exists_eq_left, true_implies, false_implies, and_true, true_and, forall_const, Option.isSome_some, TN.imp_ff, TN.imp_tf, TN.imp_tt, exists_eq_left, exists_eq_left', exists_eq])
  refine ⟨u, v, e, rfl, gpu, oku, _, rfl, ?_⟩
  have tl : (takeAll v (e.takes v)).2.length ≤ 2 := by cases e <;> simp [takeAll, Ev.takes]
  have k1 : (toF u (e.at u)).Perm u := (runT_ok [e] u (fun x hx => by rw [List.mem_singleton] at hx; subst hx; exact oku)).1
  have k2 : (takeAll v (e.takes v)).1.Perm v := (runH_ok [e] v (fun x hx => by rw [List.mem_singleton] at hx; subst hx; exact Ev.ok_perm gpu.pm oku)).1
  refine ⟨_, rfl, rfl, _, _, rfl, _, _, rfl, _, _, rfl, rfl, by rw [List.length_map]; omega, ?_⟩
  unfold dExtS
  (simp only [TN.dCallM, TN.mVar, TN.sRetV, TN.dAug, TN.dCallNT, TN.dCallNL, TN.fIxTs, TN.sForI, TN.dCompI, TN.dCompL, TN.dCompT, TN.dCompR, TN.iL, TN.iT, TN.iR1, TN.iR2, TN.iR3, TN.iS, TN.iE, TN.iRv, TN.iZ, TN.dKeepT, TN.dCallT, TN.pTup, TN.pCons, TN.pOwn, TN.sAsgT, TN.sRetT, TN.tpL, TN.fIxT, TN.fTp, TN.dAppendT, TN.dReverseT, TN.dClearT, TN.dVarT, TN.dReverse, TN.dClear, TN.dPop, Pt.d, Sl.tp.injEq, TN.startF, TN.dCallV, Sl.fn.injEq, TN.dCallF, TN.dLRev, TN.dLAdd, TN.dLSlP, TN.dLSlice, TN.dSliceE, TN.dNo, TN.dEnd, TN.fNo, TN.sSeq, TN.sNext, TN.sDrop, TN.sRet, TN.sRetL, TN.sRetN, TN.sIf, TN.sAsg, TN.sAsgL, TN.sStore, TN.sForL, TN.sForT, TN.sForR, TN.sForR2, TN.tgN, TN.tgTup, TN.tgCons, TN.tgNil, TN.dP, TN.dB, TN.dCall, TN.dCallL, TN.dCallB, TN.dCallBL, TN.dCons, TN.dNil, TN.dTup, TN.dLst, TN.dKeep, TN.dVar, TN.fVar, TN.fPeek, TN.fC, TN.f2, TN.d2, TN.d2V, TN.f1, TN.d1, TN.fCB, TN.dCB, TN.dCBL, TN.fNil, TN.fCons, TN.asBool, TN.dTest, TN.bAnd, TN.bOr, TN.bNot, TN.dAnd, TN.dOr, TN.dNot, TN.fAndV, TN.fOrV, TN.fNotV, TN.dAndV, TN.dOrV, TN.dNotV, TN.dIfE, TN.dIfL, TN.fIfE, TN.fChain, TN.fSlice, TN.dSlice, TN.fNo, TN.fEnd, TN.dAppend, TN.dInsert, TN.dPopAt, TN.ownL, TN.start0, TN.begB, TN.backD, TN.wipeD, TN.dYes, TN.sNever, List.getElem?_cons_zero, List.getElem?_cons_succ, List.set_cons_zero, List.set_cons_succ, List.map_cons, List.map_nil, List.length_cons, List.length_nil, List.cons_append, List.nil_append, List.replicate_succ, List.replicate_zero, Option.map_some, Option.map_none, Nat.add_one_sub_one, Nat.sub_zero, Nat.sub_self, Nat.zero_add, reduceCtorEq, Option.some.injEq, PyData.int.injEq, PyData.str.injEq, PyData.bool.injEq, PyData.list.injEq, PyData.tuple.injEq, Sl.sh.injEq, Sl.ow.injEq, List.cons.injEq, exists_eq_left', exists_eq_left, true_implies, false_implies, and_true, true_and, forall_const, Option.isSome_some, TN.imp_ff, TN.imp_tf, TN.imp_tt, exists_eq_left, exists_eq_left', exists_eq])
  have ea : List.map PyData.str s ++ [PyData.str (u.getD (e.at u) "")] = (s ++ [u.getD (e.at u) ""]).map PyData.str := by rw [List.map_append]; rfl
  refine ⟨by rw [List.length_map, List.length_map]; omega, ?_⟩
  rw [ea, ← List.map_append]
  exact nx _ ⟨_, _, _, _, _, _, _, rfl, k1.trans pu, k2.trans pv, by rw [List.length_append, List.length_singleton]; omega, by rw [List.length_append]; omega, fun y hy => hok y (List.mem_cons_of_mem _ hy), e1, by rw [e2, List.append_assoc]; rfl, e3, e4.trans (List.append_assoc _ _ _).symm⟩

abbrev s__law_acts : Stmt := topS 30
theorem sc__law_acts : FnScope ["bag", "line", "most", "kinds", "found", "k", "kind", "spot", "away"] ["bag", "line", "most", "kinds"] (defScope s__law_acts) := ⟨rfl, rfl, rfl, by decide +kernel, rfl, by decide +kernel, by decide +kernel⟩
theorem ok__law_acts (b : Blt mg) (h__law_draw : Has P w K mg base "_law_draw" 1 ["bag", "sides"] (spB K semWind)) {f : Addr} {fd : FuncData} (F : Fun K "_law_acts" "_law_acts" s__law_acts f fd) : FnG P w K mg base CX0 2 f fd ["bag", "line", "most", "kinds"] (spB K semActs) := by
  refine fnB (k := 1) F sc__law_acts (fun xs ds Q h => by obtain ⟨n, m, r, ks, _, _, rfl, _⟩ := h; rfl) (fun cdv A outer s H E hg hr =>
    have nd := sc__law_acts.nd
    have hu := hr.units
    have hu1 := hu_of hr
    (pss_cons (ps_set (i := 4) nd rfl (by first | exact Or.inl rfl | exact Or.inr rfl) (pe_lst pa_nil))
 (pss_cons (ps_for PassesOwn.never rfl (pi_range1 (by rfl) b.range (pa_cons (pe_has (h__law_draw.up (by decide)) hg hr (by rfl) (pa_cons (pv 0) (pa_cons (pe_op op_addU (pv 2) pe_int) pa_nil))) pa_nil)) (pg_name (i := 5) nd rfl (by first | exact Or.inl rfl | exact Or.inr rfl)) (pss_cons (ps_set (i := 6) nd rfl (by first | exact Or.inl rfl | exact Or.inr rfl) (pe_ifExp (pt_cmpR (op_eqD hu) (pe_has (h__law_draw.up (by decide)) hg hr (by rfl) (pa_cons (pv 0) (pa_cons pe_int pa_nil))) pe_int (nomark _)) (pe_ix ix_seq (pv 3) (pe_has (h__law_draw.up (by decide)) hg hr (by rfl) (pa_cons (pv 0) (pa_cons (pe_callB call_len (by rfl) b.len (by decide +kernel) (pa_cons (pv 3) pa_nil)) pa_nil))) (fun _ _ => rfl)) pe_str))
 (pss_cons (ps_set (i := 7) nd rfl (by first | exact Or.inl rfl | exact Or.inr rfl) (pe_has (h__law_draw.up (by decide)) hg hr (by rfl) (pa_cons (pv 0) (pa_cons (pe_callB call_len (by rfl) b.len (by decide +kernel) (pa_cons (pv 1) pa_nil)) pa_nil))))
 (pss_one (ps_if (pt_cmpR (op_eqD hu) (pv 6) pe_str (nomark _)) (pss_one (ps_expr (by exact (pe_bm PySem.F.plainAttrs_list PySem.F.slot_list_append PySem.F.type_list_append mt_append (pv 4) (pa_cons (pe_tupX (pa_cons pe_str (pa_cons (pe_ix ix_seq (pv 1) (pv 7) (fun _ _ => rfl)) pa_nil))) pa_nil))))) (pss_one (ps_if (PW.pt (pw_and (pt_cmpR (op_eqD hu) (pv 6) pe_str (nomark _)) (pw_and1 (pt_cmpR op_gtU (pe_callB call_len (by rfl) b.len (by decide +kernel) (pa_cons (pv 1) pa_nil)) pe_int (nomark _))))) (pss_cons (ps_set (i := 8) nd rfl (by first | exact Or.inl rfl | exact Or.inr rfl) (pe_op op_addU pe_int (pe_has (h__law_draw.up (by decide)) hg hr (by rfl) (pa_cons (pv 0) (pa_cons (pe_op op_sub (pe_callB call_len (by rfl) b.len (by decide +kernel) (pa_cons (pv 1) pa_nil)) pe_int) pa_nil)))))
 (pss_one (ps_expr (by exact (pe_bm PySem.F.plainAttrs_list PySem.F.slot_list_append PySem.F.type_list_append mt_append (pv 4) (pa_cons (pe_tupX (pa_cons pe_str (pa_cons (pv 7) (pa_cons (pe_op op_mod (pe_op op_addU (pv 7) (pv 8)) (pe_callB call_len (by rfl) b.len (by decide +kernel) (pa_cons (pv 1) pa_nil))) pa_nil)))) pa_nil)))))) (pss_one (ps_expr (by exact (pe_bm PySem.F.plainAttrs_list PySem.F.slot_list_append PySem.F.type_list_append mt_append (pv 4) (pa_cons (pe_tupX (pa_cons (pe_ifExp (pt_cmpR (op_eqD hu) (pv 6) pe_str (nomark _)) pe_str (pv 6)) (pa_cons (pv 7) pa_nil))) pa_nil))))))))))))
 (pss_one (ps_ret (pv 4))))))
    (ls_seq (ls_asgL (i := 4) (by decide) (ll_lst les_nil))
 (ls_seq (ls_forR (les_cons (le_callB (j := 0) (les_cons (LP.e (lp_op (LP.m (lp_var (i := 2))) (LP.m lp_int) rb_add)) les_nil)) les_nil) (lg_name (i := 5) (by decide)) (ls_mid (ls_asg (le_ifE (lt_test (le_op (le_callB (j := 0) (les_cons (LP.e lp_int) les_nil)) (LP.e lp_int) rb_eq)) (le_op (LP.e (lp_var (i := 3))) (le_callB (j := 0) (les_cons (LP.e (lp_cb (lms_cons (LP.m (lp_var (i := 3))) lms_nil) rc_len)) les_nil)) rb_ix) (LP.e lp_str)) (lg_name (i := 6) (by decide)))
 (ls_seq (ls_asg (le_callB (j := 0) (les_cons (LP.e (lp_cb (lms_cons (LP.m (lp_var (i := 1))) lms_nil) rc_len)) les_nil)) (lg_name (i := 7) (by decide)))
 (ls_if (LB.g (lb_test (LP.m (lp_op (LP.m (lp_var (i := 6))) (LP.m lp_str) rb_eq)))) (ls_drop (le_append (j := 4) (le_tup (les_cons (LP.e lp_str) (les_cons (LP.e (lp_op (LP.m (lp_var (i := 1))) (LP.m (lp_var (i := 7))) rb_ix)) les_nil))))) (ls_if (LB.g (lb_and (lb_test (LP.m (lp_op (LP.m (lp_var (i := 6))) (LP.m lp_str) rb_eq))) (lb_test (LP.m (lp_op (LP.m (lp_cb (lms_cons (LP.m (lp_var (i := 1))) lms_nil) rc_len)) (LP.m lp_int) rb_U))))) (ls_seq (ls_asg (le_op (LP.e lp_int) (le_callB (j := 0) (les_cons (LP.e (lp_op (LP.m (lp_cb (lms_cons (LP.m (lp_var (i := 1))) lms_nil) rc_len)) (LP.m lp_int) rb_sub)) les_nil)) rb_add) (lg_name (i := 8) (by decide)))
 (ls_drop (le_append (j := 4) (le_tup (les_cons (LP.e lp_str) (les_cons (LP.e (lp_var (i := 7))) (les_cons (LP.e (lp_op (LP.m (lp_op (LP.m (lp_var (i := 7))) (LP.m (lp_var (i := 8))) rb_add)) (LP.m (lp_cb (lms_cons (LP.m (lp_var (i := 1))) lms_nil) rc_len)) rb_mod)) les_nil))))))) (ls_drop (le_append (j := 4) (le_tup (les_cons (le_ifE (LB.g (lb_test (LP.m (lp_op (LP.m (lp_var (i := 6))) (LP.m lp_str) rb_eq)))) (LP.e lp_str) (LP.e (lp_var (i := 6)))) (les_cons (LP.e (lp_var (i := 7))) les_nil))))))))))
 (ls_retV (j := 4) (by decide)))) ?_
  rintro xs ds Q ⟨n, m, r, ks, sp, hn, rfl, m0, m1, gr, kf, okk, q⟩
  have hb : n + 5000 ≤ 1000000000000 := hn
  have rf := gr.few
  have r0 : 0 < r.length := List.length_pos_iff.mpr gr.ne
  (simp only [TN.dCallM, TN.mVar, TN.sRetV, TN.dAug, TN.dCallNT, TN.dCallNL, TN.fIxTs, TN.sForI, TN.dCompI, TN.dCompL, TN.dCompT, TN.dCompR, TN.iL, TN.iT, TN.iR1, TN.iR2, TN.iR3, TN.iS, TN.iE, TN.iRv, TN.iZ, TN.dKeepT, TN.dCallT, TN.pTup, TN.pCons, TN.pOwn, TN.sAsgT, TN.sRetT, TN.tpL, TN.fIxT, TN.fTp, TN.dAppendT, TN.dReverseT, TN.dClearT, TN.dVarT, TN.dReverse, TN.dClear, TN.dPop, Pt.d, Sl.tp.injEq, TN.startF, TN.dCallV, Sl.fn.injEq, TN.dCallF, TN.dLRev, TN.dLAdd, TN.dLSlP, TN.dLSlice, TN.dSliceE, TN.dNo, TN.dEnd, TN.fNo, TN.sSeq, TN.sNext, TN.sDrop, TN.sRet, TN.sRetL, TN.sRetN, TN.sIf, TN.sAsg, TN.sAsgL, TN.sStore, TN.sForL, TN.sForT, TN.sForR, TN.sForR2, TN.tgN, TN.tgTup, TN.tgCons, TN.tgNil, TN.dP, TN.dB, TN.dCall, TN.dCallL, TN.dCallB, TN.dCallBL, TN.dCons, TN.dNil, TN.dTup, TN.dLst, TN.dKeep, TN.dVar, TN.fVar, TN.fPeek, TN.fC, TN.f2, TN.d2, TN.d2V, TN.f1, TN.d1, TN.fCB, TN.dCB, TN.dCBL, TN.fNil, TN.fCons, TN.asBool, TN.dTest, TN.bAnd, TN.bOr, TN.bNot, TN.dAnd, TN.dOr, TN.dNot, TN.fAndV, TN.fOrV, TN.fNotV, TN.dAndV, TN.dOrV, TN.dNotV, TN.dIfE, TN.dIfL, TN.fIfE, TN.fChain, TN.fSlice, TN.dSlice, TN.fNo, TN.fEnd, TN.dAppend, TN.dInsert, TN.dPopAt, TN.ownL, TN.start0, TN.begB, TN.backD, TN.wipeD, TN.dYes, TN.sNever, List.getElem?_cons_zero, List.getElem?_cons_succ, List.set_cons_zero, List.set_cons_succ, List.map_cons, List.map_nil, List.length_cons, List.length_nil, List.cons_append, List.nil_append, List.replicate_succ, List.replicate_zero, Option.map_some, Option.map_none, Nat.add_one_sub_one, Nat.sub_zero, Nat.sub_self, Nat.zero_add, reduceCtorEq, Option.some.injEq, PyData.int.injEq, PyData.str.injEq, PyData.bool.injEq, PyData.list.injEq, PyData.tuple.injEq, Sl.sh.injEq, Sl.ow.injEq, List.cons.injEq, exists_eq_left', exists_eq_left, true_implies, false_implies, and_true, true_and, forall_const, Option.isSome_some, TN.imp_ff, TN.imp_tf, TN.imp_tt, exists_eq_left, exists_eq_left', exists_eq])
  refine ⟨by omega, _, oAdd_int, windN sp (by show n ≤ (1000000000000 : Int); omega) (by omega) (by omega) fun N ys hN sp1 => ⟨_, rfl, _, rfl, by omega, by omega, ?_⟩⟩
  rw [rangeD_nat]
  refine forD_go (fun (k : Nat) => PyData.int k) (fun ls ρ => ∃ (n' : Int) (zs : List D) (es : List Ev) (b5 b6 b7 b8 : Sl), ρ = [.ow zs, .sh (tupL r), .sh (.int m), .sh (lstL ks), .ow (es.map Ev.d), b5, b6, b7, b8] ∧ Spl n' zs ∧ n' + 10 * ls.length ≤ n + 3000 ∧ es.length + ls.length = N ∧ ∀ e ∈ es, e.ok r ∧ (e.kind ∈ ks ∨ ∃ p, e = Ev.place p)) ?_ ?_ _ _ ⟨_, ys, [], _, _, _, _, rfl, sp1, by rw [List.length_range]; omega, by rw [List.length_range, List.length_nil, Nat.zero_add], (fun _ z => by cases z)⟩
  rotate_left
  · rintro ρ ⟨n', zs, es, b5, b6, b7, b8, rfl, sp', hn', hl, hes⟩
    simp only [List.length_nil] at hn' hl
    (simp only [TN.dCallM, TN.mVar, TN.sRetV, TN.dAug, TN.dCallNT, TN.dCallNL, TN.fIxTs, TN.sForI, TN.dCompI, TN.dCompL, TN.dCompT, TN.dCompR, TN.iL, TN.iT, TN.iR1, TN.iR2, TN.iR3, TN.iS, TN.iE, TN.iRv, TN.iZ, TN.dKeepT, TN.dCallT, TN.pTup, TN.pCons, TN.pOwn, TN.sAsgT, TN.sRetT, TN.tpL, TN.fIxT, TN.fTp, TN.dAppendT, TN.dReverseT, TN.dClearT, TN.dVarT, TN.dReverse, TN.dClear, TN.dPop, Pt.d, Sl.tp.injEq, TN.startF, TN.dCallV, Sl.fn.injEq, TN.dCallF, TN.dLRev, TN.dLAdd, TN.dLSlP, TN.dLSlice, TN.dSliceE, TN.dNo, TN.dEnd, TN.fNo, TN.sSeq, TN.sNext, TN.sDrop, TN.sRet, TN.sRetL, TN.sRetN, TN.sIf, TN.sAsg, TN.sAsgL, TN.sStore, TN.sForL, TN.sForT, TN.sForR, TN.sForR2, TN.tgN, TN.tgTup, TN.tgCons, TN.tgNil, TN.dP, TN.dB, TN.dCall, TN.dCallL, TN.dCallB, TN.dCallBL, TN.dCons, TN.dNil, TN.dTup, TN.dLst, TN.dKeep, TN.dVar, TN.fVar, TN.fPeek, TN.fC, TN.f2, TN.d2, TN.d2V, TN.f1, TN.d1, TN.fCB, TN.dCB, TN.dCBL, TN.fNil, TN.fCons, TN.asBool, TN.dTest, TN.bAnd, TN.bOr, TN.bNot, TN.dAnd, TN.dOr, TN.dNot, TN.fAndV, TN.fOrV, TN.fNotV, TN.dAndV, TN.dOrV, TN.dNotV, TN.dIfE, TN.dIfL, TN.fIfE, TN.fChain, TN.fSlice, TN.dSlice, TN.fNo, TN.fEnd, TN.dAppend, TN.dInsert, TN.dPopAt, TN.ownL, TN.start0, TN.begB, TN.backD, TN.wipeD, TN.dYes, TN.sNever, List.getElem?_cons_zero, List.getElem?_cons_succ, List.set_cons_zero, List.set_cons_succ, List.map_cons, List.map_nil, List.length_cons, List.length_nil, List.cons_append, List.nil_append, List.replicate_succ, List.replicate_zero, Option.map_some, Option.map_none, Nat.add_one_sub_one, Nat.sub_zero, Nat.sub_self, Nat.zero_add, reduceCtorEq, Option.some.injEq, PyData.int.injEq, PyData.str.injEq, PyData.bool.injEq, PyData.list.injEq, PyData.tuple.injEq, Sl.sh.injEq, Sl.ow.injEq, List.cons.injEq, exists_eq_left', exists_eq_left, true_implies, false_implies, and_true, true_and, forall_const, Option.isSome_some, TN.imp_ff, TN.imp_tf, TN.imp_tt, exists_eq_left, exists_eq_left', exists_eq])
    exact q es zs hes (by omega) (sp'.up (by omega))
  rintro k ls ρ E' ⟨n', zs, es, b5, b6, b7, b8, rfl, sp', hn', hl, hes⟩ nx _ _ _
  rw [List.length_cons] at hn' hl
  (simp only [TN.dCallM, TN.mVar, TN.sRetV, TN.dAug, TN.dCallNT, TN.dCallNL, TN.fIxTs, TN.sForI, TN.dCompI, TN.dCompL, TN.dCompT, TN.dCompR, TN.iL, TN.iT, TN.iR1, TN.iR2, TN.iR3, TN.iS, TN.iE, TN.iRv, TN.iZ, TN.dKeepT, TN.dCallT, TN.pTup, TN.pCons, TN.pOwn, TN.sAsgT, TN.sRetT, TN.tpL, TN.fIxT, TN.fTp, TN.dAppendT, TN.dReverseT, TN.dClearT, TN.dVarT, TN.dReverse, TN.dClear, TN.dPop, Pt.d, Sl.tp.injEq, TN.startF, TN.dCallV, Sl.fn.injEq, TN.dCallF, TN.dLRev, TN.dLAdd, TN.dLSlP, TN.dLSlice, TN.dSliceE, TN.dNo, TN.dEnd, TN.fNo, TN.sSeq, TN.sNext, TN.sDrop, TN.sRet, TN.sRetL, TN.sRetN, TN.sIf, TN.sAsg, TN.sAsgL, TN.sStore, TN.sForL, TN.sForT, TN.sForR, TN.sForR2, TN.tgN, TN.tgTup, TN.tgCons, TN.tgNil, TN.dP, TN.dB, TN.dCall, TN.dCallL, TN.dCallB, TN.dCallBL, TN.dCons, TN.dNil, TN.dTup, TN.dLst, TN.dKeep, TN.dVar, TN.fVar, TN.fPeek, TN.fC, TN.f2, TN.d2, TN.d2V, TN.f1, TN.d1, TN.fCB, TN.dCB, TN.dCBL, TN.fNil, TN.fCons, TN.asBool, TN.dTest, TN.bAnd, TN.bOr, TN.bNot, TN.dAnd, TN.dOr, TN.dNot, TN.fAndV, TN.fOrV, TN.fNotV, TN.dAndV, TN.dOrV, TN.dNotV, TN.dIfE, TN.dIfL, TN.fIfE, TN.fChain, TN.fSlice, TN.dSlice, TN.fNo, TN.fEnd, TN.dAppend, TN.dInsert, TN.dPopAt, TN.ownL, TN.start0, TN.begB, TN.backD, TN.wipeD, TN.dYes, TN.sNever, List.getElem?_cons_zero, List.getElem?_cons_succ, List.set_cons_zero, List.set_cons_succ, List.map_cons, List.map_nil, List.length_cons, List.length_nil, List.cons_append, List.nil_append, List.replicate_succ, List.replicate_zero, Option.map_some, Option.map_none, Nat.add_one_sub_one, Nat.sub_zero, Nat.sub_self, Nat.zero_add, reduceCtorEq, Option.some.injEq, PyData.int.injEq, PyData.str.injEq, PyData.bool.injEq, PyData.list.injEq, PyData.tuple.injEq, Sl.sh.injEq, Sl.ow.injEq, List.cons.injEq, exists_eq_left', exists_eq_left, true_implies, false_implies, and_true, true_and, forall_const, Option.isSome_some, TN.imp_ff, TN.imp_tf, TN.imp_tt, exists_eq_left, exists_eq_left', exists_eq])
  unfold sMid
  have k0 : 0 < ks.length := kf.1
  refine ⟨fun ρ' => ∃ (n2 : Int) (zs2 : List D) (w : Str), (w ∈ ks ∨ w = "place") ∧ Spl n2 zs2 ∧ n2 ≤ n' + 2 ∧ ρ' = [.ow zs2, .sh (tupL r), .sh (.int m), .sh (lstL ks), .ow (es.map Ev.d), .sh (.int k), .sh (.str w), b7, b8], ?_, ?_⟩
  · (simp only [TN.dCallM, TN.mVar, TN.sRetV, TN.dAug, TN.dCallNT, TN.dCallNL, TN.fIxTs, TN.sForI, TN.dCompI, TN.dCompL, TN.dCompT, TN.dCompR, TN.iL, TN.iT, TN.iR1, TN.iR2, TN.iR3, TN.iS, TN.iE, TN.iRv, TN.iZ, TN.dKeepT, TN.dCallT, TN.pTup, TN.pCons, TN.pOwn, TN.sAsgT, TN.sRetT, TN.tpL, TN.fIxT, TN.fTp, TN.dAppendT, TN.dReverseT, TN.dClearT, TN.dVarT, TN.dReverse, TN.dClear, TN.dPop, Pt.d, Sl.tp.injEq, TN.startF, TN.dCallV, Sl.fn.injEq, TN.dCallF, TN.dLRev, TN.dLAdd, TN.dLSlP, TN.dLSlice, TN.dSliceE, TN.dNo, TN.dEnd, TN.fNo, TN.sSeq, TN.sNext, TN.sDrop, TN.sRet, TN.sRetL, TN.sRetN, TN.sIf, TN.sAsg, TN.sAsgL, TN.sStore, TN.sForL, TN.sForT, TN.sForR, TN.sForR2, TN.tgN, TN.tgTup, TN.tgCons, TN.tgNil, TN.dP, TN.dB, TN.dCall, TN.dCallL, TN.dCallB, TN.dCallBL, TN.dCons, TN.dNil, TN.dTup, TN.dLst, TN.dKeep, TN.dVar, TN.fVar, TN.fPeek, TN.fC, TN.f2, TN.d2, TN.d2V, TN.f1, TN.d1, TN.fCB, TN.dCB, TN.dCBL, TN.fNil, TN.fCons, TN.asBool, TN.dTest, TN.bAnd, TN.bOr, TN.bNot, TN.dAnd, TN.dOr, TN.dNot, TN.fAndV, TN.fOrV, TN.fNotV, TN.dAndV, TN.dOrV, TN.dNotV, TN.dIfE, TN.dIfL, TN.fIfE, TN.fChain, TN.fSlice, TN.dSlice, TN.fNo, TN.fEnd, TN.dAppend, TN.dInsert, TN.dPopAt, TN.ownL, TN.start0, TN.begB, TN.backD, TN.wipeD, TN.dYes, TN.sNever, List.getElem?_cons_zero, List.getElem?_cons_succ, List.set_cons_zero, List.set_cons_succ, List.map_cons, List.map_nil, List.length_cons, List.length_nil, List.cons_append, List.nil_append, List.replicate_succ, List.replicate_zero, Option.map_some, Option.map_none, Nat.add_one_sub_one, Nat.sub_zero, Nat.sub_self, Nat.zero_add, reduceCtorEq, Option.some.injEq, PyData.int.injEq, PyData.str.injEq, PyData.bool.injEq, PyData.list.injEq, PyData.tuple.injEq, Sl.sh.injEq, Sl.ow.injEq, List.cons.injEq, exists_eq_left', exists_eq_left, true_implies, false_implies, and_true, true_and, forall_const, Option.isSome_some, TN.imp_ff, TN.imp_tf, TN.imp_tt, exists_eq_left, exists_eq_left', exists_eq])
    refine windN sp' (by show _ ≤ (1000000000000 : Int); omega) (by omega) (by omega) fun c zs2 hc sp2 => ⟨_, rfl, _, oEq_int, _, rfl, fun _ => ?_, fun _ => ?_⟩
    · refine ⟨_, oLen_lstL, windN sp2 (by show _ ≤ (1000000000000 : Int); omega) (by omega) (by omega) fun i zs3 hi sp3 => ⟨_, rfl, _, oIx_lstL (by omega), ?_⟩⟩
      exact ⟨_, zs3, ks.getD i "", .inl (by rw [getD_of (by omega)]; exact List.getElem_mem _), sp3, by omega, rfl, rfl⟩
    · exact ⟨_, zs2, _, .inr rfl, sp2, by omega, rfl, rfl⟩
  rintro ρ' ⟨n2, zs2, w, hw, sp2, hn2, rfl⟩
  (simp only [TN.dCallM, TN.mVar, TN.sRetV, TN.dAug, TN.dCallNT, TN.dCallNL, TN.fIxTs, TN.sForI, TN.dCompI, TN.dCompL, TN.dCompT, TN.dCompR, TN.iL, TN.iT, TN.iR1, TN.iR2, TN.iR3, TN.iS, TN.iE, TN.iRv, TN.iZ, TN.dKeepT, TN.dCallT, TN.pTup, TN.pCons, TN.pOwn, TN.sAsgT, TN.sRetT, TN.tpL, TN.fIxT, TN.fTp, TN.dAppendT, TN.dReverseT, TN.dClearT, TN.dVarT, TN.dReverse, TN.dClear, TN.dPop, Pt.d, Sl.tp.injEq, TN.startF, TN.dCallV, Sl.fn.injEq, TN.dCallF, TN.dLRev, TN.dLAdd, TN.dLSlP, TN.dLSlice, TN.dSliceE, TN.dNo, TN.dEnd, TN.fNo, TN.sSeq, TN.sNext, TN.sDrop, TN.sRet, TN.sRetL, TN.sRetN, TN.sIf, TN.sAsg, TN.sAsgL, TN.sStore, TN.sForL, TN.sForT, TN.sForR, TN.sForR2, TN.tgN, TN.tgTup, TN.tgCons, TN.tgNil, TN.dP, TN.dB, TN.dCall, TN.dCallL, TN.dCallB, TN.dCallBL, TN.dCons, TN.dNil, TN.dTup, TN.dLst, TN.dKeep, TN.dVar, TN.fVar, TN.fPeek, TN.fC, TN.f2, TN.d2, TN.d2V, TN.f1, TN.d1, TN.fCB, TN.dCB, TN.dCBL, TN.fNil, TN.fCons, TN.asBool, TN.dTest, TN.bAnd, TN.bOr, TN.bNot, TN.dAnd, TN.dOr, TN.dNot, TN.fAndV, TN.fOrV, TN.fNotV, TN.dAndV, TN.dOrV, TN.dNotV, TN.dIfE, TN.dIfL, TN.fIfE, TN.fChain, TN.fSlice, TN.dSlice, TN.fNo, TN.fEnd, TN.dAppend, TN.dInsert, TN.dPopAt, TN.ownL, TN.start0, TN.begB, TN.backD, TN.wipeD, TN.dYes, TN.sNever, List.getElem?_cons_zero, List.getElem?_cons_succ, List.set_cons_zero, List.set_cons_succ, List.map_cons, List.map_nil, List.length_cons, List.length_nil, List.cons_append, List.nil_append, List.replicate_succ, List.replicate_zero, Option.map_some, Option.map_none, Nat.add_one_sub_one, Nat.sub_zero, Nat.sub_self, Nat.zero_add, reduceCtorEq, Option.some.injEq, PyData.int.injEq, PyData.str.injEq, PyData.bool.injEq, PyData.list.injEq, PyData.tuple.injEq, Sl.sh.injEq, Sl.ow.injEq, List.cons.injEq, exists_eq_left', exists_eq_left, true_implies, false_implies, and_true, true_and, forall_const, Option.isSome_some, TN.imp_ff, TN.imp_tf, TN.imp_tt, exists_eq_left, exists_eq_left', exists_eq])
  refine ⟨_, oLen_tupL, windN sp2 (by show _ ≤ (1000000000000 : Int); omega) (by omega) (by omega) fun p zs3 hp sp3 => ⟨_, rfl, ?_⟩⟩
  have hp : p < r.length := by omega
  have hww : w ∈ words := hw.elim (okk w) (fun e => by subst e; decide +kernel)
  have fin : ∀ (n3 : Int) (zs : List D) (e : Ev) (b8 : Sl), e.ok r → (e.kind ∈ ks ∨ ∃ p, e = Ev.place p) → Spl n3 zs → n3 ≤ n' + 10 → E'.nx [.ow zs, .sh (tupL r), .sh (.int m), .sh (lstL ks), .ow ((es ++ [e]).map Ev.d), .sh (.int k), .sh (.str w), .sh (.int p), b8] := fun n3 zs e b8 h1 h2 h3 h4 =>
    nx _ ⟨n3, zs, es ++ [e], _, _, _, _, rfl, h3, by omega, by rw [List.length_append, List.length_singleton]; omega, fun y hy => by
      rcases List.mem_append.mp hy with hy | hy
      · exact hes y hy
      · rw [List.mem_singleton] at hy; subst hy; exact ⟨h1, h2⟩⟩
  simp only [List.map_append] at fin
  simp only [words, List.mem_cons, List.not_mem_nil, or_false] at hww
  rcases hww with rfl | rfl | rfl | rfl | rfl
  all_goals (simp only [Ev.d, TN.ix0, TN.ix1, TN.ix2, TN.ixl0, TN.ixl1, TN.ixl2, TN.ixm2, TN.ixm3, TN.len2, TN.len3, TN.neg1, TN.ty_tup, TN.ty_lst, TN.ty_str, TN.ty_int, TN.oLen_tupL, TN.oLen_lstL, TN.oU_int, TN.oEq_int, TN.oNe_int, decide_true, Bool.not_true, Bool.not_false, reduceCtorEq, Option.some.injEq, PyData.int.injEq, PyData.str.injEq, PyData.bool.injEq, PyData.list.injEq, PyData.tuple.injEq, exists_eq_left', TN.imp_ff, TN.imp_tf, TN.imp_tt, true_and, and_true, forall_const, true_implies, false_implies, TN.w_place_place, TN.n_place_place, TN.w_place_name, TN.n_place_name, TN.w_place_lost, TN.n_place_lost, TN.w_place_twice, TN.n_place_twice, TN.w_place_as, TN.n_place_as, TN.w_name_place, TN.n_name_place, TN.w_name_name, TN.n_name_name, TN.w_name_lost, TN.n_name_lost, TN.w_name_twice, TN.n_name_twice, TN.w_name_as, TN.n_name_as, TN.w_lost_place, TN.n_lost_place, TN.w_lost_name, TN.n_lost_name, TN.w_lost_lost, TN.n_lost_lost, TN.w_lost_twice, TN.n_lost_twice, TN.w_lost_as, TN.n_lost_as, TN.w_twice_place, TN.n_twice_place, TN.w_twice_name, TN.n_twice_name, TN.w_twice_lost, TN.n_twice_lost, TN.w_twice_twice, TN.n_twice_twice, TN.w_twice_as, TN.n_twice_as, TN.w_as_place, TN.n_as_place, TN.w_as_name, TN.n_as_name, TN.w_as_lost, TN.n_as_lost, TN.w_as_twice, TN.n_as_twice, TN.w_as_as, TN.n_as_as])
  all_goals try have lf : (List.map Ev.d es).length < 100000 := by rw [List.length_map]; omega
  · exact ⟨by omega, lf, fin _ zs3 (Ev.place p) _ hp (.inr ⟨p, rfl⟩) sp3 (by omega)⟩
  · exact ⟨_, oIx_tupL hp, by omega, lf, fin _ zs3 (Ev.name (r.getD p "")) _ (by show _ ∈ r; rw [getD_of hp]; exact List.getElem_mem _) (hw.elim .inl fun z => absurd z (by decide +kernel)) sp3 (by omega)⟩
  · exact ⟨by omega, lf, fin _ zs3 (Ev.lost p) _ hp (hw.elim .inl fun z => absurd z (by decide +kernel)) sp3 (by omega)⟩
  · exact ⟨by omega, lf, fin _ zs3 (Ev.twice p) _ hp (hw.elim .inl fun z => absurd z (by decide +kernel)) sp3 (by omega)⟩
  · refine ⟨fun h1 => ?_, fun _ => ⟨by omega, lf, fin _ zs3 (Ev.place p) _ hp (.inr ⟨p, rfl⟩) sp3 (by omega)⟩⟩
    have h1 : 1 < (r.length : Int) := of_decide_eq_true h1
    refine ⟨.int ((r.length : Int) - 1), rfl, windN sp3 (by show _ ≤ (1000000000000 : Int); omega) (by omega) (by omega) fun a zs4 ha sp4 => ⟨_, rfl, _, oAdd_int, ?_⟩⟩
    have key : (p + (1 + a)) % r.length < r.length ∧ p ≠ (p + (1 + a)) % r.length := by
      refine ⟨Nat.mod_lt _ r0, ?_⟩
      by_cases c : p + (1 + a) < r.length
      · rw [Nat.mod_eq_of_lt c]; omega
      · rw [Nat.mod_eq_sub_mod (by omega), Nat.mod_eq_of_lt (by omega)]; omega
    have em : (match oAdd (PyData.int (p : Nat)) (PyData.int (1 + (a : Int))), some (PyData.int r.length) with
        | some d, some e => oMod d e
        | _, _ => none) = some (.int (((p + (1 + a)) % r.length : Nat) : Int)) := by
      show oMod (.int ((p : Int) + (1 + (a : Int)))) (.int r.length) = _
      rw [oMod_p (by omega)]; rfl
    exact ⟨_, em, by omega, lf, fin _ zs4 (Ev.as' p ((p + (1 + a)) % r.length)) _ ⟨hp, key.1, key.2⟩ (hw.elim .inl fun z => absurd z (by decide +kernel)) sp4 (by omega)⟩

abbrev s__law_faults : Stmt := topS 31
theorem sc__law_faults : FnScope ["line", "said_now", "notes", "found", "bad", "faults", "later", "told_letters", "wrote", "act"] ["line", "said_now", "notes"] (defScope s__law_faults) := ⟨rfl, rfl, rfl, by decide +kernel, rfl, by decide +kernel, by decide +kernel⟩
theorem ok__law_faults (b : Blt mg) (h_explained : Has P w K mg base "explained" 6 ["row", "said", "written"] (sp0 K semExplained)) (h__law_gone : Has P w K mg base "_law_gone" 3 ["two", "acts"] (sp0 K semGoneC)) {f : Addr} {fd : FuncData} (F : Fun K "_law_faults" "_law_faults" s__law_faults f fd) : FnG P w K mg base CX0 7 f fd ["line", "said_now", "notes"] (sp0 K semFaultsK) := by
  refine fn0 (k := 6) F sc__law_faults (fun ds Q h => by obtain ⟨r, s, w, rfl, _⟩ := h; rfl) (fun cdv A outer s H E hg hr =>
    have nd := sc__law_faults.nd
    have hu := hr.units
    have hu1 := hu_of hr
    (pss_cons (ps_set (i := 3) nd rfl (by first | exact Or.inl rfl | exact Or.inr rfl) (pe_has (h_explained.up (by decide)) hg hr (by rfl) (pa_cons (pv 0) (pa_cons (pv 1) (pa_cons (pv 2) pa_nil)))))
 (pss_cons (ps_if (pt_cmpR op_isN1 (pv 3) pe_non (nomark _)) (pss_one (ps_ret pe_non)) pss_nil)
 (pss_cons (ps_asg (pe_has (h__law_gone.up (by decide)) hg hr (by rfl) (pa_cons (pe_tupX (pa_cons (pv 0) (pa_cons (pv 0) pa_nil))) (pa_cons (pe_ix ix_seq (pv 3) pe_int (fun _ _ => rfl)) pa_nil))) (pg_tup (n := 3) rfl (pgs_cons (pg_name (i := 6) nd rfl (by first | exact Or.inl rfl | exact Or.inr rfl)) (pgs_cons (pg_name (i := 7) nd rfl (by first | exact Or.inl rfl | exact Or.inr rfl)) (pgs_cons (pg_name (i := 8) nd rfl (by first | exact Or.inl rfl | exact Or.inr rfl)) pgs_nil)))))
 (pss_cons (ps_setLc (i := 4) (own := [("act", 9)]) (g := gName 9) rfl nd rfl rfl (sw_true rfl rfl rfl (by decide +kernel)) (pi_list (pe_ix ix_seq (pv 3) pe_int (fun _ _ => rfl))) (blkOk_by (own := [("act", 9)]) (N := ["line", "said_now", "notes", "found", "bad", "faults", "later", "told_letters", "wrote", "act"]) (sc := defScope s__law_faults) (by decide +kernel)) (fun _ _ _ _ _ => pg_name (i := 9) nd rfl (by first | exact Or.inl rfl | exact Or.inr rfl)) (fun _ _ _ _ _ => by exact (pts_one (pt_cmpR (op_eqD hu) (pe_ix ix_seq (pv 9) pe_int (fun _ _ => rfl)) pe_str (nomark _)))) (fun _ _ _ _ _ => by exact (pv 9)))
 (pss_cons (ps_set (i := 5) nd rfl (by first | exact Or.inl rfl | exact Or.inr rfl) (pe_callB call_len (by rfl) b.len (by decide +kernel) (pa_cons (pe_lc (own := [("act", 9)]) (g := gName 9) rfl nd (pi_list (pe_ix ix_seq (pv 3) pe_int (fun _ _ => rfl))) (blkOk_by (own := [("act", 9)]) (N := ["line", "said_now", "notes", "found", "bad", "faults", "later", "told_letters", "wrote", "act"]) (sc := defScope s__law_faults) (by decide +kernel)) (fun _ _ _ _ _ => pg_name (i := 9) nd rfl (by first | exact Or.inl rfl | exact Or.inr rfl)) (fun _ _ _ _ _ => by exact (pts_one (pt_cmpR (op_neD hu) (pe_ix ix_seq (pv 9) pe_int (fun _ _ => rfl)) pe_str (nomark _)))) (fun _ _ _ _ _ => by exact (pv 9))) pa_nil)))
 (pss_cons (ps_if (PW.pt (pw_or (pt_cmpR (op_neD hu) (pv 7) (pv 1) (nomark _)) (pw_or (pt_cmpR (op_neD hu) (pv 8) (pv 2) (nomark _)) (pw_or (pt_cmpR (op_neD hu) (pv 4) (pe_lst pa_nil) (nomark _)) (pw_or1 (pt_cmpR (op_neD hu) (pv 5) (pe_ix ix_seq (pv 3) pe_int (fun _ _ => rfl)) (nomark _))))))) (pss_one (ps_ret (pe_un un_neg pe_int))) pss_nil)
 (pss_one (ps_ret (pv 5))))))))))
    (ls_seq (ls_asg (le_call (les_cons (LP.e (lp_var (i := 0))) (les_cons (LP.e (lp_var (i := 1))) (les_cons (LP.e (lp_var (i := 2))) les_nil)))) (lg_name (i := 3) (by decide)))
 (ls_seq (ls_if (LB.g (lb_test (LP.m (lp_op (LP.m (lp_var (i := 3))) (LP.m lp_non) rb_isN)))) (ls_ret (LP.e lp_non)) ls_next)
 (ls_seq (ls_asg (le_call (les_cons (le_tup (les_cons (LP.e (lp_var (i := 0))) (les_cons (LP.e (lp_var (i := 0))) les_nil))) (les_cons (LP.e (lp_op (LP.m (lp_var (i := 3))) (LP.m lp_int) rb_ix)) les_nil))) (lg_tup (lgs_cons (lg_name (i := 6) (by decide)) (lgs_cons (lg_name (i := 7) (by decide)) (lgs_cons (lg_name (i := 8) (by decide)) lgs_nil)))))
 (ls_seq (ls_asg (LL.e (ll_compL (j := 9) (vs := [9]) (by decide) (by decide) (LP.e (lp_op (LP.m (lp_var (i := 3))) (LP.m lp_int) rb_ix)) (LB.g (lb_test (LP.m (lp_op (LP.m (lp_op (LP.m (lp_var (i := 9))) (LP.m lp_int) rb_ix)) (LP.m lp_str) rb_eq)))) (LP.e (lp_var (i := 9))))) (lg_name (i := 4) (by decide)))
 (ls_seq (ls_asg (le_cb (les_cons (LL.e (ll_compL (j := 9) (vs := [9]) (by decide) (by decide) (LP.e (lp_op (LP.m (lp_var (i := 3))) (LP.m lp_int) rb_ix)) (LB.g (lb_test (LP.m (lp_op (LP.m (lp_op (LP.m (lp_var (i := 9))) (LP.m lp_int) rb_ix)) (LP.m lp_str) rb_ne)))) (LP.e (lp_var (i := 9))))) les_nil) rc_len) (lg_name (i := 5) (by decide)))
 (ls_seq (ls_if (lt_or (LB.g (lb_test (LP.m (lp_op (LP.m (lp_var (i := 7))) (LP.m (lp_var (i := 1))) rb_ne)))) (lt_or (LB.g (lb_test (LP.m (lp_op (LP.m (lp_var (i := 8))) (LP.m (lp_var (i := 2))) rb_ne)))) (lt_or (lt_test (le_op (LP.e (lp_var (i := 4))) (LL.e (ll_lst les_nil)) rb_ne)) (LB.g (lb_test (LP.m (lp_op (LP.m (lp_var (i := 5))) (LP.m (lp_op (LP.m (lp_var (i := 3))) (LP.m lp_int) rb_ix)) rb_ne))))))) (ls_ret (LP.e (lp_un (LP.m lp_int) ru_neg))) ls_next)
 (ls_ret (LP.e (lp_var (i := 5)))))))))) ?_
  rintro ds Q ⟨r, s, w, rfl, gr, hs, hw, f1, f2, q⟩
  (simp only [TN.dCallO, TN.dCallOI, TN.dCallNO, TN.oVar, TN.sCut, TN.tgLst, TN.iK, TN.iV, TN.iLT, TN.pNew, TN.dCallN, TN.dCompI2, TN.dLAddE, TN.oD, TN.sDNew, TN.sPutD, TN.fGetO, TN.fGetO2, TN.fInO, TN.fNinO, TN.dVarD, TN.dExtS, TN.mOwn, TN.dCallM, TN.mVar, TN.sRetV, TN.dAug, TN.dCallNT, TN.dCallNL, TN.fIxTs, TN.sForI, TN.dCompI, TN.dCompL, TN.dCompT, TN.dCompR, TN.iL, TN.iT, TN.iR1, TN.iR2, TN.iR3, TN.iS, TN.iE, TN.iRv, TN.iZ, TN.dKeepT, TN.dCallT, TN.pTup, TN.pCons, TN.pOwn, TN.sAsgT, TN.sRetT, TN.tpL, TN.fIxT, TN.fTp, TN.dAppendT, TN.dReverseT, TN.dClearT, TN.dVarT, TN.dReverse, TN.dClear, TN.dPop, Pt.d, Sl.tp.injEq, TN.startF, TN.dCallV, Sl.fn.injEq, TN.dCallF, TN.dLRev, TN.dLAdd, TN.dLSlP, TN.dLSlice, TN.dSliceE, TN.dNo, TN.dEnd, TN.fNo, TN.sSeq, TN.sNext, TN.sDrop, TN.sRet, TN.sRetL, TN.sRetN, TN.sIf, TN.sAsg, TN.sAsgL, TN.sStore, TN.sForL, TN.sForT, TN.sForR, TN.sForR2, TN.tgN, TN.tgTup, TN.tgCons, TN.tgNil, TN.dP, TN.dB, TN.dCall, TN.dCallL, TN.dCallB, TN.dCallBL, TN.dCons, TN.dNil, TN.dTup, TN.dLst, TN.dKeep, TN.dVar, TN.fVar, TN.fPeek, TN.fC, TN.f2, TN.d2, TN.d2V, TN.f1, TN.d1, TN.fCB, TN.dCB, TN.dCBL, TN.fNil, TN.fCons, TN.asBool, TN.dTest, TN.bAnd, TN.bOr, TN.bNot, TN.dAnd, TN.dOr, TN.dNot, TN.fAndV, TN.fOrV, TN.fNotV, TN.dAndV, TN.dOrV, TN.dNotV, TN.dIfE, TN.dIfL, TN.fIfE, TN.fChain, TN.fSlice, TN.dSlice, TN.fNo, TN.fEnd, TN.dAppend, TN.dInsert, TN.dPopAt, TN.ownL, TN.start0, TN.begB, TN.backD, TN.wipeD, TN.dYes, TN.sNever, List.getElem?_cons_zero, List.getElem?_cons_succ, List.set_cons_zero, List.set_cons_succ, List.map_cons, List.map_nil, List.length_cons, List.length_nil, List.cons_append, List.nil_append, List.replicate_succ, List.replicate_zero, Option.map_some, Option.map_none, Nat.add_one_sub_one, Nat.sub_zero, Nat.sub_self, Nat.zero_add, reduceCtorEq, Option.some.injEq, PyData.int.injEq, PyData.str.injEq, PyData.bool.injEq, PyData.list.injEq, PyData.tuple.injEq, Sl.sh.injEq, Sl.ow.injEq, List.cons.injEq, exists_eq_left', exists_eq_left, true_implies, false_implies, and_true, true_and, forall_const, Option.isSome_some, TN.imp_ff, TN.imp_tf, TN.imp_tt, exists_eq_left, exists_eq_left', exists_eq])
  refine ⟨r, s, w, rfl, gr, hs, hw, f1, f2, fun e0 => ⟨_, rfl, true, rfl, fun _ => by rw [e0] at q; exact q, (fun z => by cases z)⟩, fun n es e0 tt ff => ⟨_, rfl, false, rfl, (fun z => by cases z), fun _ => ?_⟩⟩
  rw [e0] at q
  obtain ⟨h1, h2, h3, h4⟩ := hist_of gr hs hw tt
  have gp : GPair r r := ⟨gr, gr, .refl _⟩
  have i1 : oIx (.tuple [.int n, .list (es.map Ev.d)]) (.int 1) = some (.list (es.map Ev.d)) := rfl
  refine ⟨by omega, _, i1, r, r, es, rfl, gp, by omega, (fun e he => (h3 e he).1), _, rfl, _, rfl, rfl, _, _, rfl, _, _, rfl, _, _, rfl, rfl, _, i1, _, rfl, ?_⟩
  refine comp_fil Ev.d Ev.d Ev.isN (fun _ => True) rfl (fun _ => rfl) ?_ ?_ es [] (fun _ _ => trivial) (by simp; omega) ?_
  · intro e R _ kk
    (simp only [TN.dCallO, TN.dCallOI, TN.dCallNO, TN.oVar, TN.sCut, TN.tgLst, TN.iK, TN.iV, TN.iLT, TN.pNew, TN.dCallN, TN.dCompI2, TN.dLAddE, TN.oD, TN.sDNew, TN.sPutD, TN.fGetO, TN.fGetO2, TN.fInO, TN.fNinO, TN.dVarD, TN.dExtS, TN.mOwn, TN.dCallM, TN.mVar, TN.sRetV, TN.dAug, TN.dCallNT, TN.dCallNL, TN.fIxTs, TN.sForI, TN.dCompI, TN.dCompL, TN.dCompT, TN.dCompR, TN.iL, TN.iT, TN.iR1, TN.iR2, TN.iR3, TN.iS, TN.iE, TN.iRv, TN.iZ, TN.dKeepT, TN.dCallT, TN.pTup, TN.pCons, TN.pOwn, TN.sAsgT, TN.sRetT, TN.tpL, TN.fIxT, TN.fTp, TN.dAppendT, TN.dReverseT, TN.dClearT, TN.dVarT, TN.dReverse, TN.dClear, TN.dPop, Pt.d, Sl.tp.injEq, TN.startF, TN.dCallV, Sl.fn.injEq, TN.dCallF, TN.dLRev, TN.dLAdd, TN.dLSlP, TN.dLSlice, TN.dSliceE, TN.dNo, TN.dEnd, TN.fNo, TN.sSeq, TN.sNext, TN.sDrop, TN.sRet, TN.sRetL, TN.sRetN, TN.sIf, TN.sAsg, TN.sAsgL, TN.sStore, TN.sForL, TN.sForT, TN.sForR, TN.sForR2, TN.tgN, TN.tgTup, TN.tgCons, TN.tgNil, TN.dP, TN.dB, TN.dCall, TN.dCallL, TN.dCallB, TN.dCallBL, TN.dCons, TN.dNil, TN.dTup, TN.dLst, TN.dKeep, TN.dVar, TN.fVar, TN.fPeek, TN.fC, TN.f2, TN.d2, TN.d2V, TN.f1, TN.d1, TN.fCB, TN.dCB, TN.dCBL, TN.fNil, TN.fCons, TN.asBool, TN.dTest, TN.bAnd, TN.bOr, TN.bNot, TN.dAnd, TN.dOr, TN.dNot, TN.fAndV, TN.fOrV, TN.fNotV, TN.dAndV, TN.dOrV, TN.dNotV, TN.dIfE, TN.dIfL, TN.fIfE, TN.fChain, TN.fSlice, TN.dSlice, TN.fNo, TN.fEnd, TN.dAppend, TN.dInsert, TN.dPopAt, TN.ownL, TN.start0, TN.begB, TN.backD, TN.wipeD, TN.dYes, TN.sNever, List.getElem?_cons_zero, List.getElem?_cons_succ, List.set_cons_zero, List.set_cons_succ, List.map_cons, List.map_nil, List.length_cons, List.length_nil, List.cons_append, List.nil_append, List.replicate_succ, List.replicate_zero, Option.map_some, Option.map_none, Nat.add_one_sub_one, Nat.sub_zero, Nat.sub_self, Nat.zero_add, reduceCtorEq, Option.some.injEq, PyData.int.injEq, PyData.str.injEq, PyData.bool.injEq, PyData.list.injEq, PyData.tuple.injEq, Sl.sh.injEq, Sl.ow.injEq, List.cons.injEq, exists_eq_left', exists_eq_left, true_implies, false_implies, and_true, true_and, forall_const, Option.isSome_some, TN.imp_ff, TN.imp_tf, TN.imp_tt, exists_eq_left, exists_eq_left', exists_eq])
    obtain ⟨w, e1, e2⟩ := isN_eq e
    simp only [e1, e2]
    exact ⟨_, rfl, kk⟩
  · intro e R _ kk
    (simp only [TN.dCallO, TN.dCallOI, TN.dCallNO, TN.oVar, TN.sCut, TN.tgLst, TN.iK, TN.iV, TN.iLT, TN.pNew, TN.dCallN, TN.dCompI2, TN.dLAddE, TN.oD, TN.sDNew, TN.sPutD, TN.fGetO, TN.fGetO2, TN.fInO, TN.fNinO, TN.dVarD, TN.dExtS, TN.mOwn, TN.dCallM, TN.mVar, TN.sRetV, TN.dAug, TN.dCallNT, TN.dCallNL, TN.fIxTs, TN.sForI, TN.dCompI, TN.dCompL, TN.dCompT, TN.dCompR, TN.iL, TN.iT, TN.iR1, TN.iR2, TN.iR3, TN.iS, TN.iE, TN.iRv, TN.iZ, TN.dKeepT, TN.dCallT, TN.pTup, TN.pCons, TN.pOwn, TN.sAsgT, TN.sRetT, TN.tpL, TN.fIxT, TN.fTp, TN.dAppendT, TN.dReverseT, TN.dClearT, TN.dVarT, TN.dReverse, TN.dClear, TN.dPop, Pt.d, Sl.tp.injEq, TN.startF, TN.dCallV, Sl.fn.injEq, TN.dCallF, TN.dLRev, TN.dLAdd, TN.dLSlP, TN.dLSlice, TN.dSliceE, TN.dNo, TN.dEnd, TN.fNo, TN.sSeq, TN.sNext, TN.sDrop, TN.sRet, TN.sRetL, TN.sRetN, TN.sIf, TN.sAsg, TN.sAsgL, TN.sStore, TN.sForL, TN.sForT, TN.sForR, TN.sForR2, TN.tgN, TN.tgTup, TN.tgCons, TN.tgNil, TN.dP, TN.dB, TN.dCall, TN.dCallL, TN.dCallB, TN.dCallBL, TN.dCons, TN.dNil, TN.dTup, TN.dLst, TN.dKeep, TN.dVar, TN.fVar, TN.fPeek, TN.fC, TN.f2, TN.d2, TN.d2V, TN.f1, TN.d1, TN.fCB, TN.dCB, TN.dCBL, TN.fNil, TN.fCons, TN.asBool, TN.dTest, TN.bAnd, TN.bOr, TN.bNot, TN.dAnd, TN.dOr, TN.dNot, TN.fAndV, TN.fOrV, TN.fNotV, TN.dAndV, TN.dOrV, TN.dNotV, TN.dIfE, TN.dIfL, TN.fIfE, TN.fChain, TN.fSlice, TN.dSlice, TN.fNo, TN.fEnd, TN.dAppend, TN.dInsert, TN.dPopAt, TN.ownL, TN.start0, TN.begB, TN.backD, TN.wipeD, TN.dYes, TN.sNever, List.getElem?_cons_zero, List.getElem?_cons_succ, List.set_cons_zero, List.set_cons_succ, List.map_cons, List.map_nil, List.length_cons, List.length_nil, List.cons_append, List.nil_append, List.replicate_succ, List.replicate_zero, Option.map_some, Option.map_none, Nat.add_one_sub_one, Nat.sub_zero, Nat.sub_self, Nat.zero_add, reduceCtorEq, Option.some.injEq, PyData.int.injEq, PyData.str.injEq, PyData.bool.injEq, PyData.list.injEq, PyData.tuple.injEq, Sl.sh.injEq, Sl.ow.injEq, List.cons.injEq, exists_eq_left', exists_eq_left, true_implies, false_implies, and_true, true_and, forall_const, Option.isSome_some, TN.imp_ff, TN.imp_tf, TN.imp_tt, exists_eq_left, exists_eq_left', exists_eq])
    exact kk
  rw [List.nil_append]
  have nn : es.filter Ev.isN = [] := List.filter_eq_nil_iff.mpr fun e he => by
    have := (h3 e he).2
    cases e with
    | name x => exact this.elim
    | _ => simp [Ev.isN]
  rw [nn]
  (simp only [TN.dCallO, TN.dCallOI, TN.dCallNO, TN.oVar, TN.sCut, TN.tgLst, TN.iK, TN.iV, TN.iLT, TN.pNew, TN.dCallN, TN.dCompI2, TN.dLAddE, TN.oD, TN.sDNew, TN.sPutD, TN.fGetO, TN.fGetO2, TN.fInO, TN.fNinO, TN.dVarD, TN.dExtS, TN.mOwn, TN.dCallM, TN.mVar, TN.sRetV, TN.dAug, TN.dCallNT, TN.dCallNL, TN.fIxTs, TN.sForI, TN.dCompI, TN.dCompL, TN.dCompT, TN.dCompR, TN.iL, TN.iT, TN.iR1, TN.iR2, TN.iR3, TN.iS, TN.iE, TN.iRv, TN.iZ, TN.dKeepT, TN.dCallT, TN.pTup, TN.pCons, TN.pOwn, TN.sAsgT, TN.sRetT, TN.tpL, TN.fIxT, TN.fTp, TN.dAppendT, TN.dReverseT, TN.dClearT, TN.dVarT, TN.dReverse, TN.dClear, TN.dPop, Pt.d, Sl.tp.injEq, TN.startF, TN.dCallV, Sl.fn.injEq, TN.dCallF, TN.dLRev, TN.dLAdd, TN.dLSlP, TN.dLSlice, TN.dSliceE, TN.dNo, TN.dEnd, TN.fNo, TN.sSeq, TN.sNext, TN.sDrop, TN.sRet, TN.sRetL, TN.sRetN, TN.sIf, TN.sAsg, TN.sAsgL, TN.sStore, TN.sForL, TN.sForT, TN.sForR, TN.sForR2, TN.tgN, TN.tgTup, TN.tgCons, TN.tgNil, TN.dP, TN.dB, TN.dCall, TN.dCallL, TN.dCallB, TN.dCallBL, TN.dCons, TN.dNil, TN.dTup, TN.dLst, TN.dKeep, TN.dVar, TN.fVar, TN.fPeek, TN.fC, TN.f2, TN.d2, TN.d2V, TN.f1, TN.d1, TN.fCB, TN.dCB, TN.dCBL, TN.fNil, TN.fCons, TN.asBool, TN.dTest, TN.bAnd, TN.bOr, TN.bNot, TN.dAnd, TN.dOr, TN.dNot, TN.fAndV, TN.fOrV, TN.fNotV, TN.dAndV, TN.dOrV, TN.dNotV, TN.dIfE, TN.dIfL, TN.fIfE, TN.fChain, TN.fSlice, TN.dSlice, TN.fNo, TN.fEnd, TN.dAppend, TN.dInsert, TN.dPopAt, TN.ownL, TN.start0, TN.begB, TN.backD, TN.wipeD, TN.dYes, TN.sNever, List.getElem?_cons_zero, List.getElem?_cons_succ, List.set_cons_zero, List.set_cons_succ, List.map_cons, List.map_nil, List.length_cons, List.length_nil, List.cons_append, List.nil_append, List.replicate_succ, List.replicate_zero, Option.map_some, Option.map_none, Nat.add_one_sub_one, Nat.sub_zero, Nat.sub_self, Nat.zero_add, reduceCtorEq, Option.some.injEq, PyData.int.injEq, PyData.str.injEq, PyData.bool.injEq, PyData.list.injEq, PyData.tuple.injEq, Sl.sh.injEq, Sl.ow.injEq, List.cons.injEq, exists_eq_left', exists_eq_left, true_implies, false_implies, and_true, true_and, forall_const, Option.isSome_some, TN.imp_ff, TN.imp_tf, TN.imp_tt, exists_eq_left, exists_eq_left', exists_eq])
  refine ⟨_, i1, _, rfl, ?_⟩
  refine comp_fil Ev.d Ev.d (fun e => !e.isP) (fun _ => True) rfl (fun _ => rfl) ?_ ?_ es [] (fun _ _ => trivial) (by simp; omega) ?_
  · intro e R _ kk
    (simp only [TN.dCallO, TN.dCallOI, TN.dCallNO, TN.oVar, TN.sCut, TN.tgLst, TN.iK, TN.iV, TN.iLT, TN.pNew, TN.dCallN, TN.dCompI2, TN.dLAddE, TN.oD, TN.sDNew, TN.sPutD, TN.fGetO, TN.fGetO2, TN.fInO, TN.fNinO, TN.dVarD, TN.dExtS, TN.mOwn, TN.dCallM, TN.mVar, TN.sRetV, TN.dAug, TN.dCallNT, TN.dCallNL, TN.fIxTs, TN.sForI, TN.dCompI, TN.dCompL, TN.dCompT, TN.dCompR, TN.iL, TN.iT, TN.iR1, TN.iR2, TN.iR3, TN.iS, TN.iE, TN.iRv, TN.iZ, TN.dKeepT, TN.dCallT, TN.pTup, TN.pCons, TN.pOwn, TN.sAsgT, TN.sRetT, TN.tpL, TN.fIxT, TN.fTp, TN.dAppendT, TN.dReverseT, TN.dClearT, TN.dVarT, TN.dReverse, TN.dClear, TN.dPop, Pt.d, Sl.tp.injEq, TN.startF, TN.dCallV, Sl.fn.injEq, TN.dCallF, TN.dLRev, TN.dLAdd, TN.dLSlP, TN.dLSlice, TN.dSliceE, TN.dNo, TN.dEnd, TN.fNo, TN.sSeq, TN.sNext, TN.sDrop, TN.sRet, TN.sRetL, TN.sRetN, TN.sIf, TN.sAsg, TN.sAsgL, TN.sStore, TN.sForL, TN.sForT, TN.sForR, TN.sForR2, TN.tgN, TN.tgTup, TN.tgCons, TN.tgNil, TN.dP, TN.dB, TN.dCall, TN.dCallL, TN.dCallB, TN.dCallBL, TN.dCons, TN.dNil, TN.dTup, TN.dLst, TN.dKeep, TN.dVar, TN.fVar, TN.fPeek, TN.fC, TN.f2, TN.d2, TN.d2V, TN.f1, TN.d1, TN.fCB, TN.dCB, TN.dCBL, TN.fNil, TN.fCons, TN.asBool, TN.dTest, TN.bAnd, TN.bOr, TN.bNot, TN.dAnd, TN.dOr, TN.dNot, TN.fAndV, TN.fOrV, TN.fNotV, TN.dAndV, TN.dOrV, TN.dNotV, TN.dIfE, TN.dIfL, TN.fIfE, TN.fChain, TN.fSlice, TN.dSlice, TN.fNo, TN.fEnd, TN.dAppend, TN.dInsert, TN.dPopAt, TN.ownL, TN.start0, TN.begB, TN.backD, TN.wipeD, TN.dYes, TN.sNever, List.getElem?_cons_zero, List.getElem?_cons_succ, List.set_cons_zero, List.set_cons_succ, List.map_cons, List.map_nil, List.length_cons, List.length_nil, List.cons_append, List.nil_append, List.replicate_succ, List.replicate_zero, Option.map_some, Option.map_none, Nat.add_one_sub_one, Nat.sub_zero, Nat.sub_self, Nat.zero_add, reduceCtorEq, Option.some.injEq, PyData.int.injEq, PyData.str.injEq, PyData.bool.injEq, PyData.list.injEq, PyData.tuple.injEq, Sl.sh.injEq, Sl.ow.injEq, List.cons.injEq, exists_eq_left', exists_eq_left, true_implies, false_implies, and_true, true_and, forall_const, Option.isSome_some, TN.imp_ff, TN.imp_tf, TN.imp_tt, exists_eq_left, exists_eq_left', exists_eq])
    obtain ⟨w, e1, e2⟩ := ev_fault e
    simp only [e1, e2]
    exact ⟨_, rfl, kk⟩
  · intro e R _ kk
    (simp only [TN.dCallO, TN.dCallOI, TN.dCallNO, TN.oVar, TN.sCut, TN.tgLst, TN.iK, TN.iV, TN.iLT, TN.pNew, TN.dCallN, TN.dCompI2, TN.dLAddE, TN.oD, TN.sDNew, TN.sPutD, TN.fGetO, TN.fGetO2, TN.fInO, TN.fNinO, TN.dVarD, TN.dExtS, TN.mOwn, TN.dCallM, TN.mVar, TN.sRetV, TN.dAug, TN.dCallNT, TN.dCallNL, TN.fIxTs, TN.sForI, TN.dCompI, TN.dCompL, TN.dCompT, TN.dCompR, TN.iL, TN.iT, TN.iR1, TN.iR2, TN.iR3, TN.iS, TN.iE, TN.iRv, TN.iZ, TN.dKeepT, TN.dCallT, TN.pTup, TN.pCons, TN.pOwn, TN.sAsgT, TN.sRetT, TN.tpL, TN.fIxT, TN.fTp, TN.dAppendT, TN.dReverseT, TN.dClearT, TN.dVarT, TN.dReverse, TN.dClear, TN.dPop, Pt.d, Sl.tp.injEq, TN.startF, TN.dCallV, Sl.fn.injEq, TN.dCallF, TN.dLRev, TN.dLAdd, TN.dLSlP, TN.dLSlice, TN.dSliceE, TN.dNo, TN.dEnd, TN.fNo, TN.sSeq, TN.sNext, TN.sDrop, TN.sRet, TN.sRetL, TN.sRetN, TN.sIf, TN.sAsg, TN.sAsgL, TN.sStore, TN.sForL, TN.sForT, TN.sForR, TN.sForR2, TN.tgN, TN.tgTup, TN.tgCons, TN.tgNil, TN.dP, TN.dB, TN.dCall, TN.dCallL, TN.dCallB, TN.dCallBL, TN.dCons, TN.dNil, TN.dTup, TN.dLst, TN.dKeep, TN.dVar, TN.fVar, TN.fPeek, TN.fC, TN.f2, TN.d2, TN.d2V, TN.f1, TN.d1, TN.fCB, TN.dCB, TN.dCBL, TN.fNil, TN.fCons, TN.asBool, TN.dTest, TN.bAnd, TN.bOr, TN.bNot, TN.dAnd, TN.dOr, TN.dNot, TN.fAndV, TN.fOrV, TN.fNotV, TN.dAndV, TN.dOrV, TN.dNotV, TN.dIfE, TN.dIfL, TN.fIfE, TN.fChain, TN.fSlice, TN.dSlice, TN.fNo, TN.fEnd, TN.dAppend, TN.dInsert, TN.dPopAt, TN.ownL, TN.start0, TN.begB, TN.backD, TN.wipeD, TN.dYes, TN.sNever, List.getElem?_cons_zero, List.getElem?_cons_succ, List.set_cons_zero, List.set_cons_succ, List.map_cons, List.map_nil, List.length_cons, List.length_nil, List.cons_append, List.nil_append, List.replicate_succ, List.replicate_zero, Option.map_some, Option.map_none, Nat.add_one_sub_one, Nat.sub_zero, Nat.sub_self, Nat.zero_add, reduceCtorEq, Option.some.injEq, PyData.int.injEq, PyData.str.injEq, PyData.bool.injEq, PyData.list.injEq, PyData.tuple.injEq, Sl.sh.injEq, Sl.ow.injEq, List.cons.injEq, exists_eq_left', exists_eq_left, true_implies, false_implies, and_true, true_and, forall_const, Option.isSome_some, TN.imp_ff, TN.imp_tf, TN.imp_tt, exists_eq_left, exists_eq_left', exists_eq])
    exact kk
  rw [List.nil_append]
  have ol : oLen [.list ((es.filter fun e => !e.isP).map Ev.d)] = some (.int (n : Nat)) := by show some (PyData.int ((es.filter fun e => !e.isP).map Ev.d).length) = _; rw [List.length_map, ← faults_filter, ff]
  (simp only [TN.dCallO, TN.dCallOI, TN.dCallNO, TN.oVar, TN.sCut, TN.tgLst, TN.iK, TN.iV, TN.iLT, TN.pNew, TN.dCallN, TN.dCompI2, TN.dLAddE, TN.oD, TN.sDNew, TN.sPutD, TN.fGetO, TN.fGetO2, TN.fInO, TN.fNinO, TN.dVarD, TN.dExtS, TN.mOwn, TN.dCallM, TN.mVar, TN.sRetV, TN.dAug, TN.dCallNT, TN.dCallNL, TN.fIxTs, TN.sForI, TN.dCompI, TN.dCompL, TN.dCompT, TN.dCompR, TN.iL, TN.iT, TN.iR1, TN.iR2, TN.iR3, TN.iS, TN.iE, TN.iRv, TN.iZ, TN.dKeepT, TN.dCallT, TN.pTup, TN.pCons, TN.pOwn, TN.sAsgT, TN.sRetT, TN.tpL, TN.fIxT, TN.fTp, TN.dAppendT, TN.dReverseT, TN.dClearT, TN.dVarT, TN.dReverse, TN.dClear, TN.dPop, Pt.d, Sl.tp.injEq, TN.startF, TN.dCallV, Sl.fn.injEq, TN.dCallF, TN.dLRev, TN.dLAdd, TN.dLSlP, TN.dLSlice, TN.dSliceE, TN.dNo, TN.dEnd, TN.fNo, TN.sSeq, TN.sNext, TN.sDrop, TN.sRet, TN.sRetL, TN.sRetN, TN.sIf, TN.sAsg, TN.sAsgL, TN.sStore, TN.sForL, TN.sForT, TN.sForR, TN.sForR2, TN.tgN, TN.tgTup, TN.tgCons, TN.tgNil, TN.dP, TN.dB, TN.dCall, TN.dCallL, TN.dCallB, TN.dCallBL, TN.dCons, TN.dNil, TN.dTup, TN.dLst, TN.dKeep, TN.dVar, TN.fVar, TN.fPeek, TN.fC, TN.f2, TN.d2, TN.d2V, TN.f1, TN.d1, TN.fCB, TN.dCB, TN.dCBL, TN.fNil, TN.fCons, TN.asBool, TN.dTest, TN.bAnd, TN.bOr, TN.bNot, TN.dAnd, TN.dOr, TN.dNot, TN.fAndV, TN.fOrV, TN.fNotV, TN.dAndV, TN.dOrV, TN.dNotV, TN.dIfE, TN.dIfL, TN.fIfE, TN.fChain, TN.fSlice, TN.dSlice, TN.fNo, TN.fEnd, TN.dAppend, TN.dInsert, TN.dPopAt, TN.ownL, TN.start0, TN.begB, TN.backD, TN.wipeD, TN.dYes, TN.sNever, List.getElem?_cons_zero, List.getElem?_cons_succ, List.set_cons_zero, List.set_cons_succ, List.map_cons, List.map_nil, List.length_cons, List.length_nil, List.cons_append, List.nil_append, List.replicate_succ, List.replicate_zero, Option.map_some, Option.map_none, Nat.add_one_sub_one, Nat.sub_zero, Nat.sub_self, Nat.zero_add, reduceCtorEq, Option.some.injEq, PyData.int.injEq, PyData.str.injEq, PyData.bool.injEq, PyData.list.injEq, PyData.tuple.injEq, Sl.sh.injEq, Sl.ow.injEq, List.cons.injEq, exists_eq_left', exists_eq_left, true_implies, false_implies, and_true, true_and, forall_const, Option.isSome_some, TN.imp_ff, TN.imp_tf, TN.imp_tt, exists_eq_left, exists_eq_left', exists_eq])
  rw [ol, h1, h2]
  have o1 : ∀ x ∈ s, okS x := fun x hx => gr.oks x (hs x hx)
  have o2 : ∀ x ∈ w, okS x := fun x hx => gr.oks x (hw x hx)
  have i0 : oIx (.tuple [.int n, .list (es.map Ev.d)]) (.int 0) = some (.int n) := rfl
  rw [oNe_same (fine_lstL o1), oNe_same (fine_lstL o2), i0]
  refine ⟨_, rfl, false, rfl, (fun z => by cases z), fun _ => ⟨false, rfl, (fun z => by cases z), fun _ => ⟨by omega, _, oNe_same (.list fun d hd => by cases hd), false, rfl, (fun z => by cases z), fun _ => ⟨false, by simp [oNe_int], (fun z => by cases z), fun _ => q⟩⟩⟩⟩

abbrev s__law_near : Stmt := topS 32
theorem sc__law_near : FnScope ["bag", "line", "notes", "spot"] ["bag", "line", "notes"] (defScope s__law_near) := ⟨rfl, rfl, rfl, by decide +kernel, rfl, by decide +kernel, by decide +kernel⟩
theorem ok__law_near (b : Blt mg) (h__law_draw : Has P w K mg base "_law_draw" 1 ["bag", "sides"] (spB K semWind)) {f : Addr} {fd : FuncData} (F : Fun K "_law_near" "_law_near" s__law_near f fd) : FnG P w K mg base CX0 2 f fd ["bag", "line", "notes"] (spB K semNearK) := by
  refine fnB (k := 1) F sc__law_near (fun xs ds Q h => by obtain ⟨n, r, w, _, _, rfl, _⟩ := h; rfl) (fun cdv A outer s H E hg hr =>
    have nd := sc__law_near.nd
    have hu := hr.units
    have hu1 := hu_of hr
    (pss_cons (ps_if (pt_cmpR (op_eqD hu) (pv 2) (pe_lst pa_nil) (nomark _)) (pss_one (ps_ret (pe_lst pa_nil))) pss_nil)
 (pss_cons (ps_set (i := 3) nd rfl (by first | exact Or.inl rfl | exact Or.inr rfl) (pe_has (h__law_draw.up (by decide)) hg hr (by rfl) (pa_cons (pv 0) (pa_cons (pe_callB call_len (by rfl) b.len (by decide +kernel) (pa_cons (pv 2) pa_nil)) pa_nil))))
 (pss_cons (ps_if (pt_cmpR (op_eqD hu) (pe_has (h__law_draw.up (by decide)) hg hr (by rfl) (pa_cons (pv 0) (pa_cons pe_int pa_nil))) pe_int (nomark _)) (pss_one (ps_ret (pe_op op_addU (pe_slice sl_U (pv 2) po_none (po_some (pv 3))) (pe_slice sl_U (pv 2) (po_some (pe_op op_addU (pv 3) pe_int)) po_none)))) pss_nil)
 (pss_one (ps_ret (pe_op op_addU (pe_op op_addU (pe_slice sl_U (pv 2) po_none (po_some (pv 3))) (pe_lst (pa_cons (pe_ix ix_seq (pv 1) (pe_has (h__law_draw.up (by decide)) hg hr (by rfl) (pa_cons (pv 0) (pa_cons (pe_callB call_len (by rfl) b.len (by decide +kernel) (pa_cons (pv 1) pa_nil)) pa_nil))) (fun _ _ => rfl)) pa_nil))) (pe_slice sl_U (pv 2) (po_some (pe_op op_addU (pv 3) pe_int)) po_none))))))))
    (ls_seq (ls_if (lt_test (le_op (LP.e (lp_var (i := 2))) (LL.e (ll_lst les_nil)) rb_eq)) (ls_retL (ll_lst les_nil)) ls_next)
 (ls_seq (ls_asg (le_callB (j := 0) (les_cons (LP.e (lp_cb (lms_cons (LP.m (lp_var (i := 2))) lms_nil) rc_len)) les_nil)) (lg_name (i := 3) (by decide)))
 (ls_seq (ls_if (lt_test (le_op (le_callB (j := 0) (les_cons (LP.e lp_int) les_nil)) (LP.e lp_int) rb_eq)) (ls_retL (ll_add (LP.m (lp_slice (LP.m (lp_var (i := 2))) lo_none (lo_some (LP.m (lp_var (i := 3)))))) (LP.m (lp_slice (LP.m (lp_var (i := 2))) (lo_some (LP.m (lp_op (LP.m (lp_var (i := 3))) (LP.m lp_int) rb_add))) lo_none)))) ls_next)
 (ls_retL (ll_addE (le_op (LP.e (lp_slice (LP.m (lp_var (i := 2))) lo_none (lo_some (LP.m (lp_var (i := 3)))))) (LL.e (ll_lst (les_cons (le_op (LP.e (lp_var (i := 1))) (le_callB (j := 0) (les_cons (LP.e (lp_cb (lms_cons (LP.m (lp_var (i := 1))) lms_nil) rc_len)) les_nil)) rb_ix) les_nil))) rb_add) (LP.e (lp_slice (LP.m (lp_var (i := 2))) (lo_some (LP.m (lp_op (LP.m (lp_var (i := 3))) (LP.m lp_int) rb_add))) lo_none))))))) ?_
  rintro xs ds Q ⟨n, r, w, sp, hn, rfl, gr, hw, few, q⟩
  have hb : n + 3 ≤ 1000000000000 := hn
  (simp only [TN.dCallO, TN.dCallOI, TN.dCallNO, TN.oVar, TN.sCut, TN.tgLst, TN.iK, TN.iV, TN.iLT, TN.pNew, TN.dCallN, TN.dCompI2, TN.dLAddE, TN.oD, TN.sDNew, TN.sPutD, TN.fGetO, TN.fGetO2, TN.fInO, TN.fNinO, TN.dVarD, TN.dExtS, TN.mOwn, TN.dCallM, TN.mVar, TN.sRetV, TN.dAug, TN.dCallNT, TN.dCallNL, TN.fIxTs, TN.sForI, TN.dCompI, TN.dCompL, TN.dCompT, TN.dCompR, TN.iL, TN.iT, TN.iR1, TN.iR2, TN.iR3, TN.iS, TN.iE, TN.iRv, TN.iZ, TN.dKeepT, TN.dCallT, TN.pTup, TN.pCons, TN.pOwn, TN.sAsgT, TN.sRetT, TN.tpL, TN.fIxT, TN.fTp, TN.dAppendT, TN.dReverseT, TN.dClearT, TN.dVarT, TN.dReverse, TN.dClear, TN.dPop, Pt.d, Sl.tp.injEq, TN.startF, TN.dCallV, Sl.fn.injEq, TN.dCallF, TN.dLRev, TN.dLAdd, TN.dLSlP, TN.dLSlice, TN.dSliceE, TN.dNo, TN.dEnd, TN.fNo, TN.sSeq, TN.sNext, TN.sDrop, TN.sRet, TN.sRetL, TN.sRetN, TN.sIf, TN.sAsg, TN.sAsgL, TN.sStore, TN.sForL, TN.sForT, TN.sForR, TN.sForR2, TN.tgN, TN.tgTup, TN.tgCons, TN.tgNil, TN.dP, TN.dB, TN.dCall, TN.dCallL, TN.dCallB, TN.dCallBL, TN.dCons, TN.dNil, TN.dTup, TN.dLst, TN.dKeep, TN.dVar, TN.fVar, TN.fPeek, TN.fC, TN.f2, TN.d2, TN.d2V, TN.f1, TN.d1, TN.fCB, TN.dCB, TN.dCBL, TN.fNil, TN.fCons, TN.asBool, TN.dTest, TN.bAnd, TN.bOr, TN.bNot, TN.dAnd, TN.dOr, TN.dNot, TN.fAndV, TN.fOrV, TN.fNotV, TN.dAndV, TN.dOrV, TN.dNotV, TN.dIfE, TN.dIfL, TN.fIfE, TN.fChain, TN.fSlice, TN.dSlice, TN.fNo, TN.fEnd, TN.dAppend, TN.dInsert, TN.dPopAt, TN.ownL, TN.start0, TN.begB, TN.backD, TN.wipeD, TN.dYes, TN.sNever, List.getElem?_cons_zero, List.getElem?_cons_succ, List.set_cons_zero, List.set_cons_succ, List.map_cons, List.map_nil, List.length_cons, List.length_nil, List.cons_append, List.nil_append, List.replicate_succ, List.replicate_zero, Option.map_some, Option.map_none, Nat.add_one_sub_one, Nat.sub_zero, Nat.sub_self, Nat.zero_add, reduceCtorEq, Option.some.injEq, PyData.int.injEq, PyData.str.injEq, PyData.bool.injEq, PyData.list.injEq, PyData.tuple.injEq, Sl.sh.injEq, Sl.ow.injEq, List.cons.injEq, exists_eq_left', exists_eq_left, true_implies, false_implies, and_true, true_and, forall_const, Option.isSome_some, TN.imp_ff, TN.imp_tf, TN.imp_tt, exists_eq_left, exists_eq_left', exists_eq])
  have ow : ∀ x ∈ w, okS x := fun x hx => gr.oks x (hw x hx)
  have rf := gr.few
  have r0 : 0 < r.length := List.length_pos_iff.mpr gr.ne
  refine ⟨by omega, _, oEq_lstL (b := []) ow (fun _ h => by cases h), _, rfl, fun h => ?_, fun h => ?_⟩
  · have h : w = [] := by simpa using h
    subst h
    exact ⟨by omega, q [] xs (fun _ h => by cases h) (Nat.le_refl _) (sp.up (by omega))⟩
  have h : w ≠ [] := by simpa using h
  have w0 : 0 < w.length := List.length_pos_iff.mpr h
  refine ⟨_, oLen_lstL, windN sp (by show _ ≤ (1000000000000 : Int); omega) (by omega) (by omega) fun i ys hi sp1 => ⟨_, rfl, windN sp1 (by show _ ≤ (1000000000000 : Int); omega) (by omega) (by omega) fun c ys2 hc sp2 => ⟨_, rfl, _, oEq_int, _, rfl, ?_⟩⟩⟩
  have hi : i < w.length := by omega
  have s1 : oSlice none (some (i : Int)) (lstL w) = some (lstL (w.take i)) := oSlL_to
  have s2 : oSlice (some ((i : Int) + 1)) none (lstL w) = some (lstL (w.drop (i + 1))) := oSlL_from (p := i + 1)
  refine ⟨fun _ => ⟨_, _, s1, s2, ?_, ?_⟩, fun _ => ?_⟩
  · rw [List.length_map, List.length_map, List.length_take, List.length_drop]; omega
  · rw [← List.map_append]
    refine q _ _ (fun x hx => ?_) ?_ (sp2.up (by omega))
    · rcases List.mem_append.mp hx with hx | hx
      · exact hw x (List.mem_of_mem_take hx)
      · exact hw x (List.mem_of_mem_drop hx)
    · rw [List.length_append, List.length_take, List.length_drop]; omega
  refine ⟨_, s1, _, oLen_tupL, windN sp2 (by show _ ≤ (1000000000000 : Int); omega) (by omega) (by omega) fun j ys3 hj sp3 => ⟨_, rfl, _, oIx_tupL (by omega), by omega, _, oAdd_lst (a := (w.take i).map PyData.str) (b := [.str (r.getD j "")]) (by rw [List.length_map, List.length_take]; simp; omega), _, s2, _, _, rfl, rfl, ?_, ?_⟩⟩
  · simp only [List.length_append, List.length_map, List.length_take, List.length_drop, List.length_singleton]; omega
  · have e : List.map PyData.str (w.take i) ++ [PyData.str (r.getD j "")] ++ List.map PyData.str (w.drop (i + 1)) = (w.take i ++ [r.getD j ""] ++ w.drop (i + 1)).map PyData.str := by simp
    rw [e]
    refine q _ _ (fun x hx => ?_) ?_ (sp3.up (by omega))
    · rcases List.mem_append.mp hx with hx | hx
      · rcases List.mem_append.mp hx with hx | hx
        · exact hw x (List.mem_of_mem_take hx)
        · rw [List.mem_singleton] at hx; rw [hx]; exact getD_mem (by omega)
      · exact hw x (List.mem_of_mem_drop hx)
    · simp only [List.length_append, List.length_take, List.length_drop, List.length_singleton]; omega

abbrev s__law_rows_by : Stmt := topS 33
theorem sc__law_rows_by : FnScope ["line", "letters_now", "found", "one"] ["line", "letters_now"] (defScope s__law_rows_by) := ⟨rfl, rfl, rfl, by decide +kernel, rfl, by decide +kernel, by decide +kernel⟩
theorem ok__law_rows_by (b : Blt mg) (h__law_front : Has P w K mg base "_law_front" 1 ["line", "spot"] (sp0 K semFront)) {f : Addr} {fd : FuncData} (F : Fun K "_law_rows_by" "_law_rows_by" s__law_rows_by f fd) : FnG P w K mg base CX0 2 f fd ["line", "letters_now"] (sp0 K semRowsBy) := by
  refine fn0 (k := 1) F sc__law_rows_by (fun ds Q h => by obtain ⟨r, s, rfl, _⟩ := h; rfl) (fun cdv A outer s H E hg hr =>
    have nd := sc__law_rows_by.nd
    have hu := hr.units
    have hu1 := hu_of hr
    (pss_cons (ps_set (i := 2) nd rfl (by first | exact Or.inl rfl | exact Or.inr rfl) (pe_lst (pa_cons (pv 0) pa_nil)))
 (pss_cons (ps_for PassesOwn.never rfl (pi_list (pv 1)) (pg_name (i := 3) nd rfl (by first | exact Or.inl rfl | exact Or.inr rfl)) (pss_one (ps_expr (by exact (pe_bm PySem.F.plainAttrs_list PySem.F.slot_list_append PySem.F.type_list_append mt_append (pv 2) (pa_cons (pe_has (h__law_front.up (by decide)) hg hr (by rfl) (pa_cons (pe_ix ix_seq (pv 2) (pe_un un_neg pe_int) (fun _ _ => rfl)) (pa_cons (pe_tidx (pe_ix ix_seq (pv 2) (pe_un un_neg pe_int) (fun _ _ => rfl)) (pv 3)) pa_nil))) pa_nil))))))
 (pss_one (ps_ret (pv 2))))))
    (ls_seq (ls_asgL (i := 2) (by decide) (ll_lst (les_cons (LP.e (lp_var (i := 0))) les_nil)))
 (ls_seq (ls_forL (LP.e (lp_var (i := 1))) (lg_name (i := 3) (by decide)) (ls_drop (le_append (j := 2) (le_call (les_cons (LP.e (lp_op (lm_peek (i := 2)) (LP.m (lp_un (LP.m lp_int) ru_neg)) rb_ix)) (les_cons (LP.e (lp_tindex (LP.m (lp_op (lm_peek (i := 2)) (LP.m (lp_un (LP.m lp_int) ru_neg)) rb_ix)) (LP.m (lp_var (i := 3))))) les_nil))))))
 (ls_retV (j := 2) (by decide)))) ?_
  rintro ds Q ⟨r, s, rfl, gr, hs, few, q⟩
  (simp only [TN.dCallO, TN.dCallOI, TN.dCallNO, TN.oVar, TN.sCut, TN.tgLst, TN.iK, TN.iV, TN.iLT, TN.pNew, TN.dCallN, TN.dCompI2, TN.dLAddE, TN.oD, TN.sDNew, TN.sPutD, TN.fGetO, TN.fGetO2, TN.fInO, TN.fNinO, TN.dVarD, TN.dExtS, TN.mOwn, TN.dCallM, TN.mVar, TN.sRetV, TN.dAug, TN.dCallNT, TN.dCallNL, TN.fIxTs, TN.sForI, TN.dCompI, TN.dCompL, TN.dCompT, TN.dCompR, TN.iL, TN.iT, TN.iR1, TN.iR2, TN.iR3, TN.iS, TN.iE, TN.iRv, TN.iZ, TN.dKeepT, TN.dCallT, TN.pTup, TN.pCons, TN.pOwn, TN.sAsgT, TN.sRetT, TN.tpL, TN.fIxT, TN.fTp, TN.dAppendT, TN.dReverseT, TN.dClearT, TN.dVarT, TN.dReverse, TN.dClear, TN.dPop, Pt.d, Sl.tp.injEq, TN.startF, TN.dCallV, Sl.fn.injEq, TN.dCallF, TN.dLRev, TN.dLAdd, TN.dLSlP, TN.dLSlice, TN.dSliceE, TN.dNo, TN.dEnd, TN.fNo, TN.sSeq, TN.sNext, TN.sDrop, TN.sRet, TN.sRetL, TN.sRetN, TN.sIf, TN.sAsg, TN.sAsgL, TN.sStore, TN.sForL, TN.sForT, TN.sForR, TN.sForR2, TN.tgN, TN.tgTup, TN.tgCons, TN.tgNil, TN.dP, TN.dB, TN.dCall, TN.dCallL, TN.dCallB, TN.dCallBL, TN.dCons, TN.dNil, TN.dTup, TN.dLst, TN.dKeep, TN.dVar, TN.fVar, TN.fPeek, TN.fC, TN.f2, TN.d2, TN.d2V, TN.f1, TN.d1, TN.fCB, TN.dCB, TN.dCBL, TN.fNil, TN.fCons, TN.asBool, TN.dTest, TN.bAnd, TN.bOr, TN.bNot, TN.dAnd, TN.dOr, TN.dNot, TN.fAndV, TN.fOrV, TN.fNotV, TN.dAndV, TN.dOrV, TN.dNotV, TN.dIfE, TN.dIfL, TN.fIfE, TN.fChain, TN.fSlice, TN.dSlice, TN.fNo, TN.fEnd, TN.dAppend, TN.dInsert, TN.dPopAt, TN.ownL, TN.start0, TN.begB, TN.backD, TN.wipeD, TN.dYes, TN.sNever, List.getElem?_cons_zero, List.getElem?_cons_succ, List.set_cons_zero, List.set_cons_succ, List.map_cons, List.map_nil, List.length_cons, List.length_nil, List.cons_append, List.nil_append, List.replicate_succ, List.replicate_zero, Option.map_some, Option.map_none, Nat.add_one_sub_one, Nat.sub_zero, Nat.sub_self, Nat.zero_add, reduceCtorEq, Option.some.injEq, PyData.int.injEq, PyData.str.injEq, PyData.bool.injEq, PyData.list.injEq, PyData.tuple.injEq, Sl.sh.injEq, Sl.ow.injEq, List.cons.injEq, exists_eq_left', exists_eq_left, true_implies, false_implies, and_true, true_and, forall_const, Option.isSome_some, TN.imp_ff, TN.imp_tf, TN.imp_tt, exists_eq_left, exists_eq_left', exists_eq])
  refine ⟨by omega, ?_⟩
  refine forD_go PyData.str (fun ls ρ => ∃ (acc : List (List Str)) (u : List Str) (b3 : Sl), ρ = [.sh (tupL r), .sh (lstL s), .ow ((acc ++ [u]).map tupL), b3] ∧ u.Nodup ∧ u.length ≤ 16 ∧ (∀ x ∈ ls, x ∈ u) ∧ acc.length + ls.length ≤ 1000 ∧ rowsT r s = acc ++ rowsT u ls) ?_ ?_ s _ ⟨[], r, _, rfl, gr.nd, gr.few, hs, by simp; omega, rfl⟩
  rotate_left
  · rintro ρ ⟨acc, u, b3, rfl, _, _, _, _, e⟩
    (simp only [TN.dCallO, TN.dCallOI, TN.dCallNO, TN.oVar, TN.sCut, TN.tgLst, TN.iK, TN.iV, TN.iLT, TN.pNew, TN.dCallN, TN.dCompI2, TN.dLAddE, TN.oD, TN.sDNew, TN.sPutD, TN.fGetO, TN.fGetO2, TN.fInO, TN.fNinO, TN.dVarD, TN.dExtS, TN.mOwn, TN.dCallM, TN.mVar, TN.sRetV, TN.dAug, TN.dCallNT, TN.dCallNL, TN.fIxTs, TN.sForI, TN.dCompI, TN.dCompL, TN.dCompT, TN.dCompR, TN.iL, TN.iT, TN.iR1, TN.iR2, TN.iR3, TN.iS, TN.iE, TN.iRv, TN.iZ, TN.dKeepT, TN.dCallT, TN.pTup, TN.pCons, TN.pOwn, TN.sAsgT, TN.sRetT, TN.tpL, TN.fIxT, TN.fTp, TN.dAppendT, TN.dReverseT, TN.dClearT, TN.dVarT, TN.dReverse, TN.dClear, TN.dPop, Pt.d, Sl.tp.injEq, TN.startF, TN.dCallV, Sl.fn.injEq, TN.dCallF, TN.dLRev, TN.dLAdd, TN.dLSlP, TN.dLSlice, TN.dSliceE, TN.dNo, TN.dEnd, TN.fNo, TN.sSeq, TN.sNext, TN.sDrop, TN.sRet, TN.sRetL, TN.sRetN, TN.sIf, TN.sAsg, TN.sAsgL, TN.sStore, TN.sForL, TN.sForT, TN.sForR, TN.sForR2, TN.tgN, TN.tgTup, TN.tgCons, TN.tgNil, TN.dP, TN.dB, TN.dCall, TN.dCallL, TN.dCallB, TN.dCallBL, TN.dCons, TN.dNil, TN.dTup, TN.dLst, TN.dKeep, TN.dVar, TN.fVar, TN.fPeek, TN.fC, TN.f2, TN.d2, TN.d2V, TN.f1, TN.d1, TN.fCB, TN.dCB, TN.dCBL, TN.fNil, TN.fCons, TN.asBool, TN.dTest, TN.bAnd, TN.bOr, TN.bNot, TN.dAnd, TN.dOr, TN.dNot, TN.fAndV, TN.fOrV, TN.fNotV, TN.dAndV, TN.dOrV, TN.dNotV, TN.dIfE, TN.dIfL, TN.fIfE, TN.fChain, TN.fSlice, TN.dSlice, TN.fNo, TN.fEnd, TN.dAppend, TN.dInsert, TN.dPopAt, TN.ownL, TN.start0, TN.begB, TN.backD, TN.wipeD, TN.dYes, TN.sNever, List.getElem?_cons_zero, List.getElem?_cons_succ, List.set_cons_zero, List.set_cons_succ, List.map_cons, List.map_nil, List.length_cons, List.length_nil, List.cons_append, List.nil_append, List.replicate_succ, List.replicate_zero, Option.map_some, Option.map_none, Nat.add_one_sub_one, Nat.sub_zero, Nat.sub_self, Nat.zero_add, reduceCtorEq, Option.some.injEq, PyData.int.injEq, PyData.str.injEq, PyData.bool.injEq, PyData.list.injEq, PyData.tuple.injEq, Sl.sh.injEq, Sl.ow.injEq, List.cons.injEq, exists_eq_left', exists_eq_left, true_implies, false_implies, and_true, true_and, forall_const, Option.isSome_some, TN.imp_ff, TN.imp_tf, TN.imp_tt, exists_eq_left, exists_eq_left', exists_eq])
    rw [e] at q
    exact q
  rintro x ls ρ E' ⟨acc, u, b3, rfl, nd, uf, hu, fa, e⟩ nx _ _ _
  have hx := hu x List.mem_cons_self
  have pu := front_perm hx nd
  rw [List.length_cons] at fa
  (simp only [TN.dCallO, TN.dCallOI, TN.dCallNO, TN.oVar, TN.sCut, TN.tgLst, TN.iK, TN.iV, TN.iLT, TN.pNew, TN.dCallN, TN.dCompI2, TN.dLAddE, TN.oD, TN.sDNew, TN.sPutD, TN.fGetO, TN.fGetO2, TN.fInO, TN.fNinO, TN.dVarD, TN.dExtS, TN.mOwn, TN.dCallM, TN.mVar, TN.sRetV, TN.dAug, TN.dCallNT, TN.dCallNL, TN.fIxTs, TN.sForI, TN.dCompI, TN.dCompL, TN.dCompT, TN.dCompR, TN.iL, TN.iT, TN.iR1, TN.iR2, TN.iR3, TN.iS, TN.iE, TN.iRv, TN.iZ, TN.dKeepT, TN.dCallT, TN.pTup, TN.pCons, TN.pOwn, TN.sAsgT, TN.sRetT, TN.tpL, TN.fIxT, TN.fTp, TN.dAppendT, TN.dReverseT, TN.dClearT, TN.dVarT, TN.dReverse, TN.dClear, TN.dPop, Pt.d, Sl.tp.injEq, TN.startF, TN.dCallV, Sl.fn.injEq, TN.dCallF, TN.dLRev, TN.dLAdd, TN.dLSlP, TN.dLSlice, TN.dSliceE, TN.dNo, TN.dEnd, TN.fNo, TN.sSeq, TN.sNext, TN.sDrop, TN.sRet, TN.sRetL, TN.sRetN, TN.sIf, TN.sAsg, TN.sAsgL, TN.sStore, TN.sForL, TN.sForT, TN.sForR, TN.sForR2, TN.tgN, TN.tgTup, TN.tgCons, TN.tgNil, TN.dP, TN.dB, TN.dCall, TN.dCallL, TN.dCallB, TN.dCallBL, TN.dCons, TN.dNil, TN.dTup, TN.dLst, TN.dKeep, TN.dVar, TN.fVar, TN.fPeek, TN.fC, TN.f2, TN.d2, TN.d2V, TN.f1, TN.d1, TN.fCB, TN.dCB, TN.dCBL, TN.fNil, TN.fCons, TN.asBool, TN.dTest, TN.bAnd, TN.bOr, TN.bNot, TN.dAnd, TN.dOr, TN.dNot, TN.fAndV, TN.fOrV, TN.fNotV, TN.dAndV, TN.dOrV, TN.dNotV, TN.dIfE, TN.dIfL, TN.fIfE, TN.fChain, TN.fSlice, TN.dSlice, TN.fNo, TN.fEnd, TN.dAppend, TN.dInsert, TN.dPopAt, TN.ownL, TN.start0, TN.begB, TN.backD, TN.wipeD, TN.dYes, TN.sNever, List.getElem?_cons_zero, List.getElem?_cons_succ, List.set_cons_zero, List.set_cons_succ, List.map_cons, List.map_nil, List.length_cons, List.length_nil, List.cons_append, List.nil_append, List.replicate_succ, List.replicate_zero, Option.map_some, Option.map_none, Nat.add_one_sub_one, Nat.sub_zero, Nat.sub_self, Nat.zero_add, reduceCtorEq, Option.some.injEq, PyData.int.injEq, PyData.str.injEq, PyData.bool.injEq, PyData.list.injEq, PyData.tuple.injEq, Sl.sh.injEq, Sl.ow.injEq, List.cons.injEq, exists_eq_left', exists_eq_left, true_implies, false_implies, and_true, true_and, forall_const, Option.isSome_some, TN.imp_ff, TN.imp_tf, TN.imp_tt, exists_eq_left, exists_eq_left', exists_eq])
  have lt : oIx (.list ((acc ++ [u]).map tupL)) (.int (-1)) = some (tupL u) := by
    rw [List.map_append]
    exact oIx_snoc
  have ng : oNeg (.int 1) = some (.int (-1)) := rfl
  simp only [ng, lt]
  refine ⟨_, rfl, _, oTIx hx, frF hx nd uf ⟨_, rfl, by rw [List.length_map, List.length_append]; simp; omega, ?_⟩⟩
  have ea : List.map tupL (acc ++ [u]) ++ [tupL (front x u)] = List.map tupL ((acc ++ [u]) ++ [front x u]) := by rw [List.map_append (l₁ := acc ++ [u])]; rfl
  rw [ea]
  exact nx _ ⟨acc ++ [u], front x u, _, rfl, pu.nodup_iff.mpr nd, by rw [pu.length_eq]; exact uf, fun y hy => pu.mem_iff.mpr (hu y (List.mem_cons_of_mem _ hy)), by rw [List.length_append, List.length_singleton]; omega, by rw [e, List.append_assoc]; rfl⟩

abbrev s__law_fewest : Stmt := topS 34
theorem sc__law_fewest : FnScope ["line", "said_now", "notes", "below", "one", "tells", "hears", "now", "spot", "at", "some", "rest", "more"] ["line", "said_now", "notes"] (defScope s__law_fewest) := ⟨rfl, rfl, rfl, by decide +kernel, rfl, by decide +kernel, by decide +kernel⟩
theorem ok__law_fewest (b : Blt mg) (h__law_rows_by : Has P w K mg base "_law_rows_by" 2 ["line", "letters_now"] (sp0 K semRowsBy)) {f : Addr} {fd : FuncData} (F : Fun K "_law_fewest" "_law_fewest" s__law_fewest f fd) : FnG P w K mg base CX0 3 f fd ["line", "said_now", "notes"] (sp0 K semFaultsK) := by
  refine fn0 (k := 2) F sc__law_fewest (fun ds Q h => by obtain ⟨r, s, w, rfl, _⟩ := h; rfl) (fun cdv A outer s H E hg hr =>
    have nd := sc__law_fewest.nd
    have hu := hr.units
    have hu1 := hu_of hr
    (pss_cons (ps_par (i := 5) (j := 6) rfl nd rfl rfl (by decide) rfl rfl (pa_cons (pe_has (h__law_rows_by.up (by decide)) hg hr (by rfl) (pa_cons (pv 0) (pa_cons (pv 1) pa_nil))) (pa_cons (pe_has (h__law_rows_by.up (by decide)) hg hr (by rfl) (pa_cons (pv 0) (pa_cons (pv 2) pa_nil))) pa_nil)) (by rfl))
 (pss_cons (ps_set (i := 3) nd rfl (by first | exact Or.inl rfl | exact Or.inr rfl) (pe_op op_addU (pe_op op_rep (pe_lst (pa_cons pe_non pa_nil)) (pe_callB call_len (by rfl) b.len (by decide +kernel) (pa_cons (pv 2) pa_nil))) (pe_lst (pa_cons pe_int (pa_cons pe_non (pa_cons pe_non pa_nil))))))
 (pss_cons (ps_for PassesOwn.never rfl (pi_range3 (by rfl) b.range (pa_cons (pe_op op_sub (pe_callB call_len (by rfl) b.len (by decide +kernel) (pa_cons (pv 1) pa_nil)) pe_int) (pa_cons (pe_un un_neg pe_int) (pa_cons (pe_un un_neg pe_int) pa_nil)))) (pg_name (i := 4) nd rfl (by first | exact Or.inl rfl | exact Or.inr rfl)) (pss_cons (ps_set (i := 7) nd rfl (by first | exact Or.inl rfl | exact Or.inr rfl) (pe_lst pa_nil))
 (pss_cons (ps_set (i := 8) nd rfl (by first | exact Or.inl rfl | exact Or.inr rfl) (pe_tidx (pe_ix ix_seq (pv 5) (pv 4) (fun _ _ => rfl)) (pe_ix ix_seq (pv 1) (pv 4) (fun _ _ => rfl))))
 (pss_cons (ps_for PassesOwn.never rfl (pi_range1 (by rfl) b.range (pa_cons (pe_op op_addU (pe_callB call_len (by rfl) b.len (by decide +kernel) (pa_cons (pv 2) pa_nil)) pe_int) pa_nil)) (pg_name (i := 9) nd rfl (by first | exact Or.inl rfl | exact Or.inr rfl)) (pss_cons (ps_set (i := 10) nd rfl (by first | exact Or.inl rfl | exact Or.inr rfl) (pe_lst (pa_cons (pe_tupX (pa_cons (pe_ix ix_seq (pv 3) (pv 9) (fun _ _ => rfl)) (pa_cons pe_int pa_nil))) pa_nil)))
 (pss_cons (ps_if (PW.pt (pw_and (pt_cmpR op_ltU (pv 9) (pe_callB call_len (by rfl) b.len (by decide +kernel) (pa_cons (pv 2) pa_nil)) (nomark _)) (pw_and1 (pt_cmpR (op_eqD hu) (pe_ix ix_seq (pe_ix ix_seq (pv 6) (pv 9) (fun _ _ => rfl)) (pv 8) (fun _ _ => rfl)) (pe_ix ix_seq (pv 2) (pv 9) (fun _ _ => rfl)) (nomark _))))) (pss_cons (ps_expr (by exact (pe_bm PySem.F.plainAttrs_list PySem.F.slot_list_append PySem.F.type_list_append mt_append (pv 10) (pa_cons (pe_tupX (pa_cons (pe_ix ix_seq (pv 3) (pe_op op_addU (pv 9) pe_int) (fun _ _ => rfl)) (pa_cons pe_int pa_nil))) pa_nil))))
 (pss_one (ps_if (PW.pt (pw_and (pt_cmpR op_ltU (pe_op op_addU (pv 9) pe_int) (pe_callB call_len (by rfl) b.len (by decide +kernel) (pa_cons (pv 2) pa_nil)) (nomark _)) (pw_and1 (pt_cmpR (op_eqD hu) (pe_ix ix_seq (pe_ix ix_seq (pv 6) (pe_op op_addU (pv 9) pe_int) (fun _ _ => rfl)) (pv 8) (fun _ _ => rfl)) (pe_ix ix_seq (pv 2) (pe_op op_addU (pv 9) pe_int) (fun _ _ => rfl)) (nomark _))))) (pss_one (ps_expr (by exact (pe_bm PySem.F.plainAttrs_list PySem.F.slot_list_append PySem.F.type_list_append mt_append (pv 10) (pa_cons (pe_tupX (pa_cons (pe_ix ix_seq (pv 3) (pe_op op_addU (pv 9) pe_int) (fun _ _ => rfl)) (pa_cons pe_int pa_nil))) pa_nil))))) pss_nil))) (pss_one (ps_if (pt_cmpR op_ltU (pv 9) (pe_callB call_len (by rfl) b.len (by decide +kernel) (pa_cons (pv 2) pa_nil)) (nomark _)) (pss_one (ps_expr (by exact (pe_bm PySem.F.plainAttrs_list PySem.F.slot_list_append PySem.F.type_list_append mt_append (pv 10) (pa_cons (pe_tupX (pa_cons (pe_ix ix_seq (pv 3) (pe_op op_addU (pv 9) pe_int) (fun _ _ => rfl)) (pa_cons pe_int pa_nil))) pa_nil))))) pss_nil)))
 (pss_cons (ps_setLc (i := 10) (own := [("rest", 11), ("more", 12)]) (g := gPair K 11 12) rfl nd rfl rfl (sw_true rfl rfl rfl (by decide +kernel)) (pi_list (pv 10)) (blkOk_by (own := [("rest", 11), ("more", 12)]) (N := ["line", "said_now", "notes", "below", "one", "tells", "hears", "now", "spot", "at", "some", "rest", "more"]) (sc := defScope s__law_fewest) (by decide +kernel)) (fun _ _ _ _ _ => pg_tup (n := 2) rfl (pgs_cons (pg_name (i := 11) nd rfl (by first | exact Or.inl rfl | exact Or.inr rfl)) (pgs_cons (pg_name (i := 12) nd rfl (by first | exact Or.inl rfl | exact Or.inr rfl)) pgs_nil))) (fun _ _ _ _ _ => by exact (pts_one (pt_cmpR op_notN1 (pv 11) pe_non (nomark _)))) (fun _ _ _ _ _ => by exact (pe_op op_addU (pv 11) (pv 12))))
 (pss_one (ps_expr (by exact (pe_bm PySem.F.plainAttrs_list PySem.F.slot_list_append PySem.F.type_list_append mt_append (pv 7) (pa_cons (pe_ifExp (pt_cmpR (op_neD hu) (pv 10) (pe_lst pa_nil) (nomark _)) (pe_callB (cr_min rfl) (by rfl) b.min (by decide +kernel) (pa_cons (pv 10) pa_nil)) pe_non) pa_nil)))))))))
 (pss_one (ps_set (i := 3) nd rfl (by first | exact Or.inl rfl | exact Or.inr rfl) (pe_op op_addU (pv 7) (pe_lst (pa_cons pe_non (pa_cons pe_non pa_nil))))))))))
 (pss_one (ps_ret (pe_ix ix_seq (pv 3) pe_int (fun _ _ => rfl))))))))
    (ls_seq (ls_parEE (i := 5) (j := 6) (by decide) (by decide) (les_cons (LL.e (ll_call (les_cons (LP.e (lp_var (i := 0))) (les_cons (LP.e (lp_var (i := 1))) les_nil)))) (les_cons (LL.e (ll_call (les_cons (LP.e (lp_var (i := 0))) (les_cons (LP.e (lp_var (i := 2))) les_nil)))) les_nil)))
 (ls_seq (ls_asg (le_op (LL.e (ll_rep (ll_lst (les_cons (LP.e lp_non) les_nil)) (LP.m (lp_cb (lms_cons (LP.m (lp_var (i := 2))) lms_nil) rc_len)))) (LL.e (ll_lst (les_cons (LP.e lp_int) (les_cons (LP.e lp_non) (les_cons (LP.e lp_non) les_nil))))) rb_add) (lg_name (i := 3) (by decide)))
 (ls_seq (ls_forI (li_rng3 (les_cons (LP.e (lp_op (LP.m (lp_cb (lms_cons (LP.m (lp_var (i := 1))) lms_nil) rc_len)) (LP.m lp_int) rb_sub)) (les_cons (LP.e (lp_un (LP.m lp_int) ru_neg)) (les_cons (LP.e (lp_un (LP.m lp_int) ru_neg)) les_nil)))) (lgp_of (lg_name (i := 4) (by decide))) (ls_seq (ls_asgL (i := 7) (by decide) (ll_lst les_nil))
 (ls_seq (ls_asg (LP.e (lp_tindex (LP.m (lp_op (LP.m (lp_var (i := 5))) (LP.m (lp_var (i := 4))) rb_ix)) (LP.m (lp_op (LP.m (lp_var (i := 1))) (LP.m (lp_var (i := 4))) rb_ix)))) (lg_name (i := 8) (by decide)))
 (ls_seq (ls_forR (les_cons (LP.e (lp_op (LP.m (lp_cb (lms_cons (LP.m (lp_var (i := 2))) lms_nil) rc_len)) (LP.m lp_int) rb_add)) les_nil) (lg_name (i := 9) (by decide)) (ls_seq (ls_asgL (i := 10) (by decide) (ll_lst (les_cons (le_tup (les_cons (LP.e (lp_op (LP.m (lp_var (i := 3))) (LP.m (lp_var (i := 9))) rb_ix)) (les_cons (LP.e lp_int) les_nil))) les_nil)))
 (ls_mid (ls_if (LB.g (lb_and (lb_test (LP.m (lp_op (LP.m (lp_var (i := 9))) (LP.m (lp_cb (lms_cons (LP.m (lp_var (i := 2))) lms_nil) rc_len)) rb_U))) (lb_test (LP.m (lp_op (LP.m (lp_op (LP.m (lp_op (LP.m (lp_var (i := 6))) (LP.m (lp_var (i := 9))) rb_ix)) (LP.m (lp_var (i := 8))) rb_ix)) (LP.m (lp_op (LP.m (lp_var (i := 2))) (LP.m (lp_var (i := 9))) rb_ix)) rb_eq))))) (ls_seq (ls_drop (le_append (j := 10) (le_tup (les_cons (LP.e (lp_op (LP.m (lp_var (i := 3))) (LP.m (lp_op (LP.m (lp_var (i := 9))) (LP.m lp_int) rb_add)) rb_ix)) (les_cons (LP.e lp_int) les_nil)))))
 (ls_if (LB.g (lb_and (lb_test (LP.m (lp_op (LP.m (lp_op (LP.m (lp_var (i := 9))) (LP.m lp_int) rb_add)) (LP.m (lp_cb (lms_cons (LP.m (lp_var (i := 2))) lms_nil) rc_len)) rb_U))) (lb_test (LP.m (lp_op (LP.m (lp_op (LP.m (lp_op (LP.m (lp_var (i := 6))) (LP.m (lp_op (LP.m (lp_var (i := 9))) (LP.m lp_int) rb_add)) rb_ix)) (LP.m (lp_var (i := 8))) rb_ix)) (LP.m (lp_op (LP.m (lp_var (i := 2))) (LP.m (lp_op (LP.m (lp_var (i := 9))) (LP.m lp_int) rb_add)) rb_ix)) rb_eq))))) (ls_drop (le_append (j := 10) (le_tup (les_cons (LP.e (lp_op (LP.m (lp_var (i := 3))) (LP.m (lp_op (LP.m (lp_var (i := 9))) (LP.m lp_int) rb_add)) rb_ix)) (les_cons (LP.e lp_int) les_nil))))) ls_next)) (ls_if (LB.g (lb_test (LP.m (lp_op (LP.m (lp_var (i := 9))) (LP.m (lp_cb (lms_cons (LP.m (lp_var (i := 2))) lms_nil) rc_len)) rb_U)))) (ls_drop (le_append (j := 10) (le_tup (les_cons (LP.e (lp_op (LP.m (lp_var (i := 3))) (LP.m (lp_op (LP.m (lp_var (i := 9))) (LP.m lp_int) rb_add)) rb_ix)) (les_cons (LP.e lp_int) les_nil))))) ls_next))
 (ls_seq (ls_asgL (i := 10) (by decide) (ll_compP (j1 := 11) (j2 := 12) (vs := [11, 12]) (by decide) (by decide) (by decide) (le_var (i := 10) (by decide)) (LB.g (lb_test (LP.m (lp_op (LP.m (lp_var (i := 11))) (LP.m lp_non) rb_notN)))) (LP.e (lp_op (LP.m (lp_var (i := 11))) (LP.m (lp_var (i := 12))) rb_add))))
 (ls_drop (le_append (j := 7) (le_ifE (lt_test (le_op (le_var (i := 10) (by decide)) (LL.e (ll_lst les_nil)) rb_ne)) (LP.e (lp_cb (lms_cons (lm_peek (i := 10)) lms_nil) rc_minI)) (LP.e lp_non))))))))
 (ls_asg (le_op (le_var (i := 7) (by decide)) (LL.e (ll_lst (les_cons (LP.e lp_non) (les_cons (LP.e lp_non) les_nil)))) rb_add) (lg_name (i := 3) (by decide)))))))
 (ls_ret (LP.e (lp_op (LP.m (lp_var (i := 3))) (LP.m lp_int) rb_ix)))))) ?_
  rintro ds Q ⟨r, s, w, rfl, gr, hs, hw, f1, f2, q⟩
  (simp only [TN.dCallO, TN.dCallOI, TN.dCallNO, TN.oVar, TN.sCut, TN.tgLst, TN.iK, TN.iV, TN.iLT, TN.pNew, TN.dCallN, TN.dCompI2, TN.dLAddE, TN.oD, TN.sDNew, TN.sPutD, TN.fGetO, TN.fGetO2, TN.fInO, TN.fNinO, TN.dVarD, TN.dExtS, TN.mOwn, TN.dCallM, TN.mVar, TN.sRetV, TN.dAug, TN.dCallNT, TN.dCallNL, TN.fIxTs, TN.sForI, TN.dCompI, TN.dCompL, TN.dCompT, TN.dCompR, TN.iL, TN.iT, TN.iR1, TN.iR2, TN.iR3, TN.iS, TN.iE, TN.iRv, TN.iZ, TN.dKeepT, TN.dCallT, TN.pTup, TN.pCons, TN.pOwn, TN.sAsgT, TN.sRetT, TN.tpL, TN.fIxT, TN.fTp, TN.dAppendT, TN.dReverseT, TN.dClearT, TN.dVarT, TN.dReverse, TN.dClear, TN.dPop, Pt.d, Sl.tp.injEq, TN.startF, TN.dCallV, Sl.fn.injEq, TN.dCallF, TN.dLRev, TN.dLAdd, TN.dLSlP, TN.dLSlice, TN.dSliceE, TN.dNo, TN.dEnd, TN.fNo, TN.sSeq, TN.sNext, TN.sDrop, TN.sRet, TN.sRetL, TN.sRetN, TN.sIf, TN.sAsg, TN.sAsgL, TN.sStore, TN.sForL, TN.sForT, TN.sForR, TN.sForR2, TN.tgN, TN.tgTup, TN.tgCons, TN.tgNil, TN.dP, TN.dB, TN.dCall, TN.dCallL, TN.dCallB, TN.dCallBL, TN.dCons, TN.dNil, TN.dTup, TN.dLst, TN.dKeep, TN.dVar, TN.fVar, TN.fPeek, TN.fC, TN.f2, TN.d2, TN.d2V, TN.f1, TN.d1, TN.fCB, TN.dCB, TN.dCBL, TN.fNil, TN.fCons, TN.asBool, TN.dTest, TN.bAnd, TN.bOr, TN.bNot, TN.dAnd, TN.dOr, TN.dNot, TN.fAndV, TN.fOrV, TN.fNotV, TN.dAndV, TN.dOrV, TN.dNotV, TN.dIfE, TN.dIfL, TN.fIfE, TN.fChain, TN.fSlice, TN.dSlice, TN.fNo, TN.fEnd, TN.dAppend, TN.dInsert, TN.dPopAt, TN.ownL, TN.start0, TN.begB, TN.backD, TN.wipeD, TN.dYes, TN.sNever, List.getElem?_cons_zero, List.getElem?_cons_succ, List.set_cons_zero, List.set_cons_succ, List.map_cons, List.map_nil, List.length_cons, List.length_nil, List.cons_append, List.nil_append, List.replicate_succ, List.replicate_zero, Option.map_some, Option.map_none, Nat.add_one_sub_one, Nat.sub_zero, Nat.sub_self, Nat.zero_add, reduceCtorEq, Option.some.injEq, PyData.int.injEq, PyData.str.injEq, PyData.bool.injEq, PyData.list.injEq, PyData.tuple.injEq, Sl.sh.injEq, Sl.ow.injEq, List.cons.injEq, exists_eq_left', exists_eq_left, true_implies, false_implies, and_true, true_and, forall_const, Option.isSome_some, TN.imp_ff, TN.imp_tf, TN.imp_tt, exists_eq_left, exists_eq_left', exists_eq])
  refine ⟨r, s, rfl, gr, hs, f1, _, rfl, r, w, rfl, gr, hw, f2, _, rfl, _, _, ⟨rfl, rfl⟩, ?_⟩
  unfold dRep
  (simp only [TN.dCallO, TN.dCallOI, TN.dCallNO, TN.oVar, TN.sCut, TN.tgLst, TN.iK, TN.iV, TN.iLT, TN.pNew, TN.dCallN, TN.dCompI2, TN.dLAddE, TN.oD, TN.sDNew, TN.sPutD, TN.fGetO, TN.fGetO2, TN.fInO, TN.fNinO, TN.dVarD, TN.dExtS, TN.mOwn, TN.dCallM, TN.mVar, TN.sRetV, TN.dAug, TN.dCallNT, TN.dCallNL, TN.fIxTs, TN.sForI, TN.dCompI, TN.dCompL, TN.dCompT, TN.dCompR, TN.iL, TN.iT, TN.iR1, TN.iR2, TN.iR3, TN.iS, TN.iE, TN.iRv, TN.iZ, TN.dKeepT, TN.dCallT, TN.pTup, TN.pCons, TN.pOwn, TN.sAsgT, TN.sRetT, TN.tpL, TN.fIxT, TN.fTp, TN.dAppendT, TN.dReverseT, TN.dClearT, TN.dVarT, TN.dReverse, TN.dClear, TN.dPop, Pt.d, Sl.tp.injEq, TN.startF, TN.dCallV, Sl.fn.injEq, TN.dCallF, TN.dLRev, TN.dLAdd, TN.dLSlP, TN.dLSlice, TN.dSliceE, TN.dNo, TN.dEnd, TN.fNo, TN.sSeq, TN.sNext, TN.sDrop, TN.sRet, TN.sRetL, TN.sRetN, TN.sIf, TN.sAsg, TN.sAsgL, TN.sStore, TN.sForL, TN.sForT, TN.sForR, TN.sForR2, TN.tgN, TN.tgTup, TN.tgCons, TN.tgNil, TN.dP, TN.dB, TN.dCall, TN.dCallL, TN.dCallB, TN.dCallBL, TN.dCons, TN.dNil, TN.dTup, TN.dLst, TN.dKeep, TN.dVar, TN.fVar, TN.fPeek, TN.fC, TN.f2, TN.d2, TN.d2V, TN.f1, TN.d1, TN.fCB, TN.dCB, TN.dCBL, TN.fNil, TN.fCons, TN.asBool, TN.dTest, TN.bAnd, TN.bOr, TN.bNot, TN.dAnd, TN.dOr, TN.dNot, TN.fAndV, TN.fOrV, TN.fNotV, TN.dAndV, TN.dOrV, TN.dNotV, TN.dIfE, TN.dIfL, TN.fIfE, TN.fChain, TN.fSlice, TN.dSlice, TN.fNo, TN.fEnd, TN.dAppend, TN.dInsert, TN.dPopAt, TN.ownL, TN.start0, TN.begB, TN.backD, TN.wipeD, TN.dYes, TN.sNever, List.getElem?_cons_zero, List.getElem?_cons_succ, List.set_cons_zero, List.set_cons_succ, List.map_cons, List.map_nil, List.length_cons, List.length_nil, List.cons_append, List.nil_append, List.replicate_succ, List.replicate_zero, Option.map_some, Option.map_none, Nat.add_one_sub_one, Nat.sub_zero, Nat.sub_self, Nat.zero_add, reduceCtorEq, Option.some.injEq, PyData.int.injEq, PyData.str.injEq, PyData.bool.injEq, PyData.list.injEq, PyData.tuple.injEq, Sl.sh.injEq, Sl.ow.injEq, List.cons.injEq, exists_eq_left', exists_eq_left, true_implies, false_implies, and_true, true_and, forall_const, Option.isSome_some, TN.imp_ff, TN.imp_tf, TN.imp_tt, exists_eq_left, exists_eq_left', exists_eq])
  have pl := placesL_len s r
  have ql := placesL_len w r
  obtain ⟨ps, hps⟩ : ∃ ps, placesL r s = ps := ⟨_, rfl⟩
  obtain ⟨qs, hqs⟩ : ∃ qs, placesL r w = qs := ⟨_, rfl⟩
  have at_s := fun k h => rows_at s r k gr.nd hs h
  have at_w := fun k h => rows_at w r k gr.nd hw h
  rw [hps] at q pl at_s
  rw [hqs] at q ql at_w
  have e0 : oAdd (.list (List.replicate (w.length : Int).toNat [PyData.none]).flatten) (.list [.int 0, .none, .none]) = some (.list (rowL [] qs ++ [.none, .none])) := by
    rw [oAdd_lst (by simp; omega), ← row_nil, ql, List.append_assoc]; rfl
  refine ⟨by omega, w.length, oLen_lstL, by omega, by omega, by omega, by omega, _, e0, .int ((s.length : Int) - 1), by rw [oLen_lstL]; rfl, .int (-1), rfl, .int (-1), rfl, (s.length : Int) - 1, -1, -1, s.length, ⟨rfl, rfl, rfl⟩, ?_, ?_⟩
  · have := RgC.neg (i := (s.length : Int) - 1) (j := -1) (by omega) (by omega) (by omega) (by omega)
    rwa [show ((s.length : Int) - 1 - -1).toNat = s.length by omega] at this
  rw [rangeC_down]
  have rT := rowsT_len s r
  have rW := rowsT_len w r
  generalize rowsT r s = RT at at_s rT ⊢
  generalize rowsT r w = RW at at_w rW ⊢
  refine forD_go (fun (k : Nat) => PyData.int k) (fun ls ρ => ∃ (k : Nat) (b4 b7 b8 b9 b10 : Sl), k ≤ s.length ∧ ls = (List.range k).reverse ∧ ρ = [.sh (tupL r), .sh (lstL s), .sh (lstL w), .sh (.list (rowL (ps.drop k) qs ++ [.none, .none])), b4, .sh (.list (RT.map tupL)), .sh (.list (RW.map tupL)), b7, b8, b9, b10, .no, .no]) ?_ ?_ _ _ ⟨s.length, _, _, _, _, _, Nat.le_refl _, rfl, by rw [show ps.drop s.length = [] from List.drop_eq_nil_iff.mpr (by omega)]⟩
  rotate_left
  · rintro ρ ⟨k, b4, b7, b8, b9, b10, hk, el, rfl⟩
    have k0 : k = 0 := by
      have := congrArg List.length el
      simpa using this.symm
    subst k0
    (simp only [TN.dCallO, TN.dCallOI, TN.dCallNO, TN.oVar, TN.sCut, TN.tgLst, TN.iK, TN.iV, TN.iLT, TN.pNew, TN.dCallN, TN.dCompI2, TN.dLAddE, TN.oD, TN.sDNew, TN.sPutD, TN.fGetO, TN.fGetO2, TN.fInO, TN.fNinO, TN.dVarD, TN.dExtS, TN.mOwn, TN.dCallM, TN.mVar, TN.sRetV, TN.dAug, TN.dCallNT, TN.dCallNL, TN.fIxTs, TN.sForI, TN.dCompI, TN.dCompL, TN.dCompT, TN.dCompR, TN.iL, TN.iT, TN.iR1, TN.iR2, TN.iR3, TN.iS, TN.iE, TN.iRv, TN.iZ, TN.dKeepT, TN.dCallT, TN.pTup, TN.pCons, TN.pOwn, TN.sAsgT, TN.sRetT, TN.tpL, TN.fIxT, TN.fTp, TN.dAppendT, TN.dReverseT, TN.dClearT, TN.dVarT, TN.dReverse, TN.dClear, TN.dPop, Pt.d, Sl.tp.injEq, TN.startF, TN.dCallV, Sl.fn.injEq, TN.dCallF, TN.dLRev, TN.dLAdd, TN.dLSlP, TN.dLSlice, TN.dSliceE, TN.dNo, TN.dEnd, TN.fNo, TN.sSeq, TN.sNext, TN.sDrop, TN.sRet, TN.sRetL, TN.sRetN, TN.sIf, TN.sAsg, TN.sAsgL, TN.sStore, TN.sForL, TN.sForT, TN.sForR, TN.sForR2, TN.tgN, TN.tgTup, TN.tgCons, TN.tgNil, TN.dP, TN.dB, TN.dCall, TN.dCallL, TN.dCallB, TN.dCallBL, TN.dCons, TN.dNil, TN.dTup, TN.dLst, TN.dKeep, TN.dVar, TN.fVar, TN.fPeek, TN.fC, TN.f2, TN.d2, TN.d2V, TN.f1, TN.d1, TN.fCB, TN.dCB, TN.dCBL, TN.fNil, TN.fCons, TN.asBool, TN.dTest, TN.bAnd, TN.bOr, TN.bNot, TN.dAnd, TN.dOr, TN.dNot, TN.fAndV, TN.fOrV, TN.fNotV, TN.dAndV, TN.dOrV, TN.dNotV, TN.dIfE, TN.dIfL, TN.fIfE, TN.fChain, TN.fSlice, TN.dSlice, TN.fNo, TN.fEnd, TN.dAppend, TN.dInsert, TN.dPopAt, TN.ownL, TN.start0, TN.begB, TN.backD, TN.wipeD, TN.dYes, TN.sNever, List.getElem?_cons_zero, List.getElem?_cons_succ, List.set_cons_zero, List.set_cons_succ, List.map_cons, List.map_nil, List.length_cons, List.length_nil, List.cons_append, List.nil_append, List.replicate_succ, List.replicate_zero, Option.map_some, Option.map_none, Nat.add_one_sub_one, Nat.sub_zero, Nat.sub_self, Nat.zero_add, reduceCtorEq, Option.some.injEq, PyData.int.injEq, PyData.str.injEq, PyData.bool.injEq, PyData.list.injEq, PyData.tuple.injEq, Sl.sh.injEq, Sl.ow.injEq, List.cons.injEq, exists_eq_left', exists_eq_left, true_implies, false_implies, and_true, true_and, forall_const, Option.isSome_some, TN.imp_ff, TN.imp_tf, TN.imp_tt, exists_eq_left, exists_eq_left', exists_eq])
    exact ⟨_, below_at (a := 0) (Nat.zero_le _), q⟩
  rintro x ls ρ E' ⟨k, b4, b7, b8, b9, b10, hk, el, rfl⟩ nx _ rt _
  cases k with
  | zero => cases el
  | succ k =>
    rw [List.range_succ, List.reverse_append] at el
    injection el with e1 e2
    subst e1 e2
    (simp only [TN.dCallO, TN.dCallOI, TN.dCallNO, TN.oVar, TN.sCut, TN.tgLst, TN.iK, TN.iV, TN.iLT, TN.pNew, TN.dCallN, TN.dCompI2, TN.dLAddE, TN.oD, TN.sDNew, TN.sPutD, TN.fGetO, TN.fGetO2, TN.fInO, TN.fNinO, TN.dVarD, TN.dExtS, TN.mOwn, TN.dCallM, TN.mVar, TN.sRetV, TN.dAug, TN.dCallNT, TN.dCallNL, TN.fIxTs, TN.sForI, TN.dCompI, TN.dCompL, TN.dCompT, TN.dCompR, TN.iL, TN.iT, TN.iR1, TN.iR2, TN.iR3, TN.iS, TN.iE, TN.iRv, TN.iZ, TN.dKeepT, TN.dCallT, TN.pTup, TN.pCons, TN.pOwn, TN.sAsgT, TN.sRetT, TN.tpL, TN.fIxT, TN.fTp, TN.dAppendT, TN.dReverseT, TN.dClearT, TN.dVarT, TN.dReverse, TN.dClear, TN.dPop, Pt.d, Sl.tp.injEq, TN.startF, TN.dCallV, Sl.fn.injEq, TN.dCallF, TN.dLRev, TN.dLAdd, TN.dLSlP, TN.dLSlice, TN.dSliceE, TN.dNo, TN.dEnd, TN.fNo, TN.sSeq, TN.sNext, TN.sDrop, TN.sRet, TN.sRetL, TN.sRetN, TN.sIf, TN.sAsg, TN.sAsgL, TN.sStore, TN.sForL, TN.sForT, TN.sForR, TN.sForR2, TN.tgN, TN.tgTup, TN.tgCons, TN.tgNil, TN.dP, TN.dB, TN.dCall, TN.dCallL, TN.dCallB, TN.dCallBL, TN.dCons, TN.dNil, TN.dTup, TN.dLst, TN.dKeep, TN.dVar, TN.fVar, TN.fPeek, TN.fC, TN.f2, TN.d2, TN.d2V, TN.f1, TN.d1, TN.fCB, TN.dCB, TN.dCBL, TN.fNil, TN.fCons, TN.asBool, TN.dTest, TN.bAnd, TN.bOr, TN.bNot, TN.dAnd, TN.dOr, TN.dNot, TN.fAndV, TN.fOrV, TN.fNotV, TN.dAndV, TN.dOrV, TN.dNotV, TN.dIfE, TN.dIfL, TN.fIfE, TN.fChain, TN.fSlice, TN.dSlice, TN.fNo, TN.fEnd, TN.dAppend, TN.dInsert, TN.dPopAt, TN.ownL, TN.start0, TN.begB, TN.backD, TN.wipeD, TN.dYes, TN.sNever, List.getElem?_cons_zero, List.getElem?_cons_succ, List.set_cons_zero, List.set_cons_succ, List.map_cons, List.map_nil, List.length_cons, List.length_nil, List.cons_append, List.nil_append, List.replicate_succ, List.replicate_zero, Option.map_some, Option.map_none, Nat.add_one_sub_one, Nat.sub_zero, Nat.sub_self, Nat.zero_add, reduceCtorEq, Option.some.injEq, PyData.int.injEq, PyData.str.injEq, PyData.bool.injEq, PyData.list.injEq, PyData.tuple.injEq, Sl.sh.injEq, Sl.ow.injEq, List.cons.injEq, exists_eq_left', exists_eq_left, true_implies, false_implies, and_true, true_and, forall_const, Option.isSome_some, TN.imp_ff, TN.imp_tf, TN.imp_tt, exists_eq_left, exists_eq_left', exists_eq])
    have hx : x < s.length := by omega
    obtain ⟨v, v1, v2, v3⟩ := at_s x hx
    have sv : s[x] ∈ v := v2.mem_iff.mpr (hs _ (List.getElem_mem hx))
    have nv : v.Nodup := v2.nodup_iff.mpr gr.nd
    have pv : ixS s[x] v < r.length := by rw [← v2.length_eq]; exact idx_lt sv
    have i1 : oIx (.list (RT.map tupL)) (.int x) = some (tupL v) := L2.atI_nat (by rw [List.getElem?_map, v1]; rfl)
    have i2 : oIx (lstL s) (.int x) = some (.str s[x]) := L2.atI_nat (by rw [List.getElem?_map, List.getElem?_eq_getElem hx]; rfl)
    have i3 : oTIdx (tupL v) (.str s[x]) = some (.int (ixS s[x] v : Nat)) := oTIx sv
    generalize hp : ixS s[x] v = p at pv i3 v3
    have dp : ps.drop x = p :: ps.drop (x + 1) := by
      have hx2 : x < ps.length := by omega
      rw [List.drop_eq_getElem_cons hx2]
      rw [List.getElem?_eq_getElem hx2] at v3
      injection v3 with v3; rw [v3]
    generalize hss : ps.drop (x + 1) = ss at dp ⊢
    refine ⟨by omega, .int p, by simp only [i1, i2, i3], .int ((w.length : Int) + 1), by rw [oLen_lstL]; rfl, _, rfl, by omega, by omega, ?_⟩
    rw [show ((w.length : Int) + 1) = ((w.length + 1 : Nat) : Int) by omega, rangeD_nat]
    refine forD_go (fun (k : Nat) => PyData.int k) (fun ls ρ => ∃ (acc : List Nat) (b9 b10 : Sl), acc ++ ls = List.range (w.length + 1) ∧ ρ = [.sh (tupL r), .sh (lstL s), .sh (lstL w), .sh (.list (rowL ss qs ++ [.none, .none])), .sh (.int x), .sh (.list (RT.map tupL)), .sh (.list (RW.map tupL)), .ow (acc.map fun a => optD (fewF (p :: ss) (qs.drop a))), .sh (.int p), b9, b10, .no, .no]) ?_ ?_ _ _ ⟨[], _, _, rfl, rfl⟩
    rotate_left
    · rintro ρ ⟨acc, b9, b10, ea, rfl⟩
      rw [List.append_nil] at ea
      subst ea
      (simp only [TN.dCallO, TN.dCallOI, TN.dCallNO, TN.oVar, TN.sCut, TN.tgLst, TN.iK, TN.iV, TN.iLT, TN.pNew, TN.dCallN, TN.dCompI2, TN.dLAddE, TN.oD, TN.sDNew, TN.sPutD, TN.fGetO, TN.fGetO2, TN.fInO, TN.fNinO, TN.dVarD, TN.dExtS, TN.mOwn, TN.dCallM, TN.mVar, TN.sRetV, TN.dAug, TN.dCallNT, TN.dCallNL, TN.fIxTs, TN.sForI, TN.dCompI, TN.dCompL, TN.dCompT, TN.dCompR, TN.iL, TN.iT, TN.iR1, TN.iR2, TN.iR3, TN.iS, TN.iE, TN.iRv, TN.iZ, TN.dKeepT, TN.dCallT, TN.pTup, TN.pCons, TN.pOwn, TN.sAsgT, TN.sRetT, TN.tpL, TN.fIxT, TN.fTp, TN.dAppendT, TN.dReverseT, TN.dClearT, TN.dVarT, TN.dReverse, TN.dClear, TN.dPop, Pt.d, Sl.tp.injEq, TN.startF, TN.dCallV, Sl.fn.injEq, TN.dCallF, TN.dLRev, TN.dLAdd, TN.dLSlP, TN.dLSlice, TN.dSliceE, TN.dNo, TN.dEnd, TN.fNo, TN.sSeq, TN.sNext, TN.sDrop, TN.sRet, TN.sRetL, TN.sRetN, TN.sIf, TN.sAsg, TN.sAsgL, TN.sStore, TN.sForL, TN.sForT, TN.sForR, TN.sForR2, TN.tgN, TN.tgTup, TN.tgCons, TN.tgNil, TN.dP, TN.dB, TN.dCall, TN.dCallL, TN.dCallB, TN.dCallBL, TN.dCons, TN.dNil, TN.dTup, TN.dLst, TN.dKeep, TN.dVar, TN.fVar, TN.fPeek, TN.fC, TN.f2, TN.d2, TN.d2V, TN.f1, TN.d1, TN.fCB, TN.dCB, TN.dCBL, TN.fNil, TN.fCons, TN.asBool, TN.dTest, TN.bAnd, TN.bOr, TN.bNot, TN.dAnd, TN.dOr, TN.dNot, TN.fAndV, TN.fOrV, TN.fNotV, TN.dAndV, TN.dOrV, TN.dNotV, TN.dIfE, TN.dIfL, TN.fIfE, TN.fChain, TN.fSlice, TN.dSlice, TN.fNo, TN.fEnd, TN.dAppend, TN.dInsert, TN.dPopAt, TN.ownL, TN.start0, TN.begB, TN.backD, TN.wipeD, TN.dYes, TN.sNever, List.getElem?_cons_zero, List.getElem?_cons_succ, List.set_cons_zero, List.set_cons_succ, List.map_cons, List.map_nil, List.length_cons, List.length_nil, List.cons_append, List.nil_append, List.replicate_succ, List.replicate_zero, Option.map_some, Option.map_none, Nat.add_one_sub_one, Nat.sub_zero, Nat.sub_self, Nat.zero_add, reduceCtorEq, Option.some.injEq, PyData.int.injEq, PyData.str.injEq, PyData.bool.injEq, PyData.list.injEq, PyData.tuple.injEq, Sl.sh.injEq, Sl.ow.injEq, List.cons.injEq, exists_eq_left', exists_eq_left, true_implies, false_implies, and_true, true_and, forall_const, Option.isSome_some, TN.imp_ff, TN.imp_tf, TN.imp_tt, exists_eq_left, exists_eq_left', exists_eq])
      rw [show (List.range (w.length + 1)).map (fun a => optD (fewF (p :: ss) (qs.drop a))) = rowL (p :: ss) qs by unfold rowL; rw [ql]]
      refine ⟨by omega, _, oAdd_lst (by rw [rowL_len]; simp; omega), nx _ ⟨x, .sh (.int x), .sh (.list (rowL (p :: ss) qs)), .sh (.int p), b9, b10, by omega, rfl, ?_⟩⟩
      rw [dp]
    rintro a ls2 ρ E2 ⟨acc, b9, b10, ea, rfl⟩ nx2 _ rt2 _
    have ha : a ≤ w.length := by
      have : a ∈ List.range (w.length + 1) := by rw [← ea]; simp
      have := List.mem_range.mp this
      omega
    have la : acc.length ≤ w.length := by
      have := congrArg List.length ea
      rw [List.length_append, List.length_range, List.length_cons] at this
      omega
    have bat := fun k (h : k ≤ qs.length) => below_at (ss := ss) (qs := qs) (a := k) h
    (simp only [TN.dCallO, TN.dCallOI, TN.dCallNO, TN.oVar, TN.sCut, TN.tgLst, TN.iK, TN.iV, TN.iLT, TN.pNew, TN.dCallN, TN.dCompI2, TN.dLAddE, TN.oD, TN.sDNew, TN.sPutD, TN.fGetO, TN.fGetO2, TN.fInO, TN.fNinO, TN.dVarD, TN.dExtS, TN.mOwn, TN.dCallM, TN.mVar, TN.sRetV, TN.dAug, TN.dCallNT, TN.dCallNL, TN.fIxTs, TN.sForI, TN.dCompI, TN.dCompL, TN.dCompT, TN.dCompR, TN.iL, TN.iT, TN.iR1, TN.iR2, TN.iR3, TN.iS, TN.iE, TN.iRv, TN.iZ, TN.dKeepT, TN.dCallT, TN.pTup, TN.pCons, TN.pOwn, TN.sAsgT, TN.sRetT, TN.tpL, TN.fIxT, TN.fTp, TN.dAppendT, TN.dReverseT, TN.dClearT, TN.dVarT, TN.dReverse, TN.dClear, TN.dPop, Pt.d, Sl.tp.injEq, TN.startF, TN.dCallV, Sl.fn.injEq, TN.dCallF, TN.dLRev, TN.dLAdd, TN.dLSlP, TN.dLSlice, TN.dSliceE, TN.dNo, TN.dEnd, TN.fNo, TN.sSeq, TN.sNext, TN.sDrop, TN.sRet, TN.sRetL, TN.sRetN, TN.sIf, TN.sAsg, TN.sAsgL, TN.sStore, TN.sForL, TN.sForT, TN.sForR, TN.sForR2, TN.tgN, TN.tgTup, TN.tgCons, TN.tgNil, TN.dP, TN.dB, TN.dCall, TN.dCallL, TN.dCallB, TN.dCallBL, TN.dCons, TN.dNil, TN.dTup, TN.dLst, TN.dKeep, TN.dVar, TN.fVar, TN.fPeek, TN.fC, TN.f2, TN.d2, TN.d2V, TN.f1, TN.d1, TN.fCB, TN.dCB, TN.dCBL, TN.fNil, TN.fCons, TN.asBool, TN.dTest, TN.bAnd, TN.bOr, TN.bNot, TN.dAnd, TN.dOr, TN.dNot, TN.fAndV, TN.fOrV, TN.fNotV, TN.dAndV, TN.dOrV, TN.dNotV, TN.dIfE, TN.dIfL, TN.fIfE, TN.fChain, TN.fSlice, TN.dSlice, TN.fNo, TN.fEnd, TN.dAppend, TN.dInsert, TN.dPopAt, TN.ownL, TN.start0, TN.begB, TN.backD, TN.wipeD, TN.dYes, TN.sNever, List.getElem?_cons_zero, List.getElem?_cons_succ, List.set_cons_zero, List.set_cons_succ, List.map_cons, List.map_nil, List.length_cons, List.length_nil, List.cons_append, List.nil_append, List.replicate_succ, List.replicate_zero, Option.map_some, Option.map_none, Nat.add_one_sub_one, Nat.sub_zero, Nat.sub_self, Nat.zero_add, reduceCtorEq, Option.some.injEq, PyData.int.injEq, PyData.str.injEq, PyData.bool.injEq, PyData.list.injEq, PyData.tuple.injEq, Sl.sh.injEq, Sl.ow.injEq, List.cons.injEq, exists_eq_left', exists_eq_left, true_implies, false_implies, and_true, true_and, forall_const, Option.isSome_some, TN.imp_ff, TN.imp_tf, TN.imp_tt, exists_eq_left, exists_eq_left', exists_eq])
    unfold sMid
    refine ⟨_, bat a (by omega), by omega, by omega, fun ρ' => ρ' = [.sh (tupL r), .sh (lstL s), .sh (lstL w), .sh (.list (rowL ss qs ++ [.none, .none])), .sh (.int x), .sh (.list (RT.map tupL)), .sh (.list (RW.map tupL)), .ow (acc.map fun a => optD (fewF (p :: ss) (qs.drop a))), .sh (.int p), .sh (.int a), .ow ((evsAt p (qs.drop a)).map fun em => .tuple [optD (fewF ss (qs.drop (a + em.2))), .int (costE em.1)]), .no, .no], ?_, ?_⟩
    · (simp only [TN.dCallO, TN.dCallOI, TN.dCallNO, TN.oVar, TN.sCut, TN.tgLst, TN.iK, TN.iV, TN.iLT, TN.pNew, TN.dCallN, TN.dCompI2, TN.dLAddE, TN.oD, TN.sDNew, TN.sPutD, TN.fGetO, TN.fGetO2, TN.fInO, TN.fNinO, TN.dVarD, TN.dExtS, TN.mOwn, TN.dCallM, TN.mVar, TN.sRetV, TN.dAug, TN.dCallNT, TN.dCallNL, TN.fIxTs, TN.sForI, TN.dCompI, TN.dCompL, TN.dCompT, TN.dCompR, TN.iL, TN.iT, TN.iR1, TN.iR2, TN.iR3, TN.iS, TN.iE, TN.iRv, TN.iZ, TN.dKeepT, TN.dCallT, TN.pTup, TN.pCons, TN.pOwn, TN.sAsgT, TN.sRetT, TN.tpL, TN.fIxT, TN.fTp, TN.dAppendT, TN.dReverseT, TN.dClearT, TN.dVarT, TN.dReverse, TN.dClear, TN.dPop, Pt.d, Sl.tp.injEq, TN.startF, TN.dCallV, Sl.fn.injEq, TN.dCallF, TN.dLRev, TN.dLAdd, TN.dLSlP, TN.dLSlice, TN.dSliceE, TN.dNo, TN.dEnd, TN.fNo, TN.sSeq, TN.sNext, TN.sDrop, TN.sRet, TN.sRetL, TN.sRetN, TN.sIf, TN.sAsg, TN.sAsgL, TN.sStore, TN.sForL, TN.sForT, TN.sForR, TN.sForR2, TN.tgN, TN.tgTup, TN.tgCons, TN.tgNil, TN.dP, TN.dB, TN.dCall, TN.dCallL, TN.dCallB, TN.dCallBL, TN.dCons, TN.dNil, TN.dTup, TN.dLst, TN.dKeep, TN.dVar, TN.fVar, TN.fPeek, TN.fC, TN.f2, TN.d2, TN.d2V, TN.f1, TN.d1, TN.fCB, TN.dCB, TN.dCBL, TN.fNil, TN.fCons, TN.asBool, TN.dTest, TN.bAnd, TN.bOr, TN.bNot, TN.dAnd, TN.dOr, TN.dNot, TN.fAndV, TN.fOrV, TN.fNotV, TN.dAndV, TN.dOrV, TN.dNotV, TN.dIfE, TN.dIfL, TN.fIfE, TN.fChain, TN.fSlice, TN.dSlice, TN.fNo, TN.fEnd, TN.dAppend, TN.dInsert, TN.dPopAt, TN.ownL, TN.start0, TN.begB, TN.backD, TN.wipeD, TN.dYes, TN.sNever, List.getElem?_cons_zero, List.getElem?_cons_succ, List.set_cons_zero, List.set_cons_succ, List.map_cons, List.map_nil, List.length_cons, List.length_nil, List.cons_append, List.nil_append, List.replicate_succ, List.replicate_zero, Option.map_some, Option.map_none, Nat.add_one_sub_one, Nat.sub_zero, Nat.sub_self, Nat.zero_add, reduceCtorEq, Option.some.injEq, PyData.int.injEq, PyData.str.injEq, PyData.bool.injEq, PyData.list.injEq, PyData.tuple.injEq, Sl.sh.injEq, Sl.ow.injEq, List.cons.injEq, exists_eq_left', exists_eq_left, true_implies, false_implies, and_true, true_and, forall_const, Option.isSome_some, TN.imp_ff, TN.imp_tf, TN.imp_tt, exists_eq_left, exists_eq_left', exists_eq])
      have e1 : oAdd (.int (a : Int)) (.int 1) = some (.int ((a + 1 : Nat) : Int)) := rfl
      have e2 : oAdd (.int (a : Int)) (.int 2) = some (.int ((a + 2 : Nat) : Int)) := rfl
      have ltI : ∀ i j : Nat, oU (fun i j => decide (i < j)) (fun i j => decide (i.cps.toList < j.cps.toList)) (.int (i : Int)) (.int (j : Int)) = some (.bool (decide (i < j))) := fun i j => by
        show some (PyData.bool (decide ((i : Int) < (j : Int)))) = _
        congr 2; simp
      have hear : ∀ k (h : k < w.length), ∃ (v2 : List Str) (y z : Str), oIx (.list (RW.map tupL)) (.int k) = some (tupL v2) ∧ oIx (tupL v2) (.int p) = some (.str y) ∧ oIx (lstL w) (.int k) = some (.str z) ∧ oEq (.str y) (.str z) = some (.bool (decide (qs[k]? = some p))) := fun k h => by
        obtain ⟨v2, h1, h2, h3⟩ := at_w k h
        have hz : w[k] ∈ v2 := h2.mem_iff.mpr (hw _ (List.getElem_mem h))
        have nd2 : v2.Nodup := h2.nodup_iff.mpr gr.nd
        have hp2 : p < v2.length := by rw [h2.length_eq]; exact pv
        have ok : ∀ y ∈ v2, okS y := fun y hy => gr.oks y (h2.mem_iff.mp hy)
        refine ⟨v2, v2.getD p "", w[k], L2.atI_nat (by rw [List.getElem?_map, h1]; rfl), oIx_tupL hp2, L2.atI_nat (by rw [List.getElem?_map, List.getElem?_eq_getElem h]; rfl), ?_⟩
        rw [oEq_str (ok _ (getD_mem hp2)) (ok _ hz), h3]
        congr 2
        exact decide_eq_decide.mpr ((get_ix nd2 hp2 hz).trans ⟨fun e => by rw [e], fun e => by injection e with e; exact e.symm⟩)
      simp only [oLen_lstL, ltI, e1, e2]
      by_cases c1 : a < w.length
      · obtain ⟨v2, y, z, g1, g2, g3, g4⟩ := hear a c1
        have b1 := bat (a + 1) (by omega)
        have da : ∃ q0, qs.drop a = q0 :: qs.drop (a + 1) ∧ qs[a]? = some q0 := ⟨_, List.drop_eq_getElem_cons (by omega), List.getElem?_eq_getElem (by omega)⟩
        obtain ⟨q0, da, qa⟩ := da
        simp only [g1, g2, g3, g4, decide_eq_true c1, qa, b1]
        by_cases c2 : q0 = p
        · subst c2
          have hd : (qs.drop (a + 1)).head? = qs[a + 1]? := List.head?_drop
          refine ⟨true, by simp, fun _ => ⟨_, rfl, by omega, by omega, ?_⟩, (fun z => by cases z)⟩
          by_cases c3 : a + 1 < w.length
          · obtain ⟨v3', y3, z3, k1, k2, k3, k4⟩ := hear (a + 1) c3
            have b2 := bat (a + 2) (by omega)
            simp only [k1, k2, k3, k4, decide_eq_true c3, b2]
            refine ⟨_, rfl, fun h => ⟨_, rfl, by omega, by omega, ?_⟩, fun h => ?_⟩
            · have h := of_decide_eq_true h
              rw [da, evsAt_cons]
              rw [hd, if_pos rfl, if_pos ⟨rfl, h⟩]
              simp [da, costE, Ev.isP, Nat.add_assoc]
            · have h := of_decide_eq_false h
              rw [da, evsAt_cons]
              rw [hd, if_pos rfl, if_neg (fun z => h z.2)]
              simp [da, costE, Ev.isP, Nat.add_assoc]
          · simp only [decide_eq_false c3]
            refine ⟨_, rfl, (fun z => by cases z), fun h => ?_⟩
            have h : qs[a + 1]? = none := List.getElem?_eq_none (by omega)
            rw [da, evsAt_cons]
            rw [hd, if_pos rfl, if_neg (fun z => by rw [h] at z; cases z.2)]
            simp [da, costE, Ev.isP, Nat.add_assoc]
        · refine ⟨false, by simp [c2], (fun z => by cases z), fun _ => ⟨true, rfl, fun _ => ⟨_, rfl, by omega, by omega, ?_⟩, (fun z => by cases z)⟩⟩
          rw [da, evsAt_cons]
          rw [if_neg c2, if_neg (fun z => c2 z.1)]
          simp [da, costE, Ev.isP, Nat.add_assoc]
      · simp only [decide_eq_false c1]
        refine ⟨false, rfl, (fun z => by cases z), fun _ => ⟨false, rfl, (fun z => by cases z), fun _ => ?_⟩⟩
        have : qs.drop a = [] := List.drop_eq_nil_iff.mpr (by omega)
        rw [this]
        simp [evsAt, this, costE, Ev.isP]
    rintro ρ' rfl
    unfold dCompP
    (simp only [TN.dCallO, TN.dCallOI, TN.dCallNO, TN.oVar, TN.sCut, TN.tgLst, TN.iK, TN.iV, TN.iLT, TN.pNew, TN.dCallN, TN.dCompI2, TN.dLAddE, TN.oD, TN.sDNew, TN.sPutD, TN.fGetO, TN.fGetO2, TN.fInO, TN.fNinO, TN.dVarD, TN.dExtS, TN.mOwn, TN.dCallM, TN.mVar, TN.sRetV, TN.dAug, TN.dCallNT, TN.dCallNL, TN.fIxTs, TN.sForI, TN.dCompI, TN.dCompL, TN.dCompT, TN.dCompR, TN.iL, TN.iT, TN.iR1, TN.iR2, TN.iR3, TN.iS, TN.iE, TN.iRv, TN.iZ, TN.dKeepT, TN.dCallT, TN.pTup, TN.pCons, TN.pOwn, TN.sAsgT, TN.sRetT, TN.tpL, TN.fIxT, TN.fTp, TN.dAppendT, TN.dReverseT, TN.dClearT, TN.dVarT, TN.dReverse, TN.dClear, TN.dPop, Pt.d, Sl.tp.injEq, TN.startF, TN.dCallV, Sl.fn.injEq, TN.dCallF, TN.dLRev, TN.dLAdd, TN.dLSlP, TN.dLSlice, TN.dSliceE, TN.dNo, TN.dEnd, TN.fNo, TN.sSeq, TN.sNext, TN.sDrop, TN.sRet, TN.sRetL, TN.sRetN, TN.sIf, TN.sAsg, TN.sAsgL, TN.sStore, TN.sForL, TN.sForT, TN.sForR, TN.sForR2, TN.tgN, TN.tgTup, TN.tgCons, TN.tgNil, TN.dP, TN.dB, TN.dCall, TN.dCallL, TN.dCallB, TN.dCallBL, TN.dCons, TN.dNil, TN.dTup, TN.dLst, TN.dKeep, TN.dVar, TN.fVar, TN.fPeek, TN.fC, TN.f2, TN.d2, TN.d2V, TN.f1, TN.d1, TN.fCB, TN.dCB, TN.dCBL, TN.fNil, TN.fCons, TN.asBool, TN.dTest, TN.bAnd, TN.bOr, TN.bNot, TN.dAnd, TN.dOr, TN.dNot, TN.fAndV, TN.fOrV, TN.fNotV, TN.dAndV, TN.dOrV, TN.dNotV, TN.dIfE, TN.dIfL, TN.fIfE, TN.fChain, TN.fSlice, TN.dSlice, TN.fNo, TN.fEnd, TN.dAppend, TN.dInsert, TN.dPopAt, TN.ownL, TN.start0, TN.begB, TN.backD, TN.wipeD, TN.dYes, TN.sNever, List.getElem?_cons_zero, List.getElem?_cons_succ, List.set_cons_zero, List.set_cons_succ, List.map_cons, List.map_nil, List.length_cons, List.length_nil, List.cons_append, List.nil_append, List.replicate_succ, List.replicate_zero, Option.map_some, Option.map_none, Nat.add_one_sub_one, Nat.sub_zero, Nat.sub_self, Nat.zero_add, reduceCtorEq, Option.some.injEq, PyData.int.injEq, PyData.str.injEq, PyData.bool.injEq, PyData.list.injEq, PyData.tuple.injEq, Sl.sh.injEq, Sl.ow.injEq, List.cons.injEq, exists_eq_left', exists_eq_left, true_implies, false_implies, and_true, true_and, forall_const, Option.isSome_some, TN.imp_ff, TN.imp_tf, TN.imp_tt, exists_eq_left, exists_eq_left', exists_eq])
    have el := evsAt_len p (qs.drop a)
    refine compP_fit (fun em : Ev × Nat => optD (fewF ss (qs.drop (a + em.2)))) (fun em => .int (costE em.1)) (fun em => .int (((fewF ss (qs.drop (a + em.2))).getD 0 : Nat) + (costE em.1 : Nat) : Int)) (fun em => (fewF ss (qs.drop (a + em.2))).isSome) rfl (fun _ _ => rfl) ?_ ?_ _ [] (by simp; omega) ?_
    · intro em R k
      (simp only [TN.dCallO, TN.dCallOI, TN.dCallNO, TN.oVar, TN.sCut, TN.tgLst, TN.iK, TN.iV, TN.iLT, TN.pNew, TN.dCallN, TN.dCompI2, TN.dLAddE, TN.oD, TN.sDNew, TN.sPutD, TN.fGetO, TN.fGetO2, TN.fInO, TN.fNinO, TN.dVarD, TN.dExtS, TN.mOwn, TN.dCallM, TN.mVar, TN.sRetV, TN.dAug, TN.dCallNT, TN.dCallNL, TN.fIxTs, TN.sForI, TN.dCompI, TN.dCompL, TN.dCompT, TN.dCompR, TN.iL, TN.iT, TN.iR1, TN.iR2, TN.iR3, TN.iS, TN.iE, TN.iRv, TN.iZ, TN.dKeepT, TN.dCallT, TN.pTup, TN.pCons, TN.pOwn, TN.sAsgT, TN.sRetT, TN.tpL, TN.fIxT, TN.fTp, TN.dAppendT, TN.dReverseT, TN.dClearT, TN.dVarT, TN.dReverse, TN.dClear, TN.dPop, Pt.d, Sl.tp.injEq, TN.startF, TN.dCallV, Sl.fn.injEq, TN.dCallF, TN.dLRev, TN.dLAdd, TN.dLSlP, TN.dLSlice, TN.dSliceE, TN.dNo, TN.dEnd, TN.fNo, TN.sSeq, TN.sNext, TN.sDrop, TN.sRet, TN.sRetL, TN.sRetN, TN.sIf, TN.sAsg, TN.sAsgL, TN.sStore, TN.sForL, TN.sForT, TN.sForR, TN.sForR2, TN.tgN, TN.tgTup, TN.tgCons, TN.tgNil, TN.dP, TN.dB, TN.dCall, TN.dCallL, TN.dCallB, TN.dCallBL, TN.dCons, TN.dNil, TN.dTup, TN.dLst, TN.dKeep, TN.dVar, TN.fVar, TN.fPeek, TN.fC, TN.f2, TN.d2, TN.d2V, TN.f1, TN.d1, TN.fCB, TN.dCB, TN.dCBL, TN.fNil, TN.fCons, TN.asBool, TN.dTest, TN.bAnd, TN.bOr, TN.bNot, TN.dAnd, TN.dOr, TN.dNot, TN.fAndV, TN.fOrV, TN.fNotV, TN.dAndV, TN.dOrV, TN.dNotV, TN.dIfE, TN.dIfL, TN.fIfE, TN.fChain, TN.fSlice, TN.dSlice, TN.fNo, TN.fEnd, TN.dAppend, TN.dInsert, TN.dPopAt, TN.ownL, TN.start0, TN.begB, TN.backD, TN.wipeD, TN.dYes, TN.sNever, List.getElem?_cons_zero, List.getElem?_cons_succ, List.set_cons_zero, List.set_cons_succ, List.map_cons, List.map_nil, List.length_cons, List.length_nil, List.cons_append, List.nil_append, List.replicate_succ, List.replicate_zero, Option.map_some, Option.map_none, Nat.add_one_sub_one, Nat.sub_zero, Nat.sub_self, Nat.zero_add, reduceCtorEq, Option.some.injEq, PyData.int.injEq, PyData.str.injEq, PyData.bool.injEq, PyData.list.injEq, PyData.tuple.injEq, Sl.sh.injEq, Sl.ow.injEq, List.cons.injEq, exists_eq_left', exists_eq_left, true_implies, false_implies, and_true, true_and, forall_const, Option.isSome_some, TN.imp_ff, TN.imp_tf, TN.imp_tt, exists_eq_left, exists_eq_left', exists_eq])
      refine ⟨_, ?_, k⟩
      cases fewF ss (qs.drop (a + em.2)) <;> rfl
    · intro em R h k
      (simp only [TN.dCallO, TN.dCallOI, TN.dCallNO, TN.oVar, TN.sCut, TN.tgLst, TN.iK, TN.iV, TN.iLT, TN.pNew, TN.dCallN, TN.dCompI2, TN.dLAddE, TN.oD, TN.sDNew, TN.sPutD, TN.fGetO, TN.fGetO2, TN.fInO, TN.fNinO, TN.dVarD, TN.dExtS, TN.mOwn, TN.dCallM, TN.mVar, TN.sRetV, TN.dAug, TN.dCallNT, TN.dCallNL, TN.fIxTs, TN.sForI, TN.dCompI, TN.dCompL, TN.dCompT, TN.dCompR, TN.iL, TN.iT, TN.iR1, TN.iR2, TN.iR3, TN.iS, TN.iE, TN.iRv, TN.iZ, TN.dKeepT, TN.dCallT, TN.pTup, TN.pCons, TN.pOwn, TN.sAsgT, TN.sRetT, TN.tpL, TN.fIxT, TN.fTp, TN.dAppendT, TN.dReverseT, TN.dClearT, TN.dVarT, TN.dReverse, TN.dClear, TN.dPop, Pt.d, Sl.tp.injEq, TN.startF, TN.dCallV, Sl.fn.injEq, TN.dCallF, TN.dLRev, TN.dLAdd, TN.dLSlP, TN.dLSlice, TN.dSliceE, TN.dNo, TN.dEnd, TN.fNo, TN.sSeq, TN.sNext, TN.sDrop, TN.sRet, TN.sRetL, TN.sRetN, TN.sIf, TN.sAsg, TN.sAsgL, TN.sStore, TN.sForL, TN.sForT, TN.sForR, TN.sForR2, TN.tgN, TN.tgTup, TN.tgCons, TN.tgNil, TN.dP, TN.dB, TN.dCall, TN.dCallL, TN.dCallB, TN.dCallBL, TN.dCons, TN.dNil, TN.dTup, TN.dLst, TN.dKeep, TN.dVar, TN.fVar, TN.fPeek, TN.fC, TN.f2, TN.d2, TN.d2V, TN.f1, TN.d1, TN.fCB, TN.dCB, TN.dCBL, TN.fNil, TN.fCons, TN.asBool, TN.dTest, TN.bAnd, TN.bOr, TN.bNot, TN.dAnd, TN.dOr, TN.dNot, TN.fAndV, TN.fOrV, TN.fNotV, TN.dAndV, TN.dOrV, TN.dNotV, TN.dIfE, TN.dIfL, TN.fIfE, TN.fChain, TN.fSlice, TN.dSlice, TN.fNo, TN.fEnd, TN.dAppend, TN.dInsert, TN.dPopAt, TN.ownL, TN.start0, TN.begB, TN.backD, TN.wipeD, TN.dYes, TN.sNever, List.getElem?_cons_zero, List.getElem?_cons_succ, List.set_cons_zero, List.set_cons_succ, List.map_cons, List.map_nil, List.length_cons, List.length_nil, List.cons_append, List.nil_append, List.replicate_succ, List.replicate_zero, Option.map_some, Option.map_none, Nat.add_one_sub_one, Nat.sub_zero, Nat.sub_self, Nat.zero_add, reduceCtorEq, Option.some.injEq, PyData.int.injEq, PyData.str.injEq, PyData.bool.injEq, PyData.list.injEq, PyData.tuple.injEq, Sl.sh.injEq, Sl.ow.injEq, List.cons.injEq, exists_eq_left', exists_eq_left, true_implies, false_implies, and_true, true_and, forall_const, Option.isSome_some, TN.imp_ff, TN.imp_tf, TN.imp_tt, exists_eq_left, exists_eq_left', exists_eq])
      refine ⟨_, ?_, k⟩
      cases h2 : fewF ss (qs.drop (a + em.2)) with
      | none => rw [h2] at h; cases h
      | some n => rfl
    rw [List.nil_append]
    have wf : waysF p (qs.drop a) (fun m => fewF ss ((qs.drop a).drop m)) = wF (fun j => fewF ss (qs.drop (a + j))) (evsAt p (qs.drop a)) := by
      unfold waysF wF
      simp only [List.drop_drop]
    have wl : ((wF (fun j => fewF ss (qs.drop (a + j))) (evsAt p (qs.drop a))).map (·.1)).length ≤ 3 := by
      rw [List.length_map]; unfold wF
      exact Nat.le_trans (List.length_filterMap_le _ _) el
    have fin : optD (minO ((wF (fun j => fewF ss (qs.drop (a + j))) (evsAt p (qs.drop a))).map (·.1))) = optD (fewF (p :: ss) (qs.drop a)) := by
      rw [← wf]; rfl
    rw [ways_filter (fun j => fewF ss (qs.drop (a + j)))]
    generalize (wF (fun j => fewF ss (qs.drop (a + j))) (evsAt p (qs.drop a))).map (·.1) = cs at fin wl
    (simp only [TN.dCallO, TN.dCallOI, TN.dCallNO, TN.oVar, TN.sCut, TN.tgLst, TN.iK, TN.iV, TN.iLT, TN.pNew, TN.dCallN, TN.dCompI2, TN.dLAddE, TN.oD, TN.sDNew, TN.sPutD, TN.fGetO, TN.fGetO2, TN.fInO, TN.fNinO, TN.dVarD, TN.dExtS, TN.mOwn, TN.dCallM, TN.mVar, TN.sRetV, TN.dAug, TN.dCallNT, TN.dCallNL, TN.fIxTs, TN.sForI, TN.dCompI, TN.dCompL, TN.dCompT, TN.dCompR, TN.iL, TN.iT, TN.iR1, TN.iR2, TN.iR3, TN.iS, TN.iE, TN.iRv, TN.iZ, TN.dKeepT, TN.dCallT, TN.pTup, TN.pCons, TN.pOwn, TN.sAsgT, TN.sRetT, TN.tpL, TN.fIxT, TN.fTp, TN.dAppendT, TN.dReverseT, TN.dClearT, TN.dVarT, TN.dReverse, TN.dClear, TN.dPop, Pt.d, Sl.tp.injEq, TN.startF, TN.dCallV, Sl.fn.injEq, TN.dCallF, TN.dLRev, TN.dLAdd, TN.dLSlP, TN.dLSlice, TN.dSliceE, TN.dNo, TN.dEnd, TN.fNo, TN.sSeq, TN.sNext, TN.sDrop, TN.sRet, TN.sRetL, TN.sRetN, TN.sIf, TN.sAsg, TN.sAsgL, TN.sStore, TN.sForL, TN.sForT, TN.sForR, TN.sForR2, TN.tgN, TN.tgTup, TN.tgCons, TN.tgNil, TN.dP, TN.dB, TN.dCall, TN.dCallL, TN.dCallB, TN.dCallBL, TN.dCons, TN.dNil, TN.dTup, TN.dLst, TN.dKeep, TN.dVar, TN.fVar, TN.fPeek, TN.fC, TN.f2, TN.d2, TN.d2V, TN.f1, TN.d1, TN.fCB, TN.dCB, TN.dCBL, TN.fNil, TN.fCons, TN.asBool, TN.dTest, TN.bAnd, TN.bOr, TN.bNot, TN.dAnd, TN.dOr, TN.dNot, TN.fAndV, TN.fOrV, TN.fNotV, TN.dAndV, TN.dOrV, TN.dNotV, TN.dIfE, TN.dIfL, TN.fIfE, TN.fChain, TN.fSlice, TN.dSlice, TN.fNo, TN.fEnd, TN.dAppend, TN.dInsert, TN.dPopAt, TN.ownL, TN.start0, TN.begB, TN.backD, TN.wipeD, TN.dYes, TN.sNever, List.getElem?_cons_zero, List.getElem?_cons_succ, List.set_cons_zero, List.set_cons_succ, List.map_cons, List.map_nil, List.length_cons, List.length_nil, List.cons_append, List.nil_append, List.replicate_succ, List.replicate_zero, Option.map_some, Option.map_none, Nat.add_one_sub_one, Nat.sub_zero, Nat.sub_self, Nat.zero_add, reduceCtorEq, Option.some.injEq, PyData.int.injEq, PyData.str.injEq, PyData.bool.injEq, PyData.list.injEq, PyData.tuple.injEq, Sl.sh.injEq, Sl.ow.injEq, List.cons.injEq, exists_eq_left', exists_eq_left, true_implies, false_implies, and_true, true_and, forall_const, Option.isSome_some, TN.imp_ff, TN.imp_tf, TN.imp_tt, exists_eq_left, exists_eq_left', exists_eq])
    have nx3 : ∀ d b10, d = optD (fewF (p :: ss) (qs.drop a)) → E2.nx [.sh (tupL r), .sh (lstL s), .sh (lstL w), .sh (.list (rowL ss qs ++ [.none, .none])), .sh (.int x), .sh (.list (RT.map tupL)), .sh (.list (RW.map tupL)), .ow (acc.map (fun a => optD (fewF (p :: ss) (qs.drop a))) ++ [d]), .sh (.int p), .sh (.int a), b10, .no, .no] := fun d b10 e => by
      subst e
      exact nx2 _ ⟨acc ++ [a], .sh (.int a), b10, by rw [List.append_assoc]; exact ea, by rw [List.map_append]; rfl⟩
    refine ⟨by omega, _, oNe_lstN (a := cs) (b := []), _, rfl, fun h => ?_, fun h => ?_⟩
    · have h : cs ≠ [] := by simpa using h
      exact ⟨_, min_ways h, by rw [List.length_map]; omega, nx3 _ _ fin⟩
    · have h : cs = [] := by simpa using h
      subst h
      exact ⟨by rw [List.length_map]; omega, nx3 _ _ fin⟩

abbrev s__law_right : Stmt := topS 35
theorem sc__law_right : FnScope ["bag", "line", "acts", "most", "faults", "near", "other", "told_letters", "notes", "act"] ["bag"] (defScope s__law_right) := ⟨rfl, rfl, rfl, by decide +kernel, rfl, by decide +kernel, by decide +kernel⟩
theorem ok__law_right (b : Blt mg) (h__law_line : Has P w K mg base "_law_line" 2 ["bag", "upto"] (spB K semLineC)) (h__law_acts : Has P w K mg base "_law_acts" 2 ["bag", "line", "most", "kinds"] (spB K semActs)) (h__law_draw : Has P w K mg base "_law_draw" 1 ["bag", "sides"] (spB K semWind)) (h__law_gone : Has P w K mg base "_law_gone" 3 ["two", "acts"] (sp0 K semGoneC)) (h__law_faults : Has P w K mg base "_law_faults" 7 ["line", "said_now", "notes"] (sp0 K semFaultsK)) (h__law_fewest : Has P w K mg base "_law_fewest" 3 ["line", "said_now", "notes"] (sp0 K semFaultsK)) (h__law_near : Has P w K mg base "_law_near" 2 ["bag", "line", "notes"] (spB K semNearK)) {f : Addr} {fd : FuncData} (F : Fun K "_law_right" "_law_right" s__law_right f fd) : FnG P w K mg base CX0 8 f fd ["bag"] (spB K semOwnBagS) := by
  refine fnB (k := 7) F sc__law_right (fun xs ds Q h => by obtain ⟨n, _, _, rfl, _⟩ := h; rfl) (fun cdv A outer s H E hg hr =>
    have nd := sc__law_right.nd
    have hu := hr.units
    have hu1 := hu_of hr
    (pss_cons (ps_set (i := 1) nd rfl (by first | exact Or.inl rfl | exact Or.inr rfl) (pe_has (h__law_line.up (by decide)) hg hr (by rfl) (pa_cons (pv 0) (pa_cons pe_int pa_nil))))
 (pss_cons (ps_set (i := 2) nd rfl (by first | exact Or.inl rfl | exact Or.inr rfl) (pe_has (h__law_acts.up (by decide)) hg hr (by rfl) (pa_cons (pv 0) (pa_cons (pv 1) (pa_cons pe_int (pa_cons (pe_ix ix_seq (pe_lst (pa_cons (pe_lst (pa_cons pe_str (pa_cons pe_str (pa_cons pe_str pa_nil)))) (pa_cons (pe_lst (pa_cons pe_str (pa_cons pe_str pa_nil))) pa_nil))) (pe_has (h__law_draw.up (by decide)) hg hr (by rfl) (pa_cons (pv 0) (pa_cons pe_int pa_nil))) (fun _ _ => rfl)) pa_nil))))))
 (pss_cons (ps_asg (pe_slice sl_U (pe_has (h__law_gone.up (by decide)) hg hr (by rfl) (pa_cons (pe_tupX (pa_cons (pv 1) (pa_cons (pv 1) pa_nil))) (pa_cons (pv 2) pa_nil))) (po_some pe_int) po_none) (pg_tup (n := 2) rfl (pgs_cons (pg_name (i := 7) nd rfl (by first | exact Or.inl rfl | exact Or.inr rfl)) (pgs_cons (pg_name (i := 8) nd rfl (by first | exact Or.inl rfl | exact Or.inr rfl)) pgs_nil))))
 (pss_cons (ps_set (i := 3) nd rfl (by first | exact Or.inl rfl | exact Or.inr rfl) (pe_callB call_len (by rfl) b.len (by decide +kernel) (pa_cons (pe_lc (own := [("act", 9)]) (g := gName 9) rfl nd (pi_list (pv 2)) (blkOk_by (own := [("act", 9)]) (N := ["bag", "line", "acts", "most", "faults", "near", "other", "told_letters", "notes", "act"]) (sc := defScope s__law_right) (by decide +kernel)) (fun _ _ _ _ _ => pg_name (i := 9) nd rfl (by first | exact Or.inl rfl | exact Or.inr rfl)) (fun _ _ _ _ _ => by exact (pts_one (pt_cmpR (op_neD hu) (pe_ix ix_seq (pv 9) pe_int (fun _ _ => rfl)) pe_str (nomark _)))) (fun _ _ _ _ _ => by exact (pv 9))) pa_nil)))
 (pss_cons (ps_set (i := 4) nd rfl (by first | exact Or.inl rfl | exact Or.inr rfl) (pe_has (h__law_faults.up (by decide)) hg hr (by rfl) (pa_cons (pv 1) (pa_cons (pv 7) (pa_cons (pv 8) pa_nil)))))
 (pss_cons (ps_if (PW.pt (pw_or (pt_cmpR op_isN1 (pv 4) pe_non (nomark _)) (pw_or1 (pt_not (pt_chain op_leU op_leU (pe_callB call_abs (by rfl) b.abs (by decide +kernel) (pa_cons (pe_op op_sub (pe_callB call_len (by rfl) b.len (by decide +kernel) (pa_cons (pv 7) pa_nil)) (pe_callB call_len (by rfl) b.len (by decide +kernel) (pa_cons (pv 8) pa_nil))) pa_nil)) (pv 4) (pv 3)))))) (pss_one (ps_ret pe_bl)) pss_nil)
 (pss_cons (ps_if (pt_cmpR (op_neD hu) (pv 4) (pe_has (h__law_fewest.up (by decide)) hg hr (by rfl) (pa_cons (pv 1) (pa_cons (pv 7) (pa_cons (pv 8) pa_nil)))) (nomark _)) (pss_one (ps_ret pe_bl)) pss_nil)
 (pss_cons (ps_if (PW.pt (pw_or (pt_cmpR (op_neD hu) (pe_has (h__law_faults.up (by decide)) hg hr (by rfl) (pa_cons (pv 1) (pa_cons (pv 7) (pa_cons (pv 7) pa_nil)))) pe_int (nomark _)) (pw_or1 (pt_cmpR (op_neD hu) (pe_cmpR (op_eqD hu) (pv 4) pe_int (nomark _)) (pe_cmpR (op_eqD hu) (pv 7) (pv 8) (nomark _)) (nomark _))))) (pss_one (ps_ret pe_bl)) pss_nil)
 (pss_cons (ps_set (i := 5) nd rfl (by first | exact Or.inl rfl | exact Or.inr rfl) (pe_has (h__law_near.up (by decide)) hg hr (by rfl) (pa_cons (pv 0) (pa_cons (pv 1) (pa_cons (pv 8) pa_nil)))))
 (pss_cons (ps_set (i := 6) nd rfl (by first | exact Or.inl rfl | exact Or.inr rfl) (pe_has (h__law_faults.up (by decide)) hg hr (by rfl) (pa_cons (pv 1) (pa_cons (pv 7) (pa_cons (pv 5) pa_nil)))))
 (pss_cons (ps_if (pt_cmpR op_leU (pe_callB call_len (by rfl) b.len (by decide +kernel) (pa_cons (pv 5) pa_nil)) (pe_callB call_len (by rfl) b.len (by decide +kernel) (pa_cons (pv 7) pa_nil)) (nomark _)) (pss_one (ps_if (PW.pt (pw_or (pt_cmpR op_isN1 (pv 6) pe_non (nomark _)) (pw_or1 (pt_cmpR op_ltU (pv 6) (pe_callB call_abs (by rfl) b.abs (by decide +kernel) (pa_cons (pe_op op_sub (pe_callB call_len (by rfl) b.len (by decide +kernel) (pa_cons (pv 7) pa_nil)) (pe_callB call_len (by rfl) b.len (by decide +kernel) (pa_cons (pv 5) pa_nil))) pa_nil)) (nomark _))))) (pss_one (ps_ret pe_bl)) pss_nil)) pss_nil)
 (pss_one (ps_ret (pe_cmpR (op_eqD hu) (pv 6) (pe_has (h__law_fewest.up (by decide)) hg hr (by rfl) (pa_cons (pv 1) (pa_cons (pv 7) (pa_cons (pv 5) pa_nil)))) (nomark _))))))))))))))))
    (ls_seq (ls_asg (le_callB (j := 0) (les_cons (LP.e lp_int) les_nil)) (lg_name (i := 1) (by decide)))
 (ls_seq (ls_asg (LL.e (ll_callB (j := 0) (les_cons (LP.e (lp_var (i := 1))) (les_cons (LP.e lp_int) (les_cons (le_op (LL.e (ll_lst (les_cons (LL.e (ll_lst (les_cons (LP.e lp_str) (les_cons (LP.e lp_str) (les_cons (LP.e lp_str) les_nil))))) (les_cons (LL.e (ll_lst (les_cons (LP.e lp_str) (les_cons (LP.e lp_str) les_nil)))) les_nil)))) (le_callB (j := 0) (les_cons (LP.e lp_int) les_nil)) rb_ix) les_nil))))) (lg_name (i := 2) (by decide)))
 (ls_seq (ls_asg (le_slice (le_call (les_cons (le_tup (les_cons (LP.e (lp_var (i := 1))) (les_cons (LP.e (lp_var (i := 1))) les_nil))) (les_cons (LP.e (lp_var (i := 2))) les_nil))) (lo_some (LP.m lp_int)) lo_none) (lg_tup (lgs_cons (lg_name (i := 7) (by decide)) (lgs_cons (lg_name (i := 8) (by decide)) lgs_nil))))
 (ls_seq (ls_asg (le_cb (les_cons (LL.e (ll_compL (j := 9) (vs := [9]) (by decide) (by decide) (LP.e (lp_var (i := 2))) (LB.g (lb_test (LP.m (lp_op (LP.m (lp_op (LP.m (lp_var (i := 9))) (LP.m lp_int) rb_ix)) (LP.m lp_str) rb_ne)))) (LP.e (lp_var (i := 9))))) les_nil) rc_len) (lg_name (i := 3) (by decide)))
 (ls_seq (ls_asg (le_call (les_cons (LP.e (lp_var (i := 1))) (les_cons (LP.e (lp_var (i := 7))) (les_cons (LP.e (lp_var (i := 8))) les_nil)))) (lg_name (i := 4) (by decide)))
 (ls_seq (ls_if (LB.g (lb_or (lb_test (LP.m (lp_op (LP.m (lp_var (i := 4))) (LP.m lp_non) rb_isN))) (lb_not (lb_test (LP.m (lp_chain (LP.m (lp_cb (lms_cons (LP.m (lp_op (LP.m (lp_cb (lms_cons (LP.m (lp_var (i := 7))) lms_nil) rc_len)) (LP.m (lp_cb (lms_cons (LP.m (lp_var (i := 8))) lms_nil) rc_len)) rb_sub)) lms_nil) rc_abs)) (LP.m (lp_var (i := 4))) (LP.m (lp_var (i := 3))) rb_U rb_U)))))) (ls_ret (LP.e lp_bl)) ls_next)
 (ls_seq (ls_if (lt_test (le_op (LP.e (lp_var (i := 4))) (le_call (les_cons (LP.e (lp_var (i := 1))) (les_cons (LP.e (lp_var (i := 7))) (les_cons (LP.e (lp_var (i := 8))) les_nil)))) rb_ne)) (ls_ret (LP.e lp_bl)) ls_next)
 (ls_seq (ls_if (lt_or (lt_test (le_op (le_call (les_cons (LP.e (lp_var (i := 1))) (les_cons (LP.e (lp_var (i := 7))) (les_cons (LP.e (lp_var (i := 7))) les_nil)))) (LP.e lp_int) rb_ne)) (LB.g (lb_test (LP.m (lp_op (LP.m (lp_op (LP.m (lp_var (i := 4))) (LP.m lp_int) rb_eq)) (LP.m (lp_op (LP.m (lp_var (i := 7))) (LP.m (lp_var (i := 8))) rb_eq)) rb_ne))))) (ls_ret (LP.e lp_bl)) ls_next)
 (ls_seq (ls_asg (LL.e (ll_callB (j := 0) (les_cons (LP.e (lp_var (i := 1))) (les_cons (LP.e (lp_var (i := 8))) les_nil)))) (lg_name (i := 5) (by decide)))
 (ls_seq (ls_asg (le_call (les_cons (LP.e (lp_var (i := 1))) (les_cons (LP.e (lp_var (i := 7))) (les_cons (LP.e (lp_var (i := 5))) les_nil)))) (lg_name (i := 6) (by decide)))
 (ls_seq (ls_if (LB.g (lb_test (LP.m (lp_op (LP.m (lp_cb (lms_cons (LP.m (lp_var (i := 5))) lms_nil) rc_len)) (LP.m (lp_cb (lms_cons (LP.m (lp_var (i := 7))) lms_nil) rc_len)) rb_U)))) (ls_if (LB.g (lb_or (lb_test (LP.m (lp_op (LP.m (lp_var (i := 6))) (LP.m lp_non) rb_isN))) (lb_test (LP.m (lp_op (LP.m (lp_var (i := 6))) (LP.m (lp_cb (lms_cons (LP.m (lp_op (LP.m (lp_cb (lms_cons (LP.m (lp_var (i := 7))) lms_nil) rc_len)) (LP.m (lp_cb (lms_cons (LP.m (lp_var (i := 5))) lms_nil) rc_len)) rb_sub)) lms_nil) rc_abs)) rb_U))))) (ls_ret (LP.e lp_bl)) ls_next) ls_next)
 (ls_ret (le_op (LP.e (lp_var (i := 6))) (le_call (les_cons (LP.e (lp_var (i := 1))) (les_cons (LP.e (lp_var (i := 7))) (les_cons (LP.e (lp_var (i := 5))) les_nil)))) rb_eq))))))))))))) ?_
  rintro xs ds Q ⟨n, sp, hn, rfl, q⟩
  have hb : n + 1000000 ≤ 1000000000000 := hn
  (simp only [TN.dCallO, TN.dCallOI, TN.dCallNO, TN.oVar, TN.sCut, TN.tgLst, TN.iK, TN.iV, TN.iLT, TN.pNew, TN.dCallN, TN.dCompI2, TN.dLAddE, TN.oD, TN.sDNew, TN.sPutD, TN.fGetO, TN.fGetO2, TN.fInO, TN.fNinO, TN.dVarD, TN.dExtS, TN.mOwn, TN.dCallM, TN.mVar, TN.sRetV, TN.dAug, TN.dCallNT, TN.dCallNL, TN.fIxTs, TN.sForI, TN.dCompI, TN.dCompL, TN.dCompT, TN.dCompR, TN.iL, TN.iT, TN.iR1, TN.iR2, TN.iR3, TN.iS, TN.iE, TN.iRv, TN.iZ, TN.dKeepT, TN.dCallT, TN.pTup, TN.pCons, TN.pOwn, TN.sAsgT, TN.sRetT, TN.tpL, TN.fIxT, TN.fTp, TN.dAppendT, TN.dReverseT, TN.dClearT, TN.dVarT, TN.dReverse, TN.dClear, TN.dPop, Pt.d, Sl.tp.injEq, TN.startF, TN.dCallV, Sl.fn.injEq, TN.dCallF, TN.dLRev, TN.dLAdd, TN.dLSlP, TN.dLSlice, TN.dSliceE, TN.dNo, TN.dEnd, TN.fNo, TN.sSeq, TN.sNext, TN.sDrop, TN.sRet, TN.sRetL, TN.sRetN, TN.sIf, TN.sAsg, TN.sAsgL, TN.sStore, TN.sForL, TN.sForT, TN.sForR, TN.sForR2, TN.tgN, TN.tgTup, TN.tgCons, TN.tgNil, TN.dP, TN.dB, TN.dCall, TN.dCallL, TN.dCallB, TN.dCallBL, TN.dCons, TN.dNil, TN.dTup, TN.dLst, TN.dKeep, TN.dVar, TN.fVar, TN.fPeek, TN.fC, TN.f2, TN.d2, TN.d2V, TN.f1, TN.d1, TN.fCB, TN.dCB, TN.dCBL, TN.fNil, TN.fCons, TN.asBool, TN.dTest, TN.bAnd, TN.bOr, TN.bNot, TN.dAnd, TN.dOr, TN.dNot, TN.fAndV, TN.fOrV, TN.fNotV, TN.dAndV, TN.dOrV, TN.dNotV, TN.dIfE, TN.dIfL, TN.fIfE, TN.fChain, TN.fSlice, TN.dSlice, TN.fNo, TN.fEnd, TN.dAppend, TN.dInsert, TN.dPopAt, TN.ownL, TN.start0, TN.begB, TN.backD, TN.wipeD, TN.dYes, TN.sNever, List.getElem?_cons_zero, List.getElem?_cons_succ, List.set_cons_zero, List.set_cons_succ, List.map_cons, List.map_nil, List.length_cons, List.length_nil, List.cons_append, List.nil_append, List.replicate_succ, List.replicate_zero, Option.map_some, Option.map_none, Nat.add_one_sub_one, Nat.sub_zero, Nat.sub_self, Nat.zero_add, reduceCtorEq, Option.some.injEq, PyData.int.injEq, PyData.str.injEq, PyData.bool.injEq, PyData.list.injEq, PyData.tuple.injEq, Sl.sh.injEq, Sl.ow.injEq, List.cons.injEq, exists_eq_left', exists_eq_left, true_implies, false_implies, and_true, true_and, forall_const, Option.isSome_some, TN.imp_ff, TN.imp_tf, TN.imp_tt, exists_eq_left, exists_eq_left', exists_eq])
  refine ⟨n, 16, sp, by show _ ≤ (1000000000000 : Int); omega, rfl, by omega, by omega, fun r ys gr rl sp1 => ⟨_, rfl, by omega, by omega, by omega, ?_⟩⟩
  refine windN sp1 (by show _ ≤ (1000000000000 : Int); omega) (by omega) (by omega) fun c ys2 hc sp2 => ⟨_, rfl, ?_⟩
  obtain ⟨ks, hk, k0, kw⟩ : ∃ ks : List Str, oIx (.list [.list [.str (Str.ofString "lost"), .str (Str.ofString "twice"), .str (Str.ofString "as")], .list [.str (Str.ofString "lost"), .str (Str.ofString "as")]]) (.int c) = some (lstL ks) ∧ (ks = (["lost", "twice", "as"] : List Str) ∨ ks = (["lost", "as"] : List Str)) ∧ ∀ k ∈ ks, k ∈ (["lost", "twice", "as"] : List Str) := by
    have : c = 0 ∨ c = 1 := by omega
    rcases this with rfl | rfl
    · exact ⟨["lost", "twice", "as"], rfl, .inl rfl, fun k h => h⟩
    · refine ⟨["lost", "as"], rfl, .inr rfl, by decide⟩
  refine ⟨_, hk, _, 22, r, ks, sp2, by show _ ≤ (1000000000000 : Int); omega, rfl, by omega, by omega, gr, by rcases k0 with rfl | rfl <;> decide, by rcases k0 with rfl | rfl <;> decide, ?_⟩
  intro es ys3 okE el sp3
  have gp0 : GPair r r := ⟨gr, gr, .refl _⟩
  have un : ∀ e ∈ es, e.ok r ∧ e.un := fun e he => ⟨(okE e he).1, kind_un ((okE e he).2.imp (kw _) id)⟩
  have ok : ∀ e ∈ es, e.ok r := fun e he => (okE e he).1
  have lT := runT_len es r
  have lH := runH_two es r
  have pT := runT_ok es r ok
  have pH := runH_ok es r ok
  refine ⟨_, rfl, by omega, r, r, es, rfl, gp0, by omega, ok, _, rfl, _, _, _, rfl, rfl, slice1, _, rfl, rfl, _, _, rfl, _, _, rfl, rfl, ?_⟩
  have tt := hist_few gr un
  obtain ⟨k, hf, hk⟩ := few_le tt
  generalize (runT r es).2 = s at lT pT hf tt ⊢
  generalize (runH r es).2 = w at lH pH hf tt ⊢
  have hs := pT.2
  have hw := pH.2
  refine comp_fil Ev.d Ev.d (fun e => !e.isP) (fun _ => True) rfl (fun _ => rfl) ?_ ?_ es [] (fun _ _ => trivial) (by simp; omega) ?_
  · intro e R _ kk
    (simp only [TN.dCallO, TN.dCallOI, TN.dCallNO, TN.oVar, TN.sCut, TN.tgLst, TN.iK, TN.iV, TN.iLT, TN.pNew, TN.dCallN, TN.dCompI2, TN.dLAddE, TN.oD, TN.sDNew, TN.sPutD, TN.fGetO, TN.fGetO2, TN.fInO, TN.fNinO, TN.dVarD, TN.dExtS, TN.mOwn, TN.dCallM, TN.mVar, TN.sRetV, TN.dAug, TN.dCallNT, TN.dCallNL, TN.fIxTs, TN.sForI, TN.dCompI, TN.dCompL, TN.dCompT, TN.dCompR, TN.iL, TN.iT, TN.iR1, TN.iR2, TN.iR3, TN.iS, TN.iE, TN.iRv, TN.iZ, TN.dKeepT, TN.dCallT, TN.pTup, TN.pCons, TN.pOwn, TN.sAsgT, TN.sRetT, TN.tpL, TN.fIxT, TN.fTp, TN.dAppendT, TN.dReverseT, TN.dClearT, TN.dVarT, TN.dReverse, TN.dClear, TN.dPop, Pt.d, Sl.tp.injEq, TN.startF, TN.dCallV, Sl.fn.injEq, TN.dCallF, TN.dLRev, TN.dLAdd, TN.dLSlP, TN.dLSlice, TN.dSliceE, TN.dNo, TN.dEnd, TN.fNo, TN.sSeq, TN.sNext, TN.sDrop, TN.sRet, TN.sRetL, TN.sRetN, TN.sIf, TN.sAsg, TN.sAsgL, TN.sStore, TN.sForL, TN.sForT, TN.sForR, TN.sForR2, TN.tgN, TN.tgTup, TN.tgCons, TN.tgNil, TN.dP, TN.dB, TN.dCall, TN.dCallL, TN.dCallB, TN.dCallBL, TN.dCons, TN.dNil, TN.dTup, TN.dLst, TN.dKeep, TN.dVar, TN.fVar, TN.fPeek, TN.fC, TN.f2, TN.d2, TN.d2V, TN.f1, TN.d1, TN.fCB, TN.dCB, TN.dCBL, TN.fNil, TN.fCons, TN.asBool, TN.dTest, TN.bAnd, TN.bOr, TN.bNot, TN.dAnd, TN.dOr, TN.dNot, TN.fAndV, TN.fOrV, TN.fNotV, TN.dAndV, TN.dOrV, TN.dNotV, TN.dIfE, TN.dIfL, TN.fIfE, TN.fChain, TN.fSlice, TN.dSlice, TN.fNo, TN.fEnd, TN.dAppend, TN.dInsert, TN.dPopAt, TN.ownL, TN.start0, TN.begB, TN.backD, TN.wipeD, TN.dYes, TN.sNever, List.getElem?_cons_zero, List.getElem?_cons_succ, List.set_cons_zero, List.set_cons_succ, List.map_cons, List.map_nil, List.length_cons, List.length_nil, List.cons_append, List.nil_append, List.replicate_succ, List.replicate_zero, Option.map_some, Option.map_none, Nat.add_one_sub_one, Nat.sub_zero, Nat.sub_self, Nat.zero_add, reduceCtorEq, Option.some.injEq, PyData.int.injEq, PyData.str.injEq, PyData.bool.injEq, PyData.list.injEq, PyData.tuple.injEq, Sl.sh.injEq, Sl.ow.injEq, List.cons.injEq, exists_eq_left', exists_eq_left, true_implies, false_implies, and_true, true_and, forall_const, Option.isSome_some, TN.imp_ff, TN.imp_tf, TN.imp_tt, exists_eq_left, exists_eq_left', exists_eq])
    obtain ⟨w, e1, e2⟩ := ev_fault e
    simp only [e1, e2]
    exact ⟨_, rfl, kk⟩
  · intro e R _ kk
    (simp only [TN.dCallO, TN.dCallOI, TN.dCallNO, TN.oVar, TN.sCut, TN.tgLst, TN.iK, TN.iV, TN.iLT, TN.pNew, TN.dCallN, TN.dCompI2, TN.dLAddE, TN.oD, TN.sDNew, TN.sPutD, TN.fGetO, TN.fGetO2, TN.fInO, TN.fNinO, TN.dVarD, TN.dExtS, TN.mOwn, TN.dCallM, TN.mVar, TN.sRetV, TN.dAug, TN.dCallNT, TN.dCallNL, TN.fIxTs, TN.sForI, TN.dCompI, TN.dCompL, TN.dCompT, TN.dCompR, TN.iL, TN.iT, TN.iR1, TN.iR2, TN.iR3, TN.iS, TN.iE, TN.iRv, TN.iZ, TN.dKeepT, TN.dCallT, TN.pTup, TN.pCons, TN.pOwn, TN.sAsgT, TN.sRetT, TN.tpL, TN.fIxT, TN.fTp, TN.dAppendT, TN.dReverseT, TN.dClearT, TN.dVarT, TN.dReverse, TN.dClear, TN.dPop, Pt.d, Sl.tp.injEq, TN.startF, TN.dCallV, Sl.fn.injEq, TN.dCallF, TN.dLRev, TN.dLAdd, TN.dLSlP, TN.dLSlice, TN.dSliceE, TN.dNo, TN.dEnd, TN.fNo, TN.sSeq, TN.sNext, TN.sDrop, TN.sRet, TN.sRetL, TN.sRetN, TN.sIf, TN.sAsg, TN.sAsgL, TN.sStore, TN.sForL, TN.sForT, TN.sForR, TN.sForR2, TN.tgN, TN.tgTup, TN.tgCons, TN.tgNil, TN.dP, TN.dB, TN.dCall, TN.dCallL, TN.dCallB, TN.dCallBL, TN.dCons, TN.dNil, TN.dTup, TN.dLst, TN.dKeep, TN.dVar, TN.fVar, TN.fPeek, TN.fC, TN.f2, TN.d2, TN.d2V, TN.f1, TN.d1, TN.fCB, TN.dCB, TN.dCBL, TN.fNil, TN.fCons, TN.asBool, TN.dTest, TN.bAnd, TN.bOr, TN.bNot, TN.dAnd, TN.dOr, TN.dNot, TN.fAndV, TN.fOrV, TN.fNotV, TN.dAndV, TN.dOrV, TN.dNotV, TN.dIfE, TN.dIfL, TN.fIfE, TN.fChain, TN.fSlice, TN.dSlice, TN.fNo, TN.fEnd, TN.dAppend, TN.dInsert, TN.dPopAt, TN.ownL, TN.start0, TN.begB, TN.backD, TN.wipeD, TN.dYes, TN.sNever, List.getElem?_cons_zero, List.getElem?_cons_succ, List.set_cons_zero, List.set_cons_succ, List.map_cons, List.map_nil, List.length_cons, List.length_nil, List.cons_append, List.nil_append, List.replicate_succ, List.replicate_zero, Option.map_some, Option.map_none, Nat.add_one_sub_one, Nat.sub_zero, Nat.sub_self, Nat.zero_add, reduceCtorEq, Option.some.injEq, PyData.int.injEq, PyData.str.injEq, PyData.bool.injEq, PyData.list.injEq, PyData.tuple.injEq, Sl.sh.injEq, Sl.ow.injEq, List.cons.injEq, exists_eq_left', exists_eq_left, true_implies, false_implies, and_true, true_and, forall_const, Option.isSome_some, TN.imp_ff, TN.imp_tf, TN.imp_tt, exists_eq_left, exists_eq_left', exists_eq])
    exact kk
  rw [List.nil_append]
  have ol : oLen [.list ((es.filter fun e => !e.isP).map Ev.d)] = some (.int (faultsE es : Nat)) := by show some (PyData.int ((es.filter fun e => !e.isP).map Ev.d).length) = _; rw [List.length_map, faults_filter]
  (simp only [TN.dCallO, TN.dCallOI, TN.dCallNO, TN.oVar, TN.sCut, TN.tgLst, TN.iK, TN.iV, TN.iLT, TN.pNew, TN.dCallN, TN.dCompI2, TN.dLAddE, TN.oD, TN.sDNew, TN.sPutD, TN.fGetO, TN.fGetO2, TN.fInO, TN.fNinO, TN.dVarD, TN.dExtS, TN.mOwn, TN.dCallM, TN.mVar, TN.sRetV, TN.dAug, TN.dCallNT, TN.dCallNL, TN.fIxTs, TN.sForI, TN.dCompI, TN.dCompL, TN.dCompT, TN.dCompR, TN.iL, TN.iT, TN.iR1, TN.iR2, TN.iR3, TN.iS, TN.iE, TN.iRv, TN.iZ, TN.dKeepT, TN.dCallT, TN.pTup, TN.pCons, TN.pOwn, TN.sAsgT, TN.sRetT, TN.tpL, TN.fIxT, TN.fTp, TN.dAppendT, TN.dReverseT, TN.dClearT, TN.dVarT, TN.dReverse, TN.dClear, TN.dPop, Pt.d, Sl.tp.injEq, TN.startF, TN.dCallV, Sl.fn.injEq, TN.dCallF, TN.dLRev, TN.dLAdd, TN.dLSlP, TN.dLSlice, TN.dSliceE, TN.dNo, TN.dEnd, TN.fNo, TN.sSeq, TN.sNext, TN.sDrop, TN.sRet, TN.sRetL, TN.sRetN, TN.sIf, TN.sAsg, TN.sAsgL, TN.sStore, TN.sForL, TN.sForT, TN.sForR, TN.sForR2, TN.tgN, TN.tgTup, TN.tgCons, TN.tgNil, TN.dP, TN.dB, TN.dCall, TN.dCallL, TN.dCallB, TN.dCallBL, TN.dCons, TN.dNil, TN.dTup, TN.dLst, TN.dKeep, TN.dVar, TN.fVar, TN.fPeek, TN.fC, TN.f2, TN.d2, TN.d2V, TN.f1, TN.d1, TN.fCB, TN.dCB, TN.dCBL, TN.fNil, TN.fCons, TN.asBool, TN.dTest, TN.bAnd, TN.bOr, TN.bNot, TN.dAnd, TN.dOr, TN.dNot, TN.fAndV, TN.fOrV, TN.fNotV, TN.dAndV, TN.dOrV, TN.dNotV, TN.dIfE, TN.dIfL, TN.fIfE, TN.fChain, TN.fSlice, TN.dSlice, TN.fNo, TN.fEnd, TN.dAppend, TN.dInsert, TN.dPopAt, TN.ownL, TN.start0, TN.begB, TN.backD, TN.wipeD, TN.dYes, TN.sNever, List.getElem?_cons_zero, List.getElem?_cons_succ, List.set_cons_zero, List.set_cons_succ, List.map_cons, List.map_nil, List.length_cons, List.length_nil, List.cons_append, List.nil_append, List.replicate_succ, List.replicate_zero, Option.map_some, Option.map_none, Nat.add_one_sub_one, Nat.sub_zero, Nat.sub_self, Nat.zero_add, reduceCtorEq, Option.some.injEq, PyData.int.injEq, PyData.str.injEq, PyData.bool.injEq, PyData.list.injEq, PyData.tuple.injEq, Sl.sh.injEq, Sl.ow.injEq, List.cons.injEq, exists_eq_left', exists_eq_left, true_implies, false_implies, and_true, true_and, forall_const, Option.isSome_some, TN.imp_ff, TN.imp_tf, TN.imp_tt, exists_eq_left, exists_eq_left', exists_eq])
  rw [ol]
  have df := few_diff hf
  rw [placesL_len, placesL_len] at df
  have hd : ∀ k, optD (some k) = .int (k : Nat) := fun _ => rfl
  have oa : ∀ i, oAbs [.int i] = some (.int (if i < 0 then -i else i)) := fun _ => rfl
  have leI : ∀ i j : Int, oU (fun i j => decide (i ≤ j)) (fun i j => !decide (j.cps.toList < i.cps.toList)) (.int i) (.int j) = some (.bool (decide (i ≤ j))) := fun _ _ => rfl
  have ltI : ∀ i j : Int, oU (fun i j => decide (i < j)) (fun i j => decide (i.cps.toList < j.cps.toList)) (.int i) (.int j) = some (.bool (decide (i < j))) := fun _ _ => rfl
  have nI : ∀ i : Int, oIsNone false (.int i) .none = some (.bool false) := fun _ => rfl
  have o1 : ∀ x ∈ s, okS x := fun x hx => gr.oks x (hs x hx)
  have o2 : ∀ x ∈ w, okS x := fun x hx => gr.oks x (hw x hx)
  refine ⟨_, rfl, r, s, w, rfl, gr, hs, hw, by omega, by omega, ?_⟩
  rw [hf, hd]
  have dA : decide ((if (s.length : Int) - (w.length : Int) < 0 then -((s.length : Int) - (w.length : Int)) else (s.length : Int) - (w.length : Int)) ≤ (k : Int)) = true := decide_eq_true (by split <;> omega)
  have dB : decide ((k : Int) ≤ (faultsE es : Int)) = true := decide_eq_true (by omega)
  refine ⟨_, rfl, false, by simp only [oLen_lstL, oSub_int, oa, leI, dA, dB, nI]; rfl, (fun z => by cases z), fun _ => ⟨r, s, w, rfl, gr, hs, hw, by omega, by omega, ?_⟩⟩
  rw [hf, hd]
  refine ⟨_, rfl, _, oNe_int, false, by simp, (fun z => by cases z), fun _ => ⟨r, s, s, rfl, gr, hs, hs, by omega, by omega, ?_⟩⟩
  rw [few_self, hd]
  have zz : decide (decide ((k : Int) = 0) = decide (s = w)) = true := by
    refine decide_eq_true (decide_eq_decide.mpr ?_)
    rw [← placesL_inj gr.nd hs hw, ← few_zero, hf]
    constructor
    · intro h; rw [Int.natCast_eq_zero.mp h]
    · intro h; injection h with h; rw [h]; rfl
  refine ⟨_, rfl, _, oNe_int, false, by simp, (fun z => by cases z), fun _ => ⟨false, by simp only [oEq_int, oEq_lstL o1 o2, oNe_bl, zz]; rfl, (fun z => by cases z), fun _ => ?_⟩⟩
  refine ⟨_, r, w, sp3, by show _ ≤ (1000000000000 : Int); omega, rfl, gr, hw, by omega, fun v ys4 hv lv sp4 => ⟨_, rfl, r, s, v, rfl, gr, hs, hv, by omega, by omega, ?_⟩⟩
  have ov : ∀ x ∈ v, okS x := fun x hx => gr.oks x (hv x hx)
  have lL : oLen [.list (v.map PyData.str)] = some (.int v.length) := oLen_lstL
  have fin : semFaultsK [tupL r, lstL s, .list (v.map PyData.str)] fun r_1 => ∃ d_1, r_1 = Sl.sh d_1 ∧ ∃ z, oEq (optD (fewF (placesL r s) (placesL r v))) d_1 = some z ∧ Q (Sl.sh z) ys4 := by
    refine ⟨r, s, v, rfl, gr, hs, hv, by omega, by omega, _, rfl, .bool true, ?_, q _ (sp4.up (by omega))⟩
    cases fewF (placesL r s) (placesL r v) with
    | none => exact oEq_self .none
    | some n => exact oEq_self (.int _)
  refine ⟨_, rfl, ?_⟩
  simp only [lL, oLen_lstL, leI, oSub_int, oa]
  refine ⟨_, rfl, fun h => ?_, fun _ => fin⟩
  have h : (v.length : Int) ≤ s.length := of_decide_eq_true h
  obtain ⟨es2, t2⟩ := tells_ex (ps := placesL r s) (qs := placesL r v) (by rw [placesL_len, placesL_len]; omega)
  obtain ⟨k2, hf2, _⟩ := few_le t2
  have df2 := few_diff hf2
  rw [placesL_len, placesL_len] at df2
  have dC : decide ((k2 : Int) < (if (s.length : Int) - (v.length : Int) < 0 then -((s.length : Int) - (v.length : Int)) else (s.length : Int) - (v.length : Int))) = false := decide_eq_false (by split <;> omega)
  rw [hf2, hd] at fin ⊢
  exact ⟨false, by simp only [nI, ltI, dC], (fun z => by cases z), fun _ => fin⟩

abbrev s__law_far_right : Stmt := topS 36
theorem sc__law_far_right : FnScope ["bag", "line", "said_now", "due", "now", "one", "doubled", "told_letters", "notes", "k"] ["bag"] (defScope s__law_far_right) := ⟨rfl, rfl, rfl, by decide +kernel, rfl, by decide +kernel, by decide +kernel⟩
theorem ok__law_far_right (b : Blt mg) (h__law_line : Has P w K mg base "_law_line" 2 ["bag", "upto"] (spB K semLineC)) (h__law_draw : Has P w K mg base "_law_draw" 1 ["bag", "sides"] (spB K semWind)) (h__law_front : Has P w K mg base "_law_front" 1 ["line", "spot"] (sp0 K semFront)) (h_explained : Has P w K mg base "explained" 6 ["row", "said", "written"] (sp0 K semExplained)) (h__law_gone : Has P w K mg base "_law_gone" 3 ["two", "acts"] (sp0 K semGoneC)) (h__law_faults : Has P w K mg base "_law_faults" 7 ["line", "said_now", "notes"] (sp0 K semFaultsK)) {f : Addr} {fd : FuncData} (F : Fun K "_law_far_right" "_law_far_right" s__law_far_right f fd) : FnG P w K mg base CX0 8 f fd ["bag"] (spB K semOwnBag) := by
  refine fnB (k := 7) F sc__law_far_right (fun xs ds Q h => by obtain ⟨n, _, _, rfl, _⟩ := h; rfl) (fun cdv A outer s H E hg hr =>
    have nd := sc__law_far_right.nd
    have hu := hr.units
    have hu1 := hu_of hr
    (pss_cons (ps_set (i := 1) nd rfl (by first | exact Or.inl rfl | exact Or.inr rfl) (pe_has (h__law_line.up (by decide)) hg hr (by rfl) (pa_cons (pv 0) (pa_cons pe_int pa_nil))))
 (pss_cons (ps_setLc (i := 2) (own := [("k", 9)]) (g := gName 9) (tt := tYes) rfl nd rfl rfl (sw_true rfl rfl rfl (by decide +kernel)) (pi_range1 (by rfl) b.range (pa_cons (pe_has (h__law_draw.up (by decide)) hg hr (by rfl) (pa_cons (pv 0) (pa_cons pe_int pa_nil))) pa_nil)) (blkOk_by (own := [("k", 9)]) (N := ["bag", "line", "said_now", "due", "now", "one", "doubled", "told_letters", "notes", "k"]) (sc := defScope s__law_far_right) (by decide +kernel)) (fun _ _ _ _ _ => pg_name (i := 9) nd rfl (by first | exact Or.inl rfl | exact Or.inr rfl)) (fun _ _ _ _ _ => by exact pts_nil) (fun _ _ _ _ _ => by exact (pe_ix ix_seq (pv 1) (pe_has (h__law_draw.up (by decide)) hg hr (by rfl) (pa_cons (pv 0) (pa_cons (pe_callB call_len (by rfl) b.len (by decide +kernel) (pa_cons (pv 1) pa_nil)) pa_nil))) (fun _ _ => rfl))))
 (pss_cons (ps_set (i := 3) nd rfl (by first | exact Or.inl rfl | exact Or.inr rfl) (pe_lst pa_nil))
 (pss_cons (ps_set (i := 4) nd rfl (by first | exact Or.inl rfl | exact Or.inr rfl) (pv 1))
 (pss_cons (ps_for PassesOwn.never rfl (pi_list (pv 2)) (pg_name (i := 5) nd rfl (by first | exact Or.inl rfl | exact Or.inr rfl)) (pss_cons (ps_expr (by exact (pe_bm PySem.F.plainAttrs_list PySem.F.slot_list_append PySem.F.type_list_append mt_append (pv 3) (pa_cons (pe_tupX (pa_cons pe_str (pa_cons (pe_tidx (pv 4) (pv 5)) pa_nil))) pa_nil))))
 (pss_one (ps_set (i := 4) nd rfl (by first | exact Or.inl rfl | exact Or.inr rfl) (pe_has (h__law_front.up (by decide)) hg hr (by rfl) (pa_cons (pv 4) (pa_cons (pe_tidx (pv 4) (pv 5)) pa_nil)))))))
 (pss_cons (ps_if (pt_cmpR op_ne (pe_callB (call_repr hg hu) (by rfl) b.repr (by decide +kernel) (pa_cons (pe_has (h_explained.up (by decide)) hg hr (by rfl) (pa_cons (pv 1) (pa_cons (pv 2) (pa_cons (pe_lst pa_nil) pa_nil)))) pa_nil)) (pe_callB (call_repr hg hu) (by rfl) b.repr (by decide +kernel) (pa_cons (pe_tupX (pa_cons (pe_callB call_len (by rfl) b.len (by decide +kernel) (pa_cons (pv 3) pa_nil)) (pa_cons (pv 3) pa_nil))) pa_nil)) (nomark _)) (pss_one (ps_ret pe_bl)) pss_nil)
 (pss_cons (ps_setLc (i := 6) (own := [("k", 9)]) (g := gName 9) (tt := tYes) rfl nd rfl rfl (sw_true rfl rfl rfl (by decide +kernel)) (pi_range1 (by rfl) b.range (pa_cons (pe_has (h__law_draw.up (by decide)) hg hr (by rfl) (pa_cons (pv 0) (pa_cons pe_int pa_nil))) pa_nil)) (blkOk_by (own := [("k", 9)]) (N := ["bag", "line", "said_now", "due", "now", "one", "doubled", "told_letters", "notes", "k"]) (sc := defScope s__law_far_right) (by decide +kernel)) (fun _ _ _ _ _ => pg_name (i := 9) nd rfl (by first | exact Or.inl rfl | exact Or.inr rfl)) (fun _ _ _ _ _ => by exact pts_nil) (fun _ _ _ _ _ => by exact (pe_tupX (pa_cons pe_str (pa_cons (pe_has (h__law_draw.up (by decide)) hg hr (by rfl) (pa_cons (pv 0) (pa_cons (pe_callB call_len (by rfl) b.len (by decide +kernel) (pa_cons (pv 1) pa_nil)) pa_nil))) pa_nil)))))
 (pss_cons (ps_asg (pe_slice sl_U (pe_has (h__law_gone.up (by decide)) hg hr (by rfl) (pa_cons (pe_tupX (pa_cons (pv 1) (pa_cons (pv 1) pa_nil))) (pa_cons (pv 6) pa_nil))) (po_some pe_int) po_none) (pg_tup (n := 2) rfl (pgs_cons (pg_name (i := 7) nd rfl (by first | exact Or.inl rfl | exact Or.inr rfl)) (pgs_cons (pg_name (i := 8) nd rfl (by first | exact Or.inl rfl | exact Or.inr rfl)) pgs_nil))))
 (pss_one (ps_ret (pe_cmpR (op_eqD hu) (pe_has (h__law_faults.up (by decide)) hg hr (by rfl) (pa_cons (pv 1) (pa_cons (pv 7) (pa_cons (pv 8) pa_nil)))) (pe_callB call_len (by rfl) b.len (by decide +kernel) (pa_cons (pv 6) pa_nil)) (nomark _)))))))))))))
    (ls_seq (ls_asg (le_callB (j := 0) (les_cons (LP.e lp_int) les_nil)) (lg_name (i := 1) (by decide)))
 (ls_seq (ls_asg (LL.e (ll_compR (j := 9) (vs := [9]) (by decide) (by decide) (les_cons (le_callB (j := 0) (les_cons (LP.e lp_int) les_nil)) les_nil) lt_yes (le_op (LP.e (lp_var (i := 1))) (le_callB (j := 0) (les_cons (LP.e (lp_cb (lms_cons (LP.m (lp_var (i := 1))) lms_nil) rc_len)) les_nil)) rb_ix))) (lg_name (i := 2) (by decide)))
 (ls_seq (ls_asgL (i := 3) (by decide) (ll_lst les_nil))
 (ls_seq (ls_asg (LP.e (lp_var (i := 1))) (lg_name (i := 4) (by decide)))
 (ls_seq (ls_forL (LP.e (lp_var (i := 2))) (lg_name (i := 5) (by decide)) (ls_seq (ls_drop (le_append (j := 3) (le_tup (les_cons (LP.e lp_str) (les_cons (LP.e (lp_tindex (LP.m (lp_var (i := 4))) (LP.m (lp_var (i := 5))))) les_nil)))))
 (ls_asg (le_call (les_cons (LP.e (lp_var (i := 4))) (les_cons (LP.e (lp_tindex (LP.m (lp_var (i := 4))) (LP.m (lp_var (i := 5))))) les_nil))) (lg_name (i := 4) (by decide)))))
 (ls_seq (ls_if (lt_test (le_op (le_cb (les_cons (le_call (les_cons (LP.e (lp_var (i := 1))) (les_cons (LP.e (lp_var (i := 2))) (les_cons (LL.e (ll_lst les_nil)) les_nil)))) les_nil) rc_repr) (le_cb (les_cons (le_tup (les_cons (LP.e (lp_cb (lms_cons (lm_peek (i := 3)) lms_nil) rc_len)) (les_cons (le_var (i := 3) (by decide)) les_nil))) les_nil) rc_repr) rb_neS)) (ls_ret (LP.e lp_bl)) ls_next)
 (ls_seq (ls_asg (LL.e (ll_compR (j := 9) (vs := [9]) (by decide) (by decide) (les_cons (le_callB (j := 0) (les_cons (LP.e lp_int) les_nil)) les_nil) lt_yes (le_tup (les_cons (LP.e lp_str) (les_cons (le_callB (j := 0) (les_cons (LP.e (lp_cb (lms_cons (LP.m (lp_var (i := 1))) lms_nil) rc_len)) les_nil)) les_nil))))) (lg_name (i := 6) (by decide)))
 (ls_seq (ls_asg (le_slice (le_call (les_cons (le_tup (les_cons (LP.e (lp_var (i := 1))) (les_cons (LP.e (lp_var (i := 1))) les_nil))) (les_cons (LP.e (lp_var (i := 6))) les_nil))) (lo_some (LP.m lp_int)) lo_none) (lg_tup (lgs_cons (lg_name (i := 7) (by decide)) (lgs_cons (lg_name (i := 8) (by decide)) lgs_nil))))
 (ls_ret (le_op (le_call (les_cons (LP.e (lp_var (i := 1))) (les_cons (LP.e (lp_var (i := 7))) (les_cons (LP.e (lp_var (i := 8))) les_nil)))) (LP.e (lp_cb (lms_cons (LP.m (lp_var (i := 6))) lms_nil) rc_len)) rb_eq)))))))))) ?_
  rintro xs ds Q ⟨n, sp, hn, rfl, q⟩
  have hb : n + 1000000 ≤ 1000000000000 := hn
  (simp only [TN.dCallO, TN.dCallOI, TN.dCallNO, TN.oVar, TN.sCut, TN.tgLst, TN.iK, TN.iV, TN.iLT, TN.pNew, TN.dCallN, TN.dCompI2, TN.dLAddE, TN.oD, TN.sDNew, TN.sPutD, TN.fGetO, TN.fGetO2, TN.fInO, TN.fNinO, TN.dVarD, TN.dExtS, TN.mOwn, TN.dCallM, TN.mVar, TN.sRetV, TN.dAug, TN.dCallNT, TN.dCallNL, TN.fIxTs, TN.sForI, TN.dCompI, TN.dCompL, TN.dCompT, TN.dCompR, TN.iL, TN.iT, TN.iR1, TN.iR2, TN.iR3, TN.iS, TN.iE, TN.iRv, TN.iZ, TN.dKeepT, TN.dCallT, TN.pTup, TN.pCons, TN.pOwn, TN.sAsgT, TN.sRetT, TN.tpL, TN.fIxT, TN.fTp, TN.dAppendT, TN.dReverseT, TN.dClearT, TN.dVarT, TN.dReverse, TN.dClear, TN.dPop, Pt.d, Sl.tp.injEq, TN.startF, TN.dCallV, Sl.fn.injEq, TN.dCallF, TN.dLRev, TN.dLAdd, TN.dLSlP, TN.dLSlice, TN.dSliceE, TN.dNo, TN.dEnd, TN.fNo, TN.sSeq, TN.sNext, TN.sDrop, TN.sRet, TN.sRetL, TN.sRetN, TN.sIf, TN.sAsg, TN.sAsgL, TN.sStore, TN.sForL, TN.sForT, TN.sForR, TN.sForR2, TN.tgN, TN.tgTup, TN.tgCons, TN.tgNil, TN.dP, TN.dB, TN.dCall, TN.dCallL, TN.dCallB, TN.dCallBL, TN.dCons, TN.dNil, TN.dTup, TN.dLst, TN.dKeep, TN.dVar, TN.fVar, TN.fPeek, TN.fC, TN.f2, TN.d2, TN.d2V, TN.f1, TN.d1, TN.fCB, TN.dCB, TN.dCBL, TN.fNil, TN.fCons, TN.asBool, TN.dTest, TN.bAnd, TN.bOr, TN.bNot, TN.dAnd, TN.dOr, TN.dNot, TN.fAndV, TN.fOrV, TN.fNotV, TN.dAndV, TN.dOrV, TN.dNotV, TN.dIfE, TN.dIfL, TN.fIfE, TN.fChain, TN.fSlice, TN.dSlice, TN.fNo, TN.fEnd, TN.dAppend, TN.dInsert, TN.dPopAt, TN.ownL, TN.start0, TN.begB, TN.backD, TN.wipeD, TN.dYes, TN.sNever, List.getElem?_cons_zero, List.getElem?_cons_succ, List.set_cons_zero, List.set_cons_succ, List.map_cons, List.map_nil, List.length_cons, List.length_nil, List.cons_append, List.nil_append, List.replicate_succ, List.replicate_zero, Option.map_some, Option.map_none, Nat.add_one_sub_one, Nat.sub_zero, Nat.sub_self, Nat.zero_add, reduceCtorEq, Option.some.injEq, PyData.int.injEq, PyData.str.injEq, PyData.bool.injEq, PyData.list.injEq, PyData.tuple.injEq, Sl.sh.injEq, Sl.ow.injEq, List.cons.injEq, exists_eq_left', exists_eq_left, true_implies, false_implies, and_true, true_and, forall_const, Option.isSome_some, TN.imp_ff, TN.imp_tf, TN.imp_tt, exists_eq_left, exists_eq_left', exists_eq])
  refine ⟨n, 16, sp, by show _ ≤ (1000000000000 : Int); omega, rfl, by omega, by omega, fun r ys gr rl sp1 => ⟨_, rfl, ?_⟩⟩
  have rf := gr.few
  have r0 : 0 < r.length := List.length_pos_iff.mpr gr.ne
  refine windN sp1 (by show _ ≤ (1000000000000 : Int); omega) (by omega) (by omega) fun N ys2 hN sp2 => ⟨_, rfl, _, rfl, by omega, by omega, ?_⟩
  rw [rangeD_nat]
  refine compD_go (fun (k : Nat) => PyData.int k) (fun ks acc ρ => ∃ (n' : Int) (zs : List D) (s : List Str), acc = s.map PyData.str ∧ (∀ x ∈ s, x ∈ r) ∧ s.length + ks.length = N ∧ Spl n' zs ∧ n' + ks.length ≤ n + 1000 ∧ ρ = [.ow zs, .sh (tupL r), .no, .no, .no, .no, .no, .no, .no, .no]) ?_ ?_ _ _ _ ⟨_, ys2, [], rfl, (fun _ z => by cases z), by rw [List.length_range, List.length_nil, Nat.zero_add], sp2, by rw [List.length_range]; omega, rfl⟩
  · rintro x ks acc ρ K ⟨n', zs, s, rfl, hs, hl, sp', hn', rfl⟩ nx
    rw [List.length_cons] at hl hn'
    refine ⟨rfl, fun _ => ?_, (fun z => by cases z)⟩
    (simp only [TN.dCallO, TN.dCallOI, TN.dCallNO, TN.oVar, TN.sCut, TN.tgLst, TN.iK, TN.iV, TN.iLT, TN.pNew, TN.dCallN, TN.dCompI2, TN.dLAddE, TN.oD, TN.sDNew, TN.sPutD, TN.fGetO, TN.fGetO2, TN.fInO, TN.fNinO, TN.dVarD, TN.dExtS, TN.mOwn, TN.dCallM, TN.mVar, TN.sRetV, TN.dAug, TN.dCallNT, TN.dCallNL, TN.fIxTs, TN.sForI, TN.dCompI, TN.dCompL, TN.dCompT, TN.dCompR, TN.iL, TN.iT, TN.iR1, TN.iR2, TN.iR3, TN.iS, TN.iE, TN.iRv, TN.iZ, TN.dKeepT, TN.dCallT, TN.pTup, TN.pCons, TN.pOwn, TN.sAsgT, TN.sRetT, TN.tpL, TN.fIxT, TN.fTp, TN.dAppendT, TN.dReverseT, TN.dClearT, TN.dVarT, TN.dReverse, TN.dClear, TN.dPop, Pt.d, Sl.tp.injEq, TN.startF, TN.dCallV, Sl.fn.injEq, TN.dCallF, TN.dLRev, TN.dLAdd, TN.dLSlP, TN.dLSlice, TN.dSliceE, TN.dNo, TN.dEnd, TN.fNo, TN.sSeq, TN.sNext, TN.sDrop, TN.sRet, TN.sRetL, TN.sRetN, TN.sIf, TN.sAsg, TN.sAsgL, TN.sStore, TN.sForL, TN.sForT, TN.sForR, TN.sForR2, TN.tgN, TN.tgTup, TN.tgCons, TN.tgNil, TN.dP, TN.dB, TN.dCall, TN.dCallL, TN.dCallB, TN.dCallBL, TN.dCons, TN.dNil, TN.dTup, TN.dLst, TN.dKeep, TN.dVar, TN.fVar, TN.fPeek, TN.fC, TN.f2, TN.d2, TN.d2V, TN.f1, TN.d1, TN.fCB, TN.dCB, TN.dCBL, TN.fNil, TN.fCons, TN.asBool, TN.dTest, TN.bAnd, TN.bOr, TN.bNot, TN.dAnd, TN.dOr, TN.dNot, TN.fAndV, TN.fOrV, TN.fNotV, TN.dAndV, TN.dOrV, TN.dNotV, TN.dIfE, TN.dIfL, TN.fIfE, TN.fChain, TN.fSlice, TN.dSlice, TN.fNo, TN.fEnd, TN.dAppend, TN.dInsert, TN.dPopAt, TN.ownL, TN.start0, TN.begB, TN.backD, TN.wipeD, TN.dYes, TN.sNever, List.getElem?_cons_zero, List.getElem?_cons_succ, List.set_cons_zero, List.set_cons_succ, List.map_cons, List.map_nil, List.length_cons, List.length_nil, List.cons_append, List.nil_append, List.replicate_succ, List.replicate_zero, Option.map_some, Option.map_none, Nat.add_one_sub_one, Nat.sub_zero, Nat.sub_self, Nat.zero_add, reduceCtorEq, Option.some.injEq, PyData.int.injEq, PyData.str.injEq, PyData.bool.injEq, PyData.list.injEq, PyData.tuple.injEq, Sl.sh.injEq, Sl.ow.injEq, List.cons.injEq, exists_eq_left', exists_eq_left, true_implies, false_implies, and_true, true_and, forall_const, Option.isSome_some, TN.imp_ff, TN.imp_tf, TN.imp_tt, exists_eq_left, exists_eq_left', exists_eq])
    refine ⟨_, oLen_tupL, windN sp' (by show _ ≤ (1000000000000 : Int); omega) (by omega) (by omega) fun i zs2 hi sp6 => ⟨_, rfl, _, oIx_tupL (by omega), by rw [List.length_map]; omega, ?_⟩⟩
    have e : List.map PyData.str s ++ [PyData.str (r.getD i "")] = (s ++ [r.getD i ""]).map PyData.str := by rw [List.map_append]; rfl
    rw [e]
    refine nx _ _ ⟨n' + 1, zs2, _, rfl, fun y hy => ?_, by rw [List.length_append, List.length_singleton]; omega, sp6, by omega, rfl⟩
    rcases List.mem_append.mp hy with hy | hy
    · exact hs y hy
    · rw [List.mem_singleton] at hy; rw [hy]; exact getD_mem (by omega)
  rintro acc ρ ⟨n', zs, s, rfl, hs, hl, sp', hn', rfl⟩
  rw [List.length_nil] at hl hn'
  (simp only [TN.dCallO, TN.dCallOI, TN.dCallNO, TN.oVar, TN.sCut, TN.tgLst, TN.iK, TN.iV, TN.iLT, TN.pNew, TN.dCallN, TN.dCompI2, TN.dLAddE, TN.oD, TN.sDNew, TN.sPutD, TN.fGetO, TN.fGetO2, TN.fInO, TN.fNinO, TN.dVarD, TN.dExtS, TN.mOwn, TN.dCallM, TN.mVar, TN.sRetV, TN.dAug, TN.dCallNT, TN.dCallNL, TN.fIxTs, TN.sForI, TN.dCompI, TN.dCompL, TN.dCompT, TN.dCompR, TN.iL, TN.iT, TN.iR1, TN.iR2, TN.iR3, TN.iS, TN.iE, TN.iRv, TN.iZ, TN.dKeepT, TN.dCallT, TN.pTup, TN.pCons, TN.pOwn, TN.sAsgT, TN.sRetT, TN.tpL, TN.fIxT, TN.fTp, TN.dAppendT, TN.dReverseT, TN.dClearT, TN.dVarT, TN.dReverse, TN.dClear, TN.dPop, Pt.d, Sl.tp.injEq, TN.startF, TN.dCallV, Sl.fn.injEq, TN.dCallF, TN.dLRev, TN.dLAdd, TN.dLSlP, TN.dLSlice, TN.dSliceE, TN.dNo, TN.dEnd, TN.fNo, TN.sSeq, TN.sNext, TN.sDrop, TN.sRet, TN.sRetL, TN.sRetN, TN.sIf, TN.sAsg, TN.sAsgL, TN.sStore, TN.sForL, TN.sForT, TN.sForR, TN.sForR2, TN.tgN, TN.tgTup, TN.tgCons, TN.tgNil, TN.dP, TN.dB, TN.dCall, TN.dCallL, TN.dCallB, TN.dCallBL, TN.dCons, TN.dNil, TN.dTup, TN.dLst, TN.dKeep, TN.dVar, TN.fVar, TN.fPeek, TN.fC, TN.f2, TN.d2, TN.d2V, TN.f1, TN.d1, TN.fCB, TN.dCB, TN.dCBL, TN.fNil, TN.fCons, TN.asBool, TN.dTest, TN.bAnd, TN.bOr, TN.bNot, TN.dAnd, TN.dOr, TN.dNot, TN.fAndV, TN.fOrV, TN.fNotV, TN.dAndV, TN.dOrV, TN.dNotV, TN.dIfE, TN.dIfL, TN.fIfE, TN.fChain, TN.fSlice, TN.dSlice, TN.fNo, TN.fEnd, TN.dAppend, TN.dInsert, TN.dPopAt, TN.ownL, TN.start0, TN.begB, TN.backD, TN.wipeD, TN.dYes, TN.sNever, List.getElem?_cons_zero, List.getElem?_cons_succ, List.set_cons_zero, List.set_cons_succ, List.map_cons, List.map_nil, List.length_cons, List.length_nil, List.cons_append, List.nil_append, List.replicate_succ, List.replicate_zero, Option.map_some, Option.map_none, Nat.add_one_sub_one, Nat.sub_zero, Nat.sub_self, Nat.zero_add, reduceCtorEq, Option.some.injEq, PyData.int.injEq, PyData.str.injEq, PyData.bool.injEq, PyData.list.injEq, PyData.tuple.injEq, Sl.sh.injEq, Sl.ow.injEq, List.cons.injEq, exists_eq_left', exists_eq_left, true_implies, false_implies, and_true, true_and, forall_const, Option.isSome_some, TN.imp_ff, TN.imp_tf, TN.imp_tt, exists_eq_left, exists_eq_left', exists_eq])
  refine ⟨by omega, ?_⟩
  refine forD_go PyData.str (fun ls ρ => ∃ (u : List Str) (acc : List Ev) (b5 : Sl), ρ = [.ow zs, .sh (tupL r), .sh (lstL s), .ow (acc.map Ev.d), .sh (tupL u), b5, .no, .no, .no, .no] ∧ u.Nodup ∧ u.length ≤ 16 ∧ (∀ x ∈ ls, x ∈ u) ∧ acc.length + ls.length ≤ 100 ∧ (placesL r s).map Ev.lost = acc ++ (placesL u ls).map Ev.lost) ?_ ?_ s _ ⟨r, [], _, rfl, gr.nd, gr.few, hs, by simp; omega, rfl⟩
  · rintro x ls ρ E' ⟨u, acc, b5, rfl, nd, uf, hu, fa, e⟩ nx _ _ _
    have hx := hu x List.mem_cons_self
    have pu := front_perm hx nd
    rw [List.length_cons] at fa
    (simp only [TN.dCallO, TN.dCallOI, TN.dCallNO, TN.oVar, TN.sCut, TN.tgLst, TN.iK, TN.iV, TN.iLT, TN.pNew, TN.dCallN, TN.dCompI2, TN.dLAddE, TN.oD, TN.sDNew, TN.sPutD, TN.fGetO, TN.fGetO2, TN.fInO, TN.fNinO, TN.dVarD, TN.dExtS, TN.mOwn, TN.dCallM, TN.mVar, TN.sRetV, TN.dAug, TN.dCallNT, TN.dCallNL, TN.fIxTs, TN.sForI, TN.dCompI, TN.dCompL, TN.dCompT, TN.dCompR, TN.iL, TN.iT, TN.iR1, TN.iR2, TN.iR3, TN.iS, TN.iE, TN.iRv, TN.iZ, TN.dKeepT, TN.dCallT, TN.pTup, TN.pCons, TN.pOwn, TN.sAsgT, TN.sRetT, TN.tpL, TN.fIxT, TN.fTp, TN.dAppendT, TN.dReverseT, TN.dClearT, TN.dVarT, TN.dReverse, TN.dClear, TN.dPop, Pt.d, Sl.tp.injEq, TN.startF, TN.dCallV, Sl.fn.injEq, TN.dCallF, TN.dLRev, TN.dLAdd, TN.dLSlP, TN.dLSlice, TN.dSliceE, TN.dNo, TN.dEnd, TN.fNo, TN.sSeq, TN.sNext, TN.sDrop, TN.sRet, TN.sRetL, TN.sRetN, TN.sIf, TN.sAsg, TN.sAsgL, TN.sStore, TN.sForL, TN.sForT, TN.sForR, TN.sForR2, TN.tgN, TN.tgTup, TN.tgCons, TN.tgNil, TN.dP, TN.dB, TN.dCall, TN.dCallL, TN.dCallB, TN.dCallBL, TN.dCons, TN.dNil, TN.dTup, TN.dLst, TN.dKeep, TN.dVar, TN.fVar, TN.fPeek, TN.fC, TN.f2, TN.d2, TN.d2V, TN.f1, TN.d1, TN.fCB, TN.dCB, TN.dCBL, TN.fNil, TN.fCons, TN.asBool, TN.dTest, TN.bAnd, TN.bOr, TN.bNot, TN.dAnd, TN.dOr, TN.dNot, TN.fAndV, TN.fOrV, TN.fNotV, TN.dAndV, TN.dOrV, TN.dNotV, TN.dIfE, TN.dIfL, TN.fIfE, TN.fChain, TN.fSlice, TN.dSlice, TN.fNo, TN.fEnd, TN.dAppend, TN.dInsert, TN.dPopAt, TN.ownL, TN.start0, TN.begB, TN.backD, TN.wipeD, TN.dYes, TN.sNever, List.getElem?_cons_zero, List.getElem?_cons_succ, List.set_cons_zero, List.set_cons_succ, List.map_cons, List.map_nil, List.length_cons, List.length_nil, List.cons_append, List.nil_append, List.replicate_succ, List.replicate_zero, Option.map_some, Option.map_none, Nat.add_one_sub_one, Nat.sub_zero, Nat.sub_self, Nat.zero_add, reduceCtorEq, Option.some.injEq, PyData.int.injEq, PyData.str.injEq, PyData.bool.injEq, PyData.list.injEq, PyData.tuple.injEq, Sl.sh.injEq, Sl.ow.injEq, List.cons.injEq, exists_eq_left', exists_eq_left, true_implies, false_implies, and_true, true_and, forall_const, Option.isSome_some, TN.imp_ff, TN.imp_tf, TN.imp_tt, exists_eq_left, exists_eq_left', exists_eq])
    refine ⟨_, oTIx hx, by omega, by rw [List.length_map]; omega, _, oTIx hx, frF hx nd uf ⟨_, rfl, ?_⟩⟩
    have ea : List.map Ev.d acc ++ [PyData.tuple [PyData.str (Str.ofString "lost"), PyData.int (ixS x u : Nat)]] = (acc ++ [Ev.lost (ixS x u)]).map Ev.d := by rw [List.map_append]; rfl
    rw [ea]
    exact nx _ ⟨front x u, acc ++ [.lost (ixS x u)], _, rfl, pu.nodup_iff.mpr nd, by rw [pu.length_eq]; exact uf, fun y hy => pu.mem_iff.mpr (hu y (List.mem_cons_of_mem _ hy)), by rw [List.length_append, List.length_singleton]; omega, by rw [e, List.append_assoc]; rfl⟩
  rintro ρ ⟨u, acc, b5, rfl, _, _, _, _, e⟩
  have e : (placesL r s).map Ev.lost = acc := e.trans (List.append_nil _)
  have la : acc.length = s.length := by rw [← e, List.length_map, placesL_len]
  have oka : ∀ x ∈ acc, x.ok r := fun x hx => by
    rw [← e] at hx
    obtain ⟨p, hp, rfl⟩ := List.mem_map.mp hx
    exact places_lt s r gr.nd hs p hp
  (simp only [TN.dCallO, TN.dCallOI, TN.dCallNO, TN.oVar, TN.sCut, TN.tgLst, TN.iK, TN.iV, TN.iLT, TN.pNew, TN.dCallN, TN.dCompI2, TN.dLAddE, TN.oD, TN.sDNew, TN.sPutD, TN.fGetO, TN.fGetO2, TN.fInO, TN.fNinO, TN.dVarD, TN.dExtS, TN.mOwn, TN.dCallM, TN.mVar, TN.sRetV, TN.dAug, TN.dCallNT, TN.dCallNL, TN.fIxTs, TN.sForI, TN.dCompI, TN.dCompL, TN.dCompT, TN.dCompR, TN.iL, TN.iT, TN.iR1, TN.iR2, TN.iR3, TN.iS, TN.iE, TN.iRv, TN.iZ, TN.dKeepT, TN.dCallT, TN.pTup, TN.pCons, TN.pOwn, TN.sAsgT, TN.sRetT, TN.tpL, TN.fIxT, TN.fTp, TN.dAppendT, TN.dReverseT, TN.dClearT, TN.dVarT, TN.dReverse, TN.dClear, TN.dPop, Pt.d, Sl.tp.injEq, TN.startF, TN.dCallV, Sl.fn.injEq, TN.dCallF, TN.dLRev, TN.dLAdd, TN.dLSlP, TN.dLSlice, TN.dSliceE, TN.dNo, TN.dEnd, TN.fNo, TN.sSeq, TN.sNext, TN.sDrop, TN.sRet, TN.sRetL, TN.sRetN, TN.sIf, TN.sAsg, TN.sAsgL, TN.sStore, TN.sForL, TN.sForT, TN.sForR, TN.sForR2, TN.tgN, TN.tgTup, TN.tgCons, TN.tgNil, TN.dP, TN.dB, TN.dCall, TN.dCallL, TN.dCallB, TN.dCallBL, TN.dCons, TN.dNil, TN.dTup, TN.dLst, TN.dKeep, TN.dVar, TN.fVar, TN.fPeek, TN.fC, TN.f2, TN.d2, TN.d2V, TN.f1, TN.d1, TN.fCB, TN.dCB, TN.dCBL, TN.fNil, TN.fCons, TN.asBool, TN.dTest, TN.bAnd, TN.bOr, TN.bNot, TN.dAnd, TN.dOr, TN.dNot, TN.fAndV, TN.fOrV, TN.fNotV, TN.dAndV, TN.dOrV, TN.dNotV, TN.dIfE, TN.dIfL, TN.fIfE, TN.fChain, TN.fSlice, TN.dSlice, TN.fNo, TN.fEnd, TN.dAppend, TN.dInsert, TN.dPopAt, TN.ownL, TN.start0, TN.begB, TN.backD, TN.wipeD, TN.dYes, TN.sNever, List.getElem?_cons_zero, List.getElem?_cons_succ, List.set_cons_zero, List.set_cons_succ, List.map_cons, List.map_nil, List.length_cons, List.length_nil, List.cons_append, List.nil_append, List.replicate_succ, List.replicate_zero, Option.map_some, Option.map_none, Nat.add_one_sub_one, Nat.sub_zero, Nat.sub_self, Nat.zero_add, reduceCtorEq, Option.some.injEq, PyData.int.injEq, PyData.str.injEq, PyData.bool.injEq, PyData.list.injEq, PyData.tuple.injEq, Sl.sh.injEq, Sl.ow.injEq, List.cons.injEq, exists_eq_left', exists_eq_left, true_implies, false_implies, and_true, true_and, forall_const, Option.isSome_some, TN.imp_ff, TN.imp_tf, TN.imp_tt, exists_eq_left, exists_eq_left', exists_eq])
  refine ⟨by omega, r, s, [], rfl, gr, hs, (fun _ z => by cases z), by omega, by simp, fun z => ?_, fun m es e0 tt ff => ?_⟩
  · obtain ⟨es, t⟩ := tells_ex (ps := placesL r s) (qs := placesL r []) (by simp [placesL])
    obtain ⟨m, hm, _⟩ := few_le t
    rw [hm] at z; cases z
  obtain ⟨t1, t2⟩ := tells_lost tt
  rw [t1, e] at ff
  rw [t1, e]
  have mm : m = acc.length := by rw [la, ← ff, ← e, ← t1, t2, placesL_len]
  subst mm
  have rp := oRepr_tup (k := 3) (w := 2 * (100 * 196 + 1)) (xs := [.int (acc.length : Nat), .list (acc.map Ev.d)]) (.tup (k := 2) (w := 100 * 196) (n := 2) (fun d hd => by
    rcases List.mem_cons.mp hd with rfl | hd
    · exact (Sho.int (by omega)).up (Nat.zero_le 2) (by decide)
    · rw [List.mem_singleton] at hd; subst hd
      exact sho_evs gr.let' (by omega) oka (by omega)) (by simp)) (by decide) (by decide)
  have ol : oLen [.list (acc.map Ev.d)] = some (.int (acc.length : Nat)) := by show some (PyData.int (acc.map Ev.d).length) = _; rw [List.length_map]
  refine ⟨_, rfl, _, rp, _, ol, by omega, _, rp, _, oNeS_same, false, rfl, (fun z => by cases z), fun _ => ?_⟩
  refine windN sp' (by show _ ≤ (1000000000000 : Int); omega) (by omega) (by omega) fun N2 ys4 hN2 sp4 => ⟨_, rfl, _, rfl, by omega, by omega, ?_⟩
  rw [rangeD_nat]
  refine compD_go (fun (k : Nat) => PyData.int k) (fun ks ac ρ => ∃ (n' : Int) (zs : List D) (ps : List Nat), ac = ps.map (fun p => (Ev.twice p).d) ∧ (∀ p ∈ ps, p < r.length) ∧ ps.length + ks.length = N2 ∧ Spl n' zs ∧ n' + ks.length ≤ n + 3000 ∧ ρ = [.ow zs, .sh (tupL r), .sh (lstL s), .sh (.list (acc.map Ev.d)), .sh (tupL u), b5, .no, .no, .no, .no]) ?_ ?_ _ _ _ ⟨_, ys4, [], rfl, (fun _ z => by cases z), by rw [List.length_range, List.length_nil, Nat.zero_add], sp4, by rw [List.length_range]; omega, rfl⟩
  · rintro x ks ac ρ K ⟨n2, zs2, ps, rfl, hps, hl2, sp5, hn2, rfl⟩ nx
    rw [List.length_cons] at hl2 hn2
    refine ⟨rfl, fun _ => ?_, (fun z => by cases z)⟩
    (simp only [TN.dCallO, TN.dCallOI, TN.dCallNO, TN.oVar, TN.sCut, TN.tgLst, TN.iK, TN.iV, TN.iLT, TN.pNew, TN.dCallN, TN.dCompI2, TN.dLAddE, TN.oD, TN.sDNew, TN.sPutD, TN.fGetO, TN.fGetO2, TN.fInO, TN.fNinO, TN.dVarD, TN.dExtS, TN.mOwn, TN.dCallM, TN.mVar, TN.sRetV, TN.dAug, TN.dCallNT, TN.dCallNL, TN.fIxTs, TN.sForI, TN.dCompI, TN.dCompL, TN.dCompT, TN.dCompR, TN.iL, TN.iT, TN.iR1, TN.iR2, TN.iR3, TN.iS, TN.iE, TN.iRv, TN.iZ, TN.dKeepT, TN.dCallT, TN.pTup, TN.pCons, TN.pOwn, TN.sAsgT, TN.sRetT, TN.tpL, TN.fIxT, TN.fTp, TN.dAppendT, TN.dReverseT, TN.dClearT, TN.dVarT, TN.dReverse, TN.dClear, TN.dPop, Pt.d, Sl.tp.injEq, TN.startF, TN.dCallV, Sl.fn.injEq, TN.dCallF, TN.dLRev, TN.dLAdd, TN.dLSlP, TN.dLSlice, TN.dSliceE, TN.dNo, TN.dEnd, TN.fNo, TN.sSeq, TN.sNext, TN.sDrop, TN.sRet, TN.sRetL, TN.sRetN, TN.sIf, TN.sAsg, TN.sAsgL, TN.sStore, TN.sForL, TN.sForT, TN.sForR, TN.sForR2, TN.tgN, TN.tgTup, TN.tgCons, TN.tgNil, TN.dP, TN.dB, TN.dCall, TN.dCallL, TN.dCallB, TN.dCallBL, TN.dCons, TN.dNil, TN.dTup, TN.dLst, TN.dKeep, TN.dVar, TN.fVar, TN.fPeek, TN.fC, TN.f2, TN.d2, TN.d2V, TN.f1, TN.d1, TN.fCB, TN.dCB, TN.dCBL, TN.fNil, TN.fCons, TN.asBool, TN.dTest, TN.bAnd, TN.bOr, TN.bNot, TN.dAnd, TN.dOr, TN.dNot, TN.fAndV, TN.fOrV, TN.fNotV, TN.dAndV, TN.dOrV, TN.dNotV, TN.dIfE, TN.dIfL, TN.fIfE, TN.fChain, TN.fSlice, TN.dSlice, TN.fNo, TN.fEnd, TN.dAppend, TN.dInsert, TN.dPopAt, TN.ownL, TN.start0, TN.begB, TN.backD, TN.wipeD, TN.dYes, TN.sNever, List.getElem?_cons_zero, List.getElem?_cons_succ, List.set_cons_zero, List.set_cons_succ, List.map_cons, List.map_nil, List.length_cons, List.length_nil, List.cons_append, List.nil_append, List.replicate_succ, List.replicate_zero, Option.map_some, Option.map_none, Nat.add_one_sub_one, Nat.sub_zero, Nat.sub_self, Nat.zero_add, reduceCtorEq, Option.some.injEq, PyData.int.injEq, PyData.str.injEq, PyData.bool.injEq, PyData.list.injEq, PyData.tuple.injEq, Sl.sh.injEq, Sl.ow.injEq, List.cons.injEq, exists_eq_left', exists_eq_left, true_implies, false_implies, and_true, true_and, forall_const, Option.isSome_some, TN.imp_ff, TN.imp_tf, TN.imp_tt, exists_eq_left, exists_eq_left', exists_eq])
    refine ⟨_, oLen_tupL, windN sp5 (by show _ ≤ (1000000000000 : Int); omega) (by omega) (by omega) fun i zs3 hi sp6 => ⟨_, rfl, by omega, by rw [List.length_map]; omega, ?_⟩⟩
    have e : List.map (fun p => (Ev.twice p).d) ps ++ [PyData.tuple [PyData.str (Str.ofString "twice"), PyData.int (i : Nat)]] = (ps ++ [i]).map fun p => (Ev.twice p).d := by rw [List.map_append]; rfl
    rw [e]
    refine nx _ _ ⟨n2 + 1, zs3, _, rfl, fun y hy => ?_, by rw [List.length_append, List.length_singleton]; omega, sp6, by omega, rfl⟩
    rcases List.mem_append.mp hy with hy | hy
    · exact hps y hy
    · rw [List.mem_singleton] at hy; omega
  rintro ac ρ ⟨n2, zs2, ps, rfl, hps, hl2, sp5, hn2, rfl⟩
  rw [List.length_nil] at hl2 hn2
  have ed : ps.map (fun p => (Ev.twice p).d) = (ps.map Ev.twice).map Ev.d := by rw [List.map_map]; rfl
  (simp only [TN.dCallO, TN.dCallOI, TN.dCallNO, TN.oVar, TN.sCut, TN.tgLst, TN.iK, TN.iV, TN.iLT, TN.pNew, TN.dCallN, TN.dCompI2, TN.dLAddE, TN.oD, TN.sDNew, TN.sPutD, TN.fGetO, TN.fGetO2, TN.fInO, TN.fNinO, TN.dVarD, TN.dExtS, TN.mOwn, TN.dCallM, TN.mVar, TN.sRetV, TN.dAug, TN.dCallNT, TN.dCallNL, TN.fIxTs, TN.sForI, TN.dCompI, TN.dCompL, TN.dCompT, TN.dCompR, TN.iL, TN.iT, TN.iR1, TN.iR2, TN.iR3, TN.iS, TN.iE, TN.iRv, TN.iZ, TN.dKeepT, TN.dCallT, TN.pTup, TN.pCons, TN.pOwn, TN.sAsgT, TN.sRetT, TN.tpL, TN.fIxT, TN.fTp, TN.dAppendT, TN.dReverseT, TN.dClearT, TN.dVarT, TN.dReverse, TN.dClear, TN.dPop, Pt.d, Sl.tp.injEq, TN.startF, TN.dCallV, Sl.fn.injEq, TN.dCallF, TN.dLRev, TN.dLAdd, TN.dLSlP, TN.dLSlice, TN.dSliceE, TN.dNo, TN.dEnd, TN.fNo, TN.sSeq, TN.sNext, TN.sDrop, TN.sRet, TN.sRetL, TN.sRetN, TN.sIf, TN.sAsg, TN.sAsgL, TN.sStore, TN.sForL, TN.sForT, TN.sForR, TN.sForR2, TN.tgN, TN.tgTup, TN.tgCons, TN.tgNil, TN.dP, TN.dB, TN.dCall, TN.dCallL, TN.dCallB, TN.dCallBL, TN.dCons, TN.dNil, TN.dTup, TN.dLst, TN.dKeep, TN.dVar, TN.fVar, TN.fPeek, TN.fC, TN.f2, TN.d2, TN.d2V, TN.f1, TN.d1, TN.fCB, TN.dCB, TN.dCBL, TN.fNil, TN.fCons, TN.asBool, TN.dTest, TN.bAnd, TN.bOr, TN.bNot, TN.dAnd, TN.dOr, TN.dNot, TN.fAndV, TN.fOrV, TN.fNotV, TN.dAndV, TN.dOrV, TN.dNotV, TN.dIfE, TN.dIfL, TN.fIfE, TN.fChain, TN.fSlice, TN.dSlice, TN.fNo, TN.fEnd, TN.dAppend, TN.dInsert, TN.dPopAt, TN.ownL, TN.start0, TN.begB, TN.backD, TN.wipeD, TN.dYes, TN.sNever, List.getElem?_cons_zero, List.getElem?_cons_succ, List.set_cons_zero, List.set_cons_succ, List.map_cons, List.map_nil, List.length_cons, List.length_nil, List.cons_append, List.nil_append, List.replicate_succ, List.replicate_zero, Option.map_some, Option.map_none, Nat.add_one_sub_one, Nat.sub_zero, Nat.sub_self, Nat.zero_add, reduceCtorEq, Option.some.injEq, PyData.int.injEq, PyData.str.injEq, PyData.bool.injEq, PyData.list.injEq, PyData.tuple.injEq, Sl.sh.injEq, Sl.ow.injEq, List.cons.injEq, exists_eq_left', exists_eq_left, true_implies, false_implies, and_true, true_and, forall_const, Option.isSome_some, TN.imp_ff, TN.imp_tf, TN.imp_tt, exists_eq_left, exists_eq_left', exists_eq])
  rw [ed]
  have gp0 : GPair r r := ⟨gr, gr, .refl _⟩
  have un : ∀ e ∈ ps.map Ev.twice, e.ok r ∧ e.un := fun e he => by obtain ⟨p, hp, rfl⟩ := List.mem_map.mp he; exact ⟨hps p hp, trivial⟩
  have ok : ∀ e ∈ ps.map Ev.twice, e.ok r := fun e he => (un e he).1
  have pT := runT_ok (ps.map Ev.twice) r ok
  have pH := runH_ok (ps.map Ev.twice) r ok
  obtain ⟨w1, w2⟩ := twice_faults ps
  have w2 := w2 r
  have lT := runT_len (ps.map Ev.twice) r
  rw [List.length_map] at lT
  obtain ⟨k, hf, hk⟩ := few_le (hist_few gr un)
  have df := few_diff hf
  rw [placesL_len, placesL_len, w2, lT] at df
  have kk : k = ps.length := by omega
  refine ⟨by omega, r, r, ps.map Ev.twice, rfl, gp0, by rw [List.length_map]; omega, ok, _, rfl, _, _, _, rfl, rfl, slice1, _, rfl, rfl, _, _, rfl, _, _, rfl, rfl, r, _, _, rfl, gr, pT.2, pH.2, by omega, by omega, ?_⟩
  rw [hf, kk]
  have ol2 : oLen [.list ((ps.map Ev.twice).map Ev.d)] = some (.int (ps.length : Nat)) := by show some (PyData.int ((ps.map Ev.twice).map Ev.d).length) = _; rw [List.length_map, List.length_map]
  rw [ol2]
  refine ⟨_, rfl, _, rfl, _, oEq_int, ?_⟩
  rw [decide_eq_true rfl]
  exact q _

abbrev s_law : Stmt := topS 37
theorem sc_law : FnScope ["script", "k", "bag"] ["script"] (defScope s_law) := ⟨rfl, rfl, rfl, by decide +kernel, rfl, by decide +kernel, by decide +kernel⟩
theorem ok_law (b : Blt mg) (h__law_bag : Has P w K mg base "_law_bag" 1 ["cell"] (sp0 K semBagC)) (h__law_cell_at : Has P w K mg base "_law_cell_at" 1 ["script", "k"] (sp0 K semCell)) (h__law_right : Has P w K mg base "_law_right" 8 ["bag"] (spB K semOwnBagS)) (h__law_far_right : Has P w K mg base "_law_far_right" 8 ["bag"] (spB K semOwnBag)) {f : Addr} {fd : FuncData} (F : Fun K "law" "law" s_law f fd) : FnG P w K mg base CX0 9 f fd ["script"] (sp0 K semLaw) := by
  refine fn0 (k := 8) F sc_law (fun ds Q h => by obtain ⟨ns, rfl, _⟩ := h; rfl) (fun cdv A outer s H E hg hr =>
    have nd := sc_law.nd
    have hu := hr.units
    have hu1 := hu_of hr
    (pss_cons (ps_for PassesOwn.never rfl (pi_range1 (by rfl) b.range (pa_cons (pe_callB (call_max2 rfl) (by rfl) b.max (by decide +kernel) (pa_cons pe_int (pa_cons (pe_callB (call_min2 rfl) (by rfl) b.min (by decide +kernel) (pa_cons pe_int (pa_cons (pe_callB call_len (by rfl) b.len (by decide +kernel) (pa_cons (pv 0) pa_nil)) pa_nil))) pa_nil))) pa_nil)) (pg_name (i := 1) nd rfl (by first | exact Or.inl rfl | exact Or.inr rfl)) (pss_cons (ps_set (i := 2) nd rfl (by first | exact Or.inl rfl | exact Or.inr rfl) (pe_has (h__law_bag.up (by decide)) hg hr (by rfl) (pa_cons (pe_op op_addU (pe_has (h__law_cell_at.up (by decide)) hg hr (by rfl) (pa_cons (pv 0) (pa_cons (pv 1) pa_nil))) pe_int) pa_nil)))
 (pss_one (ps_if (PW.pt (pw_or (pt_not (pt_val (pe_has (h__law_right.up (by decide)) hg hr (by rfl) (pa_cons (pv 2) pa_nil)))) (pw_or1 (pt_not (pt_val (pe_has (h__law_far_right.up (by decide)) hg hr (by rfl) (pa_cons (pv 2) pa_nil))))))) (pss_one (ps_ret pe_bl)) pss_nil))))
 (pss_one (ps_ret pe_bl))))
    (ls_seq (ls_forR (les_cons (LP.e (lp_cb (lms_cons (LP.m lp_int) (lms_cons (LP.m (lp_cb (lms_cons (LP.m lp_int) (lms_cons (LP.m (lp_cb (lms_cons (LP.m (lp_var (i := 0))) lms_nil) rc_len)) lms_nil)) rc_min)) lms_nil)) rc_max)) les_nil) (lg_name (i := 1) (by decide)) (ls_seq (ls_asgL (i := 2) (by decide) (ll_call (les_cons (le_op (le_call (les_cons (LP.e (lp_var (i := 0))) (les_cons (LP.e (lp_var (i := 1))) les_nil))) (LP.e lp_int) rb_add) les_nil)))
 (ls_if (lt_or (lt_not (lt_B (le_callB (j := 2) les_nil))) (lt_not (lt_B (le_callB (j := 2) les_nil)))) (ls_ret (LP.e lp_bl)) ls_next)))
 (ls_ret (LP.e lp_bl))) ?_
  rintro ds Q ⟨ns, rfl, few, q⟩
  (simp only [TN.dCallM, TN.mVar, TN.sRetV, TN.dAug, TN.dCallNT, TN.dCallNL, TN.fIxTs, TN.sForI, TN.dCompI, TN.dCompL, TN.dCompT, TN.dCompR, TN.iL, TN.iT, TN.iR1, TN.iR2, TN.iR3, TN.iS, TN.iE, TN.iRv, TN.iZ, TN.dKeepT, TN.dCallT, TN.pTup, TN.pCons, TN.pOwn, TN.sAsgT, TN.sRetT, TN.tpL, TN.fIxT, TN.fTp, TN.dAppendT, TN.dReverseT, TN.dClearT, TN.dVarT, TN.dReverse, TN.dClear, TN.dPop, Pt.d, Sl.tp.injEq, TN.startF, TN.dCallV, Sl.fn.injEq, TN.dCallF, TN.dLRev, TN.dLAdd, TN.dLSlP, TN.dLSlice, TN.dSliceE, TN.dNo, TN.dEnd, TN.fNo, TN.sSeq, TN.sNext, TN.sDrop, TN.sRet, TN.sRetL, TN.sRetN, TN.sIf, TN.sAsg, TN.sAsgL, TN.sStore, TN.sForL, TN.sForT, TN.sForR, TN.sForR2, TN.tgN, TN.tgTup, TN.tgCons, TN.tgNil, TN.dP, TN.dB, TN.dCall, TN.dCallL, TN.dCallB, TN.dCallBL, TN.dCons, TN.dNil, TN.dTup, TN.dLst, TN.dKeep, TN.dVar, TN.fVar, TN.fPeek, TN.fC, TN.f2, TN.d2, TN.d2V, TN.f1, TN.d1, TN.fCB, TN.dCB, TN.dCBL, TN.fNil, TN.fCons, TN.asBool, TN.dTest, TN.bAnd, TN.bOr, TN.bNot, TN.dAnd, TN.dOr, TN.dNot, TN.fAndV, TN.fOrV, TN.fNotV, TN.dAndV, TN.dOrV, TN.dNotV, TN.dIfE, TN.dIfL, TN.fIfE, TN.fChain, TN.fSlice, TN.dSlice, TN.fNo, TN.fEnd, TN.dAppend, TN.dInsert, TN.dPopAt, TN.ownL, TN.start0, TN.begB, TN.backD, TN.wipeD, TN.dYes, TN.sNever, List.getElem?_cons_zero, List.getElem?_cons_succ, List.set_cons_zero, List.set_cons_succ, List.map_cons, List.map_nil, List.length_cons, List.length_nil, List.cons_append, List.nil_append, List.replicate_succ, List.replicate_zero, Option.map_some, Option.map_none, Nat.add_one_sub_one, Nat.sub_zero, Nat.sub_self, Nat.zero_add, reduceCtorEq, Option.some.injEq, PyData.int.injEq, PyData.str.injEq, PyData.bool.injEq, PyData.list.injEq, PyData.tuple.injEq, Sl.sh.injEq, Sl.ow.injEq, List.cons.injEq, exists_eq_left', exists_eq_left, true_implies, false_implies, and_true, true_and, forall_const, Option.isSome_some, TN.imp_ff, TN.imp_tf, TN.imp_tt, exists_eq_left, exists_eq_left', exists_eq])
  obtain ⟨m, em, m1⟩ : ∃ m : Nat, (if (if (ns.length : Int) < 4 then (ns.length : Int) else 4) > 1 then (if (ns.length : Int) < 4 then (ns.length : Int) else 4) else 1) = (m : Int) ∧ m ≤ 64 := by
    refine ⟨(if (if (ns.length : Int) < 4 then (ns.length : Int) else 4) > 1 then (if (ns.length : Int) < 4 then (ns.length : Int) else 4) else 1).toNat, ?_, ?_⟩ <;> (split <;> split) <;> omega
  refine ⟨.int m, by rw [oLen_ns, ← em]; rfl, _, rfl, by omega, by omega, ?_⟩
  rw [rangeD_nat]
  refine forD_go (fun (k : Nat) => PyData.int k) (fun ls ρ => ∃ b1 b2 : Sl, ρ = [.sh (.list (ns.map PyData.int)), b1, b2]) ?_ ?_ _ _ ⟨_, _, rfl⟩
  rotate_left
  · rintro ρ ⟨b1, b2, rfl⟩
    (simp only [TN.dCallM, TN.mVar, TN.sRetV, TN.dAug, TN.dCallNT, TN.dCallNL, TN.fIxTs, TN.sForI, TN.dCompI, TN.dCompL, TN.dCompT, TN.dCompR, TN.iL, TN.iT, TN.iR1, TN.iR2, TN.iR3, TN.iS, TN.iE, TN.iRv, TN.iZ, TN.dKeepT, TN.dCallT, TN.pTup, TN.pCons, TN.pOwn, TN.sAsgT, TN.sRetT, TN.tpL, TN.fIxT, TN.fTp, TN.dAppendT, TN.dReverseT, TN.dClearT, TN.dVarT, TN.dReverse, TN.dClear, TN.dPop, Pt.d, Sl.tp.injEq, TN.startF, TN.dCallV, Sl.fn.injEq, TN.dCallF, TN.dLRev, TN.dLAdd, TN.dLSlP, TN.dLSlice, TN.dSliceE, TN.dNo, TN.dEnd, TN.fNo, TN.sSeq, TN.sNext, TN.sDrop, TN.sRet, TN.sRetL, TN.sRetN, TN.sIf, TN.sAsg, TN.sAsgL, TN.sStore, TN.sForL, TN.sForT, TN.sForR, TN.sForR2, TN.tgN, TN.tgTup, TN.tgCons, TN.tgNil, TN.dP, TN.dB, TN.dCall, TN.dCallL, TN.dCallB, TN.dCallBL, TN.dCons, TN.dNil, TN.dTup, TN.dLst, TN.dKeep, TN.dVar, TN.fVar, TN.fPeek, TN.fC, TN.f2, TN.d2, TN.d2V, TN.f1, TN.d1, TN.fCB, TN.dCB, TN.dCBL, TN.fNil, TN.fCons, TN.asBool, TN.dTest, TN.bAnd, TN.bOr, TN.bNot, TN.dAnd, TN.dOr, TN.dNot, TN.fAndV, TN.fOrV, TN.fNotV, TN.dAndV, TN.dOrV, TN.dNotV, TN.dIfE, TN.dIfL, TN.fIfE, TN.fChain, TN.fSlice, TN.dSlice, TN.fNo, TN.fEnd, TN.dAppend, TN.dInsert, TN.dPopAt, TN.ownL, TN.start0, TN.begB, TN.backD, TN.wipeD, TN.dYes, TN.sNever, List.getElem?_cons_zero, List.getElem?_cons_succ, List.set_cons_zero, List.set_cons_succ, List.map_cons, List.map_nil, List.length_cons, List.length_nil, List.cons_append, List.nil_append, List.replicate_succ, List.replicate_zero, Option.map_some, Option.map_none, Nat.add_one_sub_one, Nat.sub_zero, Nat.sub_self, Nat.zero_add, reduceCtorEq, Option.some.injEq, PyData.int.injEq, PyData.str.injEq, PyData.bool.injEq, PyData.list.injEq, PyData.tuple.injEq, Sl.sh.injEq, Sl.ow.injEq, List.cons.injEq, exists_eq_left', exists_eq_left, true_implies, false_implies, and_true, true_and, forall_const, Option.isSome_some, TN.imp_ff, TN.imp_tf, TN.imp_tt, exists_eq_left, exists_eq_left', exists_eq])
    exact q
  rintro k ls ρ E' ⟨b1, b2, rfl⟩ nx _ rt _
  (simp only [TN.dCallM, TN.mVar, TN.sRetV, TN.dAug, TN.dCallNT, TN.dCallNL, TN.fIxTs, TN.sForI, TN.dCompI, TN.dCompL, TN.dCompT, TN.dCompR, TN.iL, TN.iT, TN.iR1, TN.iR2, TN.iR3, TN.iS, TN.iE, TN.iRv, TN.iZ, TN.dKeepT, TN.dCallT, TN.pTup, TN.pCons, TN.pOwn, TN.sAsgT, TN.sRetT, TN.tpL, TN.fIxT, TN.fTp, TN.dAppendT, TN.dReverseT, TN.dClearT, TN.dVarT, TN.dReverse, TN.dClear, TN.dPop, Pt.d, Sl.tp.injEq, TN.startF, TN.dCallV, Sl.fn.injEq, TN.dCallF, TN.dLRev, TN.dLAdd, TN.dLSlP, TN.dLSlice, TN.dSliceE, TN.dNo, TN.dEnd, TN.fNo, TN.sSeq, TN.sNext, TN.sDrop, TN.sRet, TN.sRetL, TN.sRetN, TN.sIf, TN.sAsg, TN.sAsgL, TN.sStore, TN.sForL, TN.sForT, TN.sForR, TN.sForR2, TN.tgN, TN.tgTup, TN.tgCons, TN.tgNil, TN.dP, TN.dB, TN.dCall, TN.dCallL, TN.dCallB, TN.dCallBL, TN.dCons, TN.dNil, TN.dTup, TN.dLst, TN.dKeep, TN.dVar, TN.fVar, TN.fPeek, TN.fC, TN.f2, TN.d2, TN.d2V, TN.f1, TN.d1, TN.fCB, TN.dCB, TN.dCBL, TN.fNil, TN.fCons, TN.asBool, TN.dTest, TN.bAnd, TN.bOr, TN.bNot, TN.dAnd, TN.dOr, TN.dNot, TN.fAndV, TN.fOrV, TN.fNotV, TN.dAndV, TN.dOrV, TN.dNotV, TN.dIfE, TN.dIfL, TN.fIfE, TN.fChain, TN.fSlice, TN.dSlice, TN.fNo, TN.fEnd, TN.dAppend, TN.dInsert, TN.dPopAt, TN.ownL, TN.start0, TN.begB, TN.backD, TN.wipeD, TN.dYes, TN.sNever, List.getElem?_cons_zero, List.getElem?_cons_succ, List.set_cons_zero, List.set_cons_succ, List.map_cons, List.map_nil, List.length_cons, List.length_nil, List.cons_append, List.nil_append, List.replicate_succ, List.replicate_zero, Option.map_some, Option.map_none, Nat.add_one_sub_one, Nat.sub_zero, Nat.sub_self, Nat.zero_add, reduceCtorEq, Option.some.injEq, PyData.int.injEq, PyData.str.injEq, PyData.bool.injEq, PyData.list.injEq, PyData.tuple.injEq, Sl.sh.injEq, Sl.ow.injEq, List.cons.injEq, exists_eq_left', exists_eq_left, true_implies, false_implies, and_true, true_and, forall_const, Option.isSome_some, TN.imp_ff, TN.imp_tf, TN.imp_tt, exists_eq_left, exists_eq_left', exists_eq])
  exact ⟨ns, k, rfl, fun c => ⟨_, rfl, _, oAdd_int, c + 10, rfl, fun ys sp => ⟨_, rfl, 0, sp, by decide, rfl, fun ys2 sp2 => ⟨_, rfl, true, rfl, (fun z => by cases z), fun _ => ⟨_, sp2, by decide, rfl, fun ys3 => ⟨_, rfl, true, rfl, (fun z => by cases z), fun _ => nx _ ⟨_, _, rfl⟩⟩⟩⟩⟩⟩⟩
end
/-! ### what the top left -/
theorem all_mk {P : Program} {w : World} {K : PySem.W.Frag} {h : Heap} {mg : Str → Option Value} {fa : Addr} (X : K.In h) (G : h.Ns mainGlobals mg) (hfa : mg "law" = some (.ref fa))
    {f0 : Addr} {od0 an0 : Option Addr} {sl0 : Array (Option Value)} {oc0 kv0 dc0 pm0 ct0 : Value} {cA0 : Addr}
    {f1 : Addr} {od1 an1 : Option Addr} {sl1 : Array (Option Value)} {oc1 kv1 dc1 pm1 ct1 : Value} {cA1 : Addr}
    {f2 : Addr} {od2 an2 : Option Addr} {sl2 : Array (Option Value)} {oc2 kv2 dc2 pm2 ct2 : Value} {cA2 : Addr}
    {f3 : Addr} {od3 an3 : Option Addr} {sl3 : Array (Option Value)} {oc3 kv3 dc3 pm3 ct3 : Value} {cA3 : Addr}
    {f4 : Addr} {od4 an4 : Option Addr} {sl4 : Array (Option Value)} {oc4 kv4 dc4 pm4 ct4 : Value} {cA4 : Addr}
    {f5 : Addr} {od5 an5 : Option Addr} {sl5 : Array (Option Value)} {oc5 kv5 dc5 pm5 ct5 : Value} {cA5 : Addr}
    {f6 : Addr} {od6 an6 : Option Addr} {sl6 : Array (Option Value)} {oc6 kv6 dc6 pm6 ct6 : Value} {cA6 : Addr}
    {f7 : Addr} {od7 an7 : Option Addr} {sl7 : Array (Option Value)} {oc7 kv7 dc7 pm7 ct7 : Value} {cA7 : Addr}
    {f8 : Addr} {od8 an8 : Option Addr} {sl8 : Array (Option Value)} {oc8 kv8 dc8 pm8 ct8 : Value} {cA8 : Addr}
    {f9 : Addr} {od9 an9 : Option Addr} {sl9 : Array (Option Value)} {oc9 kv9 dc9 pm9 ct9 : Value} {cA9 : Addr}
    {f10 : Addr} {od10 an10 : Option Addr} {sl10 : Array (Option Value)} {oc10 kv10 dc10 pm10 ct10 : Value} {cA10 : Addr}
    {f11 : Addr} {od11 an11 : Option Addr} {sl11 : Array (Option Value)} {oc11 kv11 dc11 pm11 ct11 : Value} {cA11 : Addr}
    {f12 : Addr} {od12 an12 : Option Addr} {sl12 : Array (Option Value)} {oc12 kv12 dc12 pm12 ct12 : Value} {cA12 : Addr}
    {f13 : Addr} {od13 an13 : Option Addr} {sl13 : Array (Option Value)} {oc13 kv13 dc13 pm13 ct13 : Value} {cA13 : Addr}
    {f14 : Addr} {od14 an14 : Option Addr} {sl14 : Array (Option Value)} {oc14 kv14 dc14 pm14 ct14 : Value} {cA14 : Addr}
    {f15 : Addr} {od15 an15 : Option Addr} {sl15 : Array (Option Value)} {oc15 kv15 dc15 pm15 ct15 : Value} {cA15 : Addr}
    {f16 : Addr} {od16 an16 : Option Addr} {sl16 : Array (Option Value)} {oc16 kv16 dc16 pm16 ct16 : Value} {cA16 : Addr}
    {f17 : Addr} {od17 an17 : Option Addr} {sl17 : Array (Option Value)} {oc17 kv17 dc17 pm17 ct17 : Value} {cA17 : Addr}
    {f18 : Addr} {od18 an18 : Option Addr} {sl18 : Array (Option Value)} {oc18 kv18 dc18 pm18 ct18 : Value} {cA18 : Addr}
    {f19 : Addr} {od19 an19 : Option Addr} {sl19 : Array (Option Value)} {oc19 kv19 dc19 pm19 ct19 : Value} {cA19 : Addr}
    {f20 : Addr} {od20 an20 : Option Addr} {sl20 : Array (Option Value)} {oc20 kv20 dc20 pm20 ct20 : Value} {cA20 : Addr}
    {f21 : Addr} {od21 an21 : Option Addr} {sl21 : Array (Option Value)} {oc21 kv21 dc21 pm21 ct21 : Value} {cA21 : Addr}
    {f22 : Addr} {od22 an22 : Option Addr} {sl22 : Array (Option Value)} {oc22 kv22 dc22 pm22 ct22 : Value} {cA22 : Addr}
    {f23 : Addr} {od23 an23 : Option Addr} {sl23 : Array (Option Value)} {oc23 kv23 dc23 pm23 ct23 : Value} {cA23 : Addr}
    {f24 : Addr} {od24 an24 : Option Addr} {sl24 : Array (Option Value)} {oc24 kv24 dc24 pm24 ct24 : Value} {cA24 : Addr}
    {f25 : Addr} {od25 an25 : Option Addr} {sl25 : Array (Option Value)} {oc25 kv25 dc25 pm25 ct25 : Value} {cA25 : Addr}
    {f26 : Addr} {od26 an26 : Option Addr} {sl26 : Array (Option Value)} {oc26 kv26 dc26 pm26 ct26 : Value} {cA26 : Addr}
    {f27 : Addr} {od27 an27 : Option Addr} {sl27 : Array (Option Value)} {oc27 kv27 dc27 pm27 ct27 : Value} {cA27 : Addr}
    {f28 : Addr} {od28 an28 : Option Addr} {sl28 : Array (Option Value)} {oc28 kv28 dc28 pm28 ct28 : Value} {cA28 : Addr}
    {f29 : Addr} {od29 an29 : Option Addr} {sl29 : Array (Option Value)} {oc29 kv29 dc29 pm29 ct29 : Value} {cA29 : Addr}
    {tkM : Tok}
    (a0 : PySem.W.nsIn K mainGlobals "is_letter" = some (some (.ref f0)))
    (l0 : K.lookup f0 = some ⟨oc0, od0, .func (PySem.W.fnOf "is_letter" "is_letter" (defArgs s_is_letter) (defBody s_is_letter) (defScope s_is_letter) .none kv0 dc0 pm0 an0 (.ref cA0) ct0), sl0⟩)
    (c0 : PySem.W.codeIn K (.ref cA0) "is_letter" = true)
    (k0 : PySem.W.keepIn K (.ref f0) = true)
    (a1 : PySem.W.nsIn K mainGlobals "is_row" = some (some (.ref f1)))
    (l1 : K.lookup f1 = some ⟨oc1, od1, .func (PySem.W.fnOf "is_row" "is_row" (defArgs s_is_row) (defBody s_is_row) (defScope s_is_row) .none kv1 dc1 pm1 an1 (.ref cA1) ct1), sl1⟩)
    (c1 : PySem.W.codeIn K (.ref cA1) "is_row" = true)
    (k1 : PySem.W.keepIn K (.ref f1) = true)
    (a2 : PySem.W.nsIn K mainGlobals "are_unlike_letters" = some (some (.ref f2)))
    (l2 : K.lookup f2 = some ⟨oc2, od2, .func (PySem.W.fnOf "are_unlike_letters" "are_unlike_letters" (defArgs s_are_unlike_letters) (defBody s_are_unlike_letters) (defScope s_are_unlike_letters) .none kv2 dc2 pm2 an2 (.ref cA2) ct2), sl2⟩)
    (c2 : PySem.W.codeIn K (.ref cA2) "are_unlike_letters" = true)
    (k2 : PySem.W.keepIn K (.ref f2) = true)
    (a3 : PySem.W.nsIn K mainGlobals "is_letter_of" = some (some (.ref f3)))
    (l3 : K.lookup f3 = some ⟨oc3, od3, .func (PySem.W.fnOf "is_letter_of" "is_letter_of" (defArgs s_is_letter_of) (defBody s_is_letter_of) (defScope s_is_letter_of) .none kv3 dc3 pm3 an3 (.ref cA3) ct3), sl3⟩)
    (c3 : PySem.W.codeIn K (.ref cA3) "is_letter_of" = true)
    (k3 : PySem.W.keepIn K (.ref f3) = true)
    (a4 : PySem.W.nsIn K mainGlobals "need_row" = some (some (.ref f4)))
    (l4 : K.lookup f4 = some ⟨oc4, od4, .func (PySem.W.fnOf "need_row" "need_row" (defArgs s_need_row) (defBody s_need_row) (defScope s_need_row) .none kv4 dc4 pm4 an4 (.ref cA4) ct4), sl4⟩)
    (c4 : PySem.W.codeIn K (.ref cA4) "need_row" = true)
    (k4 : PySem.W.keepIn K (.ref f4) = true)
    (a5 : PySem.W.nsIn K mainGlobals "need_letters" = some (some (.ref f5)))
    (l5 : K.lookup f5 = some ⟨oc5, od5, .func (PySem.W.fnOf "need_letters" "need_letters" (defArgs s_need_letters) (defBody s_need_letters) (defScope s_need_letters) .none kv5 dc5 pm5 an5 (.ref cA5) ct5), sl5⟩)
    (c5 : PySem.W.codeIn K (.ref cA5) "need_letters" = true)
    (k5 : PySem.W.keepIn K (.ref f5) = true)
    (a6 : PySem.W.nsIn K mainGlobals "to_front" = some (some (.ref f6)))
    (l6 : K.lookup f6 = some ⟨oc6, od6, .func (PySem.W.fnOf "to_front" "to_front" (defArgs s_to_front) (defBody s_to_front) (defScope s_to_front) .none kv6 dc6 pm6 an6 (.ref cA6) ct6), sl6⟩)
    (c6 : PySem.W.codeIn K (.ref cA6) "to_front" = true)
    (k6 : PySem.W.keepIn K (.ref f6) = true)
    (a7 : PySem.W.nsIn K mainGlobals "places_of_letters" = some (some (.ref f7)))
    (l7 : K.lookup f7 = some ⟨oc7, od7, .func (PySem.W.fnOf "places_of_letters" "places_of_letters" (defArgs s_places_of_letters) (defBody s_places_of_letters) (defScope s_places_of_letters) .none kv7 dc7 pm7 an7 (.ref cA7) ct7), sl7⟩)
    (c7 : PySem.W.codeIn K (.ref cA7) "places_of_letters" = true)
    (k7 : PySem.W.keepIn K (.ref f7) = true)
    (a8 : PySem.W.nsIn K mainGlobals "explained" = some (some (.ref f8)))
    (l8 : K.lookup f8 = some ⟨oc8, od8, .func (PySem.W.fnOf "explained" "explained" (defArgs s_explained) (defBody s_explained) (defScope s_explained) .none kv8 dc8 pm8 an8 (.ref cA8) ct8), sl8⟩)
    (c8 : PySem.W.codeIn K (.ref cA8) "explained" = true)
    (k8 : PySem.W.keepIn K (.ref f8) = true)
    (a9 : PySem.W.nsIn K mainGlobals "need_texts" = some (some (.ref f9)))
    (l9 : K.lookup f9 = some ⟨oc9, od9, .func (PySem.W.fnOf "need_texts" "need_texts" (defArgs s_need_texts) (defBody s_need_texts) (defScope s_need_texts) .none kv9 dc9 pm9 an9 (.ref cA9) ct9), sl9⟩)
    (c9 : PySem.W.codeIn K (.ref cA9) "need_texts" = true)
    (k9 : PySem.W.keepIn K (.ref f9) = true)
    (a10 : PySem.W.nsIn K mainGlobals "fewest_faults" = some (some (.ref f10)))
    (l10 : K.lookup f10 = some ⟨oc10, od10, .func (PySem.W.fnOf "fewest_faults" "fewest_faults" (defArgs s_fewest_faults) (defBody s_fewest_faults) (defScope s_fewest_faults) .none kv10 dc10 pm10 an10 (.ref cA10) ct10), sl10⟩)
    (c10 : PySem.W.codeIn K (.ref cA10) "fewest_faults" = true)
    (k10 : PySem.W.keepIn K (.ref f10) = true)
    (a11 : PySem.W.nsIn K mainGlobals "ways" = some (some (.ref f11)))
    (l11 : K.lookup f11 = some ⟨oc11, od11, .func (PySem.W.fnOf "ways" "ways" (defArgs s_ways) (defBody s_ways) (defScope s_ways) .none kv11 dc11 pm11 an11 (.ref cA11) ct11), sl11⟩)
    (c11 : PySem.W.codeIn K (.ref cA11) "ways" = true)
    (k11 : PySem.W.keepIn K (.ref f11) = true)
    (a12 : PySem.W.nsIn K mainGlobals "events_at" = some (some (.ref f12)))
    (l12 : K.lookup f12 = some ⟨oc12, od12, .func (PySem.W.fnOf "events_at" "events_at" (defArgs s_events_at) (defBody s_events_at) (defScope s_events_at) .none kv12 dc12 pm12 an12 (.ref cA12) ct12), sl12⟩)
    (c12 : PySem.W.codeIn K (.ref cA12) "events_at" = true)
    (k12 : PySem.W.keepIn K (.ref f12) = true)
    (a13 : PySem.W.nsIn K mainGlobals "fewest" = some (some (.ref f13)))
    (l13 : K.lookup f13 = some ⟨oc13, od13, .func (PySem.W.fnOf "fewest" "fewest" (defArgs s_fewest) (defBody s_fewest) (defScope s_fewest) .none kv13 dc13 pm13 an13 (.ref cA13) ct13), sl13⟩)
    (c13 : PySem.W.codeIn K (.ref cA13) "fewest" = true)
    (k13 : PySem.W.keepIn K (.ref f13) = true)
    (a14 : PySem.W.nsIn K mainGlobals "history" = some (some (.ref f14)))
    (l14 : K.lookup f14 = some ⟨oc14, od14, .func (PySem.W.fnOf "history" "history" (defArgs s_history) (defBody s_history) (defScope s_history) .none kv14 dc14 pm14 an14 (.ref cA14) ct14), sl14⟩)
    (c14 : PySem.W.codeIn K (.ref cA14) "history" = true)
    (k14 : PySem.W.keepIn K (.ref f14) = true)
    (a15 : PySem.W.nsIn K mainGlobals "_law_cell_at" = some (some (.ref f15)))
    (l15 : K.lookup f15 = some ⟨oc15, od15, .func (PySem.W.fnOf "_law_cell_at" "_law_cell_at" (defArgs s__law_cell_at) (defBody s__law_cell_at) (defScope s__law_cell_at) .none kv15 dc15 pm15 an15 (.ref cA15) ct15), sl15⟩)
    (c15 : PySem.W.codeIn K (.ref cA15) "_law_cell_at" = true)
    (k15 : PySem.W.keepIn K (.ref f15) = true)
    (a16 : PySem.W.nsIn K mainGlobals "_law_bag" = some (some (.ref f16)))
    (l16 : K.lookup f16 = some ⟨oc16, od16, .func (PySem.W.fnOf "_law_bag" "_law_bag" (defArgs s__law_bag) (defBody s__law_bag) (defScope s__law_bag) .none kv16 dc16 pm16 an16 (.ref cA16) ct16), sl16⟩)
    (c16 : PySem.W.codeIn K (.ref cA16) "_law_bag" = true)
    (k16 : PySem.W.keepIn K (.ref f16) = true)
    (a17 : PySem.W.nsIn K mainGlobals "_law_draw" = some (some (.ref f17)))
    (l17 : K.lookup f17 = some ⟨oc17, od17, .func (PySem.W.fnOf "_law_draw" "_law_draw" (defArgs s__law_draw) (defBody s__law_draw) (defScope s__law_draw) .none kv17 dc17 pm17 an17 (.ref cA17) ct17), sl17⟩)
    (c17 : PySem.W.codeIn K (.ref cA17) "_law_draw" = true)
    (k17 : PySem.W.keepIn K (.ref f17) = true)
    (a18 : PySem.W.nsIn K mainGlobals "_law_line" = some (some (.ref f18)))
    (l18 : K.lookup f18 = some ⟨oc18, od18, .func (PySem.W.fnOf "_law_line" "_law_line" (defArgs s__law_line) (defBody s__law_line) (defScope s__law_line) .none kv18 dc18 pm18 an18 (.ref cA18) ct18), sl18⟩)
    (c18 : PySem.W.codeIn K (.ref cA18) "_law_line" = true)
    (k18 : PySem.W.keepIn K (.ref f18) = true)
    (a19 : PySem.W.nsIn K mainGlobals "_law_front" = some (some (.ref f19)))
    (l19 : K.lookup f19 = some ⟨oc19, od19, .func (PySem.W.fnOf "_law_front" "_law_front" (defArgs s__law_front) (defBody s__law_front) (defScope s__law_front) .none kv19 dc19 pm19 an19 (.ref cA19) ct19), sl19⟩)
    (c19 : PySem.W.codeIn K (.ref cA19) "_law_front" = true)
    (k19 : PySem.W.keepIn K (.ref f19) = true)
    (a20 : PySem.W.nsIn K mainGlobals "_law_act" = some (some (.ref f20)))
    (l20 : K.lookup f20 = some ⟨oc20, od20, .func (PySem.W.fnOf "_law_act" "_law_act" (defArgs s__law_act) (defBody s__law_act) (defScope s__law_act) .none kv20 dc20 pm20 an20 (.ref cA20) ct20), sl20⟩)
    (c20 : PySem.W.codeIn K (.ref cA20) "_law_act" = true)
    (k20 : PySem.W.keepIn K (.ref f20) = true)
    (a21 : PySem.W.nsIn K mainGlobals "_law_gone" = some (some (.ref f21)))
    (l21 : K.lookup f21 = some ⟨oc21, od21, .func (PySem.W.fnOf "_law_gone" "_law_gone" (defArgs s__law_gone) (defBody s__law_gone) (defScope s__law_gone) .none kv21 dc21 pm21 an21 (.ref cA21) ct21), sl21⟩)
    (c21 : PySem.W.codeIn K (.ref cA21) "_law_gone" = true)
    (k21 : PySem.W.keepIn K (.ref f21) = true)
    (a22 : PySem.W.nsIn K mainGlobals "_law_acts" = some (some (.ref f22)))
    (l22 : K.lookup f22 = some ⟨oc22, od22, .func (PySem.W.fnOf "_law_acts" "_law_acts" (defArgs s__law_acts) (defBody s__law_acts) (defScope s__law_acts) .none kv22 dc22 pm22 an22 (.ref cA22) ct22), sl22⟩)
    (c22 : PySem.W.codeIn K (.ref cA22) "_law_acts" = true)
    (k22 : PySem.W.keepIn K (.ref f22) = true)
    (a23 : PySem.W.nsIn K mainGlobals "_law_faults" = some (some (.ref f23)))
    (l23 : K.lookup f23 = some ⟨oc23, od23, .func (PySem.W.fnOf "_law_faults" "_law_faults" (defArgs s__law_faults) (defBody s__law_faults) (defScope s__law_faults) .none kv23 dc23 pm23 an23 (.ref cA23) ct23), sl23⟩)
    (c23 : PySem.W.codeIn K (.ref cA23) "_law_faults" = true)
    (k23 : PySem.W.keepIn K (.ref f23) = true)
    (a24 : PySem.W.nsIn K mainGlobals "_law_near" = some (some (.ref f24)))
    (l24 : K.lookup f24 = some ⟨oc24, od24, .func (PySem.W.fnOf "_law_near" "_law_near" (defArgs s__law_near) (defBody s__law_near) (defScope s__law_near) .none kv24 dc24 pm24 an24 (.ref cA24) ct24), sl24⟩)
    (c24 : PySem.W.codeIn K (.ref cA24) "_law_near" = true)
    (k24 : PySem.W.keepIn K (.ref f24) = true)
    (a25 : PySem.W.nsIn K mainGlobals "_law_rows_by" = some (some (.ref f25)))
    (l25 : K.lookup f25 = some ⟨oc25, od25, .func (PySem.W.fnOf "_law_rows_by" "_law_rows_by" (defArgs s__law_rows_by) (defBody s__law_rows_by) (defScope s__law_rows_by) .none kv25 dc25 pm25 an25 (.ref cA25) ct25), sl25⟩)
    (c25 : PySem.W.codeIn K (.ref cA25) "_law_rows_by" = true)
    (k25 : PySem.W.keepIn K (.ref f25) = true)
    (a26 : PySem.W.nsIn K mainGlobals "_law_fewest" = some (some (.ref f26)))
    (l26 : K.lookup f26 = some ⟨oc26, od26, .func (PySem.W.fnOf "_law_fewest" "_law_fewest" (defArgs s__law_fewest) (defBody s__law_fewest) (defScope s__law_fewest) .none kv26 dc26 pm26 an26 (.ref cA26) ct26), sl26⟩)
    (c26 : PySem.W.codeIn K (.ref cA26) "_law_fewest" = true)
    (k26 : PySem.W.keepIn K (.ref f26) = true)
    (a27 : PySem.W.nsIn K mainGlobals "_law_right" = some (some (.ref f27)))
    (l27 : K.lookup f27 = some ⟨oc27, od27, .func (PySem.W.fnOf "_law_right" "_law_right" (defArgs s__law_right) (defBody s__law_right) (defScope s__law_right) .none kv27 dc27 pm27 an27 (.ref cA27) ct27), sl27⟩)
    (c27 : PySem.W.codeIn K (.ref cA27) "_law_right" = true)
    (k27 : PySem.W.keepIn K (.ref f27) = true)
    (a28 : PySem.W.nsIn K mainGlobals "_law_far_right" = some (some (.ref f28)))
    (l28 : K.lookup f28 = some ⟨oc28, od28, .func (PySem.W.fnOf "_law_far_right" "_law_far_right" (defArgs s__law_far_right) (defBody s__law_far_right) (defScope s__law_far_right) .none kv28 dc28 pm28 an28 (.ref cA28) ct28), sl28⟩)
    (c28 : PySem.W.codeIn K (.ref cA28) "_law_far_right" = true)
    (k28 : PySem.W.keepIn K (.ref f28) = true)
    (a29 : PySem.W.nsIn K mainGlobals "law" = some (some (.ref f29)))
    (l29 : K.lookup f29 = some ⟨oc29, od29, .func (PySem.W.fnOf "law" "law" (defArgs s_law) (defBody s_law) (defScope s_law) .none kv29 dc29 pm29 an29 (.ref cA29) ct29), sl29⟩)
    (c29 : PySem.W.codeIn K (.ref cA29) "law" = true)
    (k29 : PySem.W.keepIn K (.ref f29) = true)
    (z_abs : PySem.W.nsIn K mainGlobals "abs" = some none)
    (z_all : PySem.W.nsIn K mainGlobals "all" = some none)
    (z_enumerate : PySem.W.nsIn K mainGlobals "enumerate" = some none)
    (z_len : PySem.W.nsIn K mainGlobals "len" = some none)
    (z_list : PySem.W.nsIn K mainGlobals "list" = some none)
    (z_max : PySem.W.nsIn K mainGlobals "max" = some none)
    (z_min : PySem.W.nsIn K mainGlobals "min" = some none)
    (z_range : PySem.W.nsIn K mainGlobals "range" = some none)
    (z_repr : PySem.W.nsIn K mainGlobals "repr" = some none)
    (z_reversed : PySem.W.nsIn K mainGlobals "reversed" = some none)
    (z_set : PySem.W.nsIn K mainGlobals "set" = some none)
    (z_str : PySem.W.nsIn K mainGlobals "str" = some none)
    (z_tuple : PySem.W.nsIn K mainGlobals "tuple" = some none)
    (z_type : PySem.W.nsIn K mainGlobals "type" = some none)
    (cM : PySem.W.nsIn K mainGlobals "MOST_LETTERS" = some (some (.int 16 tkM)))
    {tA14 : Addr} (hm14 : (tA14, (("history" ++ ".<locals>." ++ "<lambda>" : Str))) ∈ tabsOf K) (hu14 : ∀ p ∈ tabsOf K, p.1 = tA14 → p.2 = (("history" ++ ".<locals>." ++ "<lambda>" : Str))) :
    ∃ fd : FuncData, (∀ (s : Shared) (u : Value), BindsTo s fd ⟨[u], []⟩ [("script", u)]) ∧ ∀ base : Heap, K.In base → base.Ns mainGlobals mg → LamX.TabB base mg cA14 tA14 → FnG P w K mg base CX0 9 fa fd ["script"] (sp0 K semLaw) := by
  have e := hfa.symm.trans (PySem.W.mg_of X G a29)
  cases e
  have b : Blt mg := ⟨PySem.W.mg_none_of X G z_abs, PySem.W.mg_none_of X G z_all, PySem.W.mg_none_of X G z_enumerate, PySem.W.mg_none_of X G z_len, PySem.W.mg_none_of X G z_list, PySem.W.mg_none_of X G z_max, PySem.W.mg_none_of X G z_min, PySem.W.mg_none_of X G z_range, PySem.W.mg_none_of X G z_repr, PySem.W.mg_none_of X G z_reversed, PySem.W.mg_none_of X G z_set, PySem.W.mg_none_of X G z_str, PySem.W.mg_none_of X G z_tuple, PySem.W.mg_none_of X G z_type⟩
  have F0 := fun_mk (st := s_is_letter) l0 c0 k0
  have F1 := fun_mk (st := s_is_row) l1 c1 k1
  have F2 := fun_mk (st := s_are_unlike_letters) l2 c2 k2
  have F3 := fun_mk (st := s_is_letter_of) l3 c3 k3
  have F4 := fun_mk (st := s_need_row) l4 c4 k4
  have F5 := fun_mk (st := s_need_letters) l5 c5 k5
  have F6 := fun_mk (st := s_to_front) l6 c6 k6
  have F7 := fun_mk (st := s_places_of_letters) l7 c7 k7
  have F8 := fun_mk (st := s_explained) l8 c8 k8
  have F9 := fun_mk (st := s_need_texts) l9 c9 k9
  have F10 := fun_mk (st := s_fewest_faults) l10 c10 k10
  have F11 := fun_mk (st := s_ways) l11 c11 k11
  have F12 := fun_mk (st := s_events_at) l12 c12 k12
  have F13 := fun_mk (st := s_fewest) l13 c13 k13
  have F14 := fun_mk (st := s_history) l14 c14 k14
  have F15 := fun_mk (st := s__law_cell_at) l15 c15 k15
  have F16 := fun_mk (st := s__law_bag) l16 c16 k16
  have F17 := fun_mk (st := s__law_draw) l17 c17 k17
  have F18 := fun_mk (st := s__law_line) l18 c18 k18
  have F19 := fun_mk (st := s__law_front) l19 c19 k19
  have F20 := fun_mk (st := s__law_act) l20 c20 k20
  have F21 := fun_mk (st := s__law_gone) l21 c21 k21
  have F22 := fun_mk (st := s__law_acts) l22 c22 k22
  have F23 := fun_mk (st := s__law_faults) l23 c23 k23
  have F24 := fun_mk (st := s__law_near) l24 c24 k24
  have F25 := fun_mk (st := s__law_rows_by) l25 c25 k25
  have F26 := fun_mk (st := s__law_fewest) l26 c26 k26
  have F27 := fun_mk (st := s__law_right) l27 c27 k27
  have F28 := fun_mk (st := s__law_far_right) l28 c28 k28
  have F29 := fun_mk (st := s_law) l29 c29 k29
  have cM1 := PySem.W.mg_of X G cM
  refine ⟨PySem.W.fnOf "law" "law" (defArgs s_law) (defBody s_law) (defScope s_law) .none kv29 dc29 pm29 an29 (.ref cA29) ct29, fun s v => .of_eq rfl, fun base _ _ tb_history => ?_⟩
  have H_is_letter := has_of (ok_is_letter (P := P) (w := w) (K := K) (mg := mg) (base := base) b (F := F0)) (PySem.W.mg_of X G a0) F0 fun _ _ _ _ _ _ us hl => match us, hl with | [_], _ => rfl
  have H_to_front := has_of (ok_to_front (P := P) (w := w) (K := K) (mg := mg) (base := base) b (F := F6)) (PySem.W.mg_of X G a6) F6 fun _ _ _ _ _ _ us hl => match us, hl with | [_, _], _ => rfl
  have H_events_at := has_of (ok_events_at (P := P) (w := w) (K := K) (mg := mg) (base := base) b (F := F12)) (PySem.W.mg_of X G a12) F12 fun _ _ _ _ _ _ us hl => match us, hl with | [_, _, _], _ => rfl
  have H_fewest := has_of (ok_fewest (P := P) (w := w) (K := K) (mg := mg) (base := base) b (F := F13)) (PySem.W.mg_of X G a13) F13 fun _ _ _ _ _ _ us hl => match us, hl with | [_], _ => rfl
  have H__law_cell_at := has_of (ok__law_cell_at (P := P) (w := w) (K := K) (mg := mg) (base := base) b (F := F15)) (PySem.W.mg_of X G a15) F15 fun _ _ _ _ _ _ us hl => match us, hl with | [_, _], _ => rfl
  have H__law_bag := has_of (ok__law_bag (P := P) (w := w) (K := K) (mg := mg) (base := base) b (F := F16)) (PySem.W.mg_of X G a16) F16 fun _ _ _ _ _ _ us hl => match us, hl with | [_], _ => rfl
  have H__law_draw := has_of (ok__law_draw (P := P) (w := w) (K := K) (mg := mg) (base := base) b (F := F17)) (PySem.W.mg_of X G a17) F17 fun _ _ _ _ _ _ us hl => match us, hl with | [_, _], _ => rfl
  have H__law_front := has_of (ok__law_front (P := P) (w := w) (K := K) (mg := mg) (base := base) b (F := F19)) (PySem.W.mg_of X G a19) F19 fun _ _ _ _ _ _ us hl => match us, hl with | [_, _], _ => rfl
  have H_are_unlike_letters := has_of (ok_are_unlike_letters (P := P) (w := w) (K := K) (mg := mg) (base := base) b (h_is_letter := H_is_letter) (F := F2)) (PySem.W.mg_of X G a2) F2 fun _ _ _ _ _ _ us hl => match us, hl with | [_], _ => rfl
  have H_is_letter_of := has_of (ok_is_letter_of (P := P) (w := w) (K := K) (mg := mg) (base := base) b (h_is_letter := H_is_letter) (F := F3)) (PySem.W.mg_of X G a3) F3 fun _ _ _ _ _ _ us hl => match us, hl with | [_, _], _ => rfl
  have H_places_of_letters := has_of (ok_places_of_letters (P := P) (w := w) (K := K) (mg := mg) (base := base) b (h_to_front := H_to_front) (F := F7)) (PySem.W.mg_of X G a7) F7 fun _ _ _ _ _ _ us hl => match us, hl with | [_, _], _ => rfl
  have H_ways := has_of (ok_ways (P := P) (w := w) (K := K) (mg := mg) (base := base) b (h_events_at := H_events_at) (F := F11)) (PySem.W.mg_of X G a11) F11 fun _ _ _ _ _ _ us hl => match us, hl with | [_, _, _, _], _ => rfl
  have H__law_line := has_of (ok__law_line (P := P) (w := w) (K := K) (mg := mg) (base := base) b (h__law_draw := H__law_draw) (F := F18)) (PySem.W.mg_of X G a18) F18 fun _ _ _ _ _ _ us hl => match us, hl with | [_, _], _ => rfl
  have H__law_act := has_of (ok__law_act (P := P) (w := w) (K := K) (mg := mg) (base := base) b (h__law_front := H__law_front) (F := F20)) (PySem.W.mg_of X G a20) F20 fun _ _ _ _ _ _ us hl => match us, hl with | [_, _], _ => rfl
  have H__law_acts := has_of (ok__law_acts (P := P) (w := w) (K := K) (mg := mg) (base := base) b (h__law_draw := H__law_draw) (F := F22)) (PySem.W.mg_of X G a22) F22 fun _ _ _ _ _ _ us hl => match us, hl with | [_, _, _, _], _ => rfl
  have H__law_near := has_of (ok__law_near (P := P) (w := w) (K := K) (mg := mg) (base := base) b (h__law_draw := H__law_draw) (F := F24)) (PySem.W.mg_of X G a24) F24 fun _ _ _ _ _ _ us hl => match us, hl with | [_, _, _], _ => rfl
  have H__law_rows_by := has_of (ok__law_rows_by (P := P) (w := w) (K := K) (mg := mg) (base := base) b (h__law_front := H__law_front) (F := F25)) (PySem.W.mg_of X G a25) F25 fun _ _ _ _ _ _ us hl => match us, hl with | [_, _], _ => rfl
  have H_is_row := has_of (ok_is_row (P := P) (w := w) (K := K) (mg := mg) (base := base) b (h_are_unlike_letters := H_are_unlike_letters) (c_MOST_LETTERS := cM1) (F := F1)) (PySem.W.mg_of X G a1) F1 fun _ _ _ _ _ _ us hl => match us, hl with | [_], _ => rfl
  have H_need_letters := has_of (ok_need_letters (P := P) (w := w) (K := K) (mg := mg) (base := base) b (h_is_letter_of := H_is_letter_of) (F := F5)) (PySem.W.mg_of X G a5) F5 fun _ _ _ _ _ _ us hl => match us, hl with | [_, _], _ => rfl
  have H_fewest_faults := has_of (ok_fewest_faults (P := P) (w := w) (K := K) (mg := mg) (base := base) b (h_fewest := H_fewest) (h_ways := H_ways) (F := F10)) (PySem.W.mg_of X G a10) F10 fun _ _ _ _ _ _ us hl => match us, hl with | [_, _], _ => rfl
  have H_history := has_of (ok_history (P := P) (w := w) (K := K) (mg := mg) (base := base) b (h_ways := H_ways) (L := ⟨tb_history, hm14, hu14⟩) (F := F14) (hcd := rfl)) (PySem.W.mg_of X G a14) F14 fun _ _ _ _ _ _ us hl => match us, hl with | [_, _, _], _ => rfl
  have H__law_gone := has_of (ok__law_gone (P := P) (w := w) (K := K) (mg := mg) (base := base) b (h__law_act := H__law_act) (F := F21)) (PySem.W.mg_of X G a21) F21 fun _ _ _ _ _ _ us hl => match us, hl with | [_, _], _ => rfl
  have H__law_fewest := has_of (ok__law_fewest (P := P) (w := w) (K := K) (mg := mg) (base := base) b (h__law_rows_by := H__law_rows_by) (F := F26)) (PySem.W.mg_of X G a26) F26 fun _ _ _ _ _ _ us hl => match us, hl with | [_, _, _], _ => rfl
  have H_need_row := has_of (ok_need_row (P := P) (w := w) (K := K) (mg := mg) (base := base) b (h_is_row := H_is_row) (F := F4)) (PySem.W.mg_of X G a4) F4 fun _ _ _ _ _ _ us hl => match us, hl with | [_], _ => rfl
  have H_need_texts := has_of (ok_need_texts (P := P) (w := w) (K := K) (mg := mg) (base := base) b (h_need_row := H_need_row) (h_need_letters := H_need_letters) (F := F9)) (PySem.W.mg_of X G a9) F9 fun _ _ _ _ _ _ us hl => match us, hl with | [_, _, _], _ => rfl
  have H_explained := has_of (ok_explained (P := P) (w := w) (K := K) (mg := mg) (base := base) b (h_need_texts := H_need_texts) (h_places_of_letters := H_places_of_letters) (h_fewest_faults := H_fewest_faults) (h_history := H_history) (F := F8)) (PySem.W.mg_of X G a8) F8 fun _ _ _ _ _ _ us hl => match us, hl with | [_, _, _], _ => rfl
  have H__law_faults := has_of (ok__law_faults (P := P) (w := w) (K := K) (mg := mg) (base := base) b (h_explained := H_explained) (h__law_gone := H__law_gone) (F := F23)) (PySem.W.mg_of X G a23) F23 fun _ _ _ _ _ _ us hl => match us, hl with | [_, _, _], _ => rfl
  have H__law_right := has_of (ok__law_right (P := P) (w := w) (K := K) (mg := mg) (base := base) b (h__law_line := H__law_line) (h__law_acts := H__law_acts) (h__law_draw := H__law_draw) (h__law_gone := H__law_gone) (h__law_faults := H__law_faults) (h__law_fewest := H__law_fewest) (h__law_near := H__law_near) (F := F27)) (PySem.W.mg_of X G a27) F27 fun _ _ _ _ _ _ us hl => match us, hl with | [_], _ => rfl
  have H__law_far_right := has_of (ok__law_far_right (P := P) (w := w) (K := K) (mg := mg) (base := base) b (h__law_line := H__law_line) (h__law_draw := H__law_draw) (h__law_front := H__law_front) (h_explained := H_explained) (h__law_gone := H__law_gone) (h__law_faults := H__law_faults) (F := F28)) (PySem.W.mg_of X G a28) F28 fun _ _ _ _ _ _ us hl => match us, hl with | [_], _ => rfl
  exact ok_law (P := P) (w := w) (K := K) (mg := mg) (base := base) b (h__law_bag := H__law_bag) (h__law_cell_at := H__law_cell_at) (h__law_right := H__law_right) (h__law_far_right := H__law_far_right) (F := F29)
theorem all_top {P : Program} {w : World} {K : PySem.W.Frag} {h : Heap} {mg : Str → Option Value} {fa : Addr} {ts : List Addr} (X : K.In h) (HT : ∀ a ∈ ts, h.get? a = some (PySem.W.tabObj #[])) (G : h.Ns mainGlobals mg) (hfa : mg "law" = some (.ref fa))
    {f0 : Addr} {od0 an0 : Option Addr} {sl0 : Array (Option Value)} {oc0 kv0 dc0 pm0 ct0 : Value} {cA0 : Addr}
    {f1 : Addr} {od1 an1 : Option Addr} {sl1 : Array (Option Value)} {oc1 kv1 dc1 pm1 ct1 : Value} {cA1 : Addr}
    {f2 : Addr} {od2 an2 : Option Addr} {sl2 : Array (Option Value)} {oc2 kv2 dc2 pm2 ct2 : Value} {cA2 : Addr}
    {f3 : Addr} {od3 an3 : Option Addr} {sl3 : Array (Option Value)} {oc3 kv3 dc3 pm3 ct3 : Value} {cA3 : Addr}
    {f4 : Addr} {od4 an4 : Option Addr} {sl4 : Array (Option Value)} {oc4 kv4 dc4 pm4 ct4 : Value} {cA4 : Addr}
    {f5 : Addr} {od5 an5 : Option Addr} {sl5 : Array (Option Value)} {oc5 kv5 dc5 pm5 ct5 : Value} {cA5 : Addr}
    {f6 : Addr} {od6 an6 : Option Addr} {sl6 : Array (Option Value)} {oc6 kv6 dc6 pm6 ct6 : Value} {cA6 : Addr}
    {f7 : Addr} {od7 an7 : Option Addr} {sl7 : Array (Option Value)} {oc7 kv7 dc7 pm7 ct7 : Value} {cA7 : Addr}
    {f8 : Addr} {od8 an8 : Option Addr} {sl8 : Array (Option Value)} {oc8 kv8 dc8 pm8 ct8 : Value} {cA8 : Addr}
    {f9 : Addr} {od9 an9 : Option Addr} {sl9 : Array (Option Value)} {oc9 kv9 dc9 pm9 ct9 : Value} {cA9 : Addr}
    {f10 : Addr} {od10 an10 : Option Addr} {sl10 : Array (Option Value)} {oc10 kv10 dc10 pm10 ct10 : Value} {cA10 : Addr}
    {f11 : Addr} {od11 an11 : Option Addr} {sl11 : Array (Option Value)} {oc11 kv11 dc11 pm11 ct11 : Value} {cA11 : Addr}
    {f12 : Addr} {od12 an12 : Option Addr} {sl12 : Array (Option Value)} {oc12 kv12 dc12 pm12 ct12 : Value} {cA12 : Addr}
    {f13 : Addr} {od13 an13 : Option Addr} {sl13 : Array (Option Value)} {oc13 kv13 dc13 pm13 ct13 : Value} {cA13 : Addr}
    {f14 : Addr} {od14 an14 : Option Addr} {sl14 : Array (Option Value)} {oc14 kv14 dc14 pm14 ct14 : Value} {cA14 : Addr}
    {f15 : Addr} {od15 an15 : Option Addr} {sl15 : Array (Option Value)} {oc15 kv15 dc15 pm15 ct15 : Value} {cA15 : Addr}
    {f16 : Addr} {od16 an16 : Option Addr} {sl16 : Array (Option Value)} {oc16 kv16 dc16 pm16 ct16 : Value} {cA16 : Addr}
    {f17 : Addr} {od17 an17 : Option Addr} {sl17 : Array (Option Value)} {oc17 kv17 dc17 pm17 ct17 : Value} {cA17 : Addr}
    {f18 : Addr} {od18 an18 : Option Addr} {sl18 : Array (Option Value)} {oc18 kv18 dc18 pm18 ct18 : Value} {cA18 : Addr}
    {f19 : Addr} {od19 an19 : Option Addr} {sl19 : Array (Option Value)} {oc19 kv19 dc19 pm19 ct19 : Value} {cA19 : Addr}
    {f20 : Addr} {od20 an20 : Option Addr} {sl20 : Array (Option Value)} {oc20 kv20 dc20 pm20 ct20 : Value} {cA20 : Addr}
    {f21 : Addr} {od21 an21 : Option Addr} {sl21 : Array (Option Value)} {oc21 kv21 dc21 pm21 ct21 : Value} {cA21 : Addr}
    {f22 : Addr} {od22 an22 : Option Addr} {sl22 : Array (Option Value)} {oc22 kv22 dc22 pm22 ct22 : Value} {cA22 : Addr}
    {f23 : Addr} {od23 an23 : Option Addr} {sl23 : Array (Option Value)} {oc23 kv23 dc23 pm23 ct23 : Value} {cA23 : Addr}
    {f24 : Addr} {od24 an24 : Option Addr} {sl24 : Array (Option Value)} {oc24 kv24 dc24 pm24 ct24 : Value} {cA24 : Addr}
    {f25 : Addr} {od25 an25 : Option Addr} {sl25 : Array (Option Value)} {oc25 kv25 dc25 pm25 ct25 : Value} {cA25 : Addr}
    {f26 : Addr} {od26 an26 : Option Addr} {sl26 : Array (Option Value)} {oc26 kv26 dc26 pm26 ct26 : Value} {cA26 : Addr}
    {f27 : Addr} {od27 an27 : Option Addr} {sl27 : Array (Option Value)} {oc27 kv27 dc27 pm27 ct27 : Value} {cA27 : Addr}
    {f28 : Addr} {od28 an28 : Option Addr} {sl28 : Array (Option Value)} {oc28 kv28 dc28 pm28 ct28 : Value} {cA28 : Addr}
    {f29 : Addr} {od29 an29 : Option Addr} {sl29 : Array (Option Value)} {oc29 kv29 dc29 pm29 ct29 : Value} {cA29 : Addr}
    {tkM : Tok}
    (a0 : PySem.W.nsIn K mainGlobals "is_letter" = some (some (.ref f0)))
    (l0 : K.lookup f0 = some ⟨oc0, od0, .func (PySem.W.fnOf "is_letter" "is_letter" (defArgs s_is_letter) (defBody s_is_letter) (defScope s_is_letter) .none kv0 dc0 pm0 an0 (.ref cA0) ct0), sl0⟩)
    (c0 : PySem.W.codeIn K (.ref cA0) "is_letter" = true)
    (k0 : PySem.W.keepIn K (.ref f0) = true)
    (a1 : PySem.W.nsIn K mainGlobals "is_row" = some (some (.ref f1)))
    (l1 : K.lookup f1 = some ⟨oc1, od1, .func (PySem.W.fnOf "is_row" "is_row" (defArgs s_is_row) (defBody s_is_row) (defScope s_is_row) .none kv1 dc1 pm1 an1 (.ref cA1) ct1), sl1⟩)
    (c1 : PySem.W.codeIn K (.ref cA1) "is_row" = true)
    (k1 : PySem.W.keepIn K (.ref f1) = true)
    (a2 : PySem.W.nsIn K mainGlobals "are_unlike_letters" = some (some (.ref f2)))
    (l2 : K.lookup f2 = some ⟨oc2, od2, .func (PySem.W.fnOf "are_unlike_letters" "are_unlike_letters" (defArgs s_are_unlike_letters) (defBody s_are_unlike_letters) (defScope s_are_unlike_letters) .none kv2 dc2 pm2 an2 (.ref cA2) ct2), sl2⟩)
    (c2 : PySem.W.codeIn K (.ref cA2) "are_unlike_letters" = true)
    (k2 : PySem.W.keepIn K (.ref f2) = true)
    (a3 : PySem.W.nsIn K mainGlobals "is_letter_of" = some (some (.ref f3)))
    (l3 : K.lookup f3 = some ⟨oc3, od3, .func (PySem.W.fnOf "is_letter_of" "is_letter_of" (defArgs s_is_letter_of) (defBody s_is_letter_of) (defScope s_is_letter_of) .none kv3 dc3 pm3 an3 (.ref cA3) ct3), sl3⟩)
    (c3 : PySem.W.codeIn K (.ref cA3) "is_letter_of" = true)
    (k3 : PySem.W.keepIn K (.ref f3) = true)
    (a4 : PySem.W.nsIn K mainGlobals "need_row" = some (some (.ref f4)))
    (l4 : K.lookup f4 = some ⟨oc4, od4, .func (PySem.W.fnOf "need_row" "need_row" (defArgs s_need_row) (defBody s_need_row) (defScope s_need_row) .none kv4 dc4 pm4 an4 (.ref cA4) ct4), sl4⟩)
    (c4 : PySem.W.codeIn K (.ref cA4) "need_row" = true)
    (k4 : PySem.W.keepIn K (.ref f4) = true)
    (a5 : PySem.W.nsIn K mainGlobals "need_letters" = some (some (.ref f5)))
    (l5 : K.lookup f5 = some ⟨oc5, od5, .func (PySem.W.fnOf "need_letters" "need_letters" (defArgs s_need_letters) (defBody s_need_letters) (defScope s_need_letters) .none kv5 dc5 pm5 an5 (.ref cA5) ct5), sl5⟩)
    (c5 : PySem.W.codeIn K (.ref cA5) "need_letters" = true)
    (k5 : PySem.W.keepIn K (.ref f5) = true)
    (a6 : PySem.W.nsIn K mainGlobals "to_front" = some (some (.ref f6)))
    (l6 : K.lookup f6 = some ⟨oc6, od6, .func (PySem.W.fnOf "to_front" "to_front" (defArgs s_to_front) (defBody s_to_front) (defScope s_to_front) .none kv6 dc6 pm6 an6 (.ref cA6) ct6), sl6⟩)
    (c6 : PySem.W.codeIn K (.ref cA6) "to_front" = true)
    (k6 : PySem.W.keepIn K (.ref f6) = true)
    (a7 : PySem.W.nsIn K mainGlobals "places_of_letters" = some (some (.ref f7)))
    (l7 : K.lookup f7 = some ⟨oc7, od7, .func (PySem.W.fnOf "places_of_letters" "places_of_letters" (defArgs s_places_of_letters) (defBody s_places_of_letters) (defScope s_places_of_letters) .none kv7 dc7 pm7 an7 (.ref cA7) ct7), sl7⟩)
    (c7 : PySem.W.codeIn K (.ref cA7) "places_of_letters" = true)
    (k7 : PySem.W.keepIn K (.ref f7) = true)
    (a8 : PySem.W.nsIn K mainGlobals "explained" = some (some (.ref f8)))
    (l8 : K.lookup f8 = some ⟨oc8, od8, .func (PySem.W.fnOf "explained" "explained" (defArgs s_explained) (defBody s_explained) (defScope s_explained) .none kv8 dc8 pm8 an8 (.ref cA8) ct8), sl8⟩)
    (c8 : PySem.W.codeIn K (.ref cA8) "explained" = true)
    (k8 : PySem.W.keepIn K (.ref f8) = true)
    (a9 : PySem.W.nsIn K mainGlobals "need_texts" = some (some (.ref f9)))
    (l9 : K.lookup f9 = some ⟨oc9, od9, .func (PySem.W.fnOf "need_texts" "need_texts" (defArgs s_need_texts) (defBody s_need_texts) (defScope s_need_texts) .none kv9 dc9 pm9 an9 (.ref cA9) ct9), sl9⟩)
    (c9 : PySem.W.codeIn K (.ref cA9) "need_texts" = true)
    (k9 : PySem.W.keepIn K (.ref f9) = true)
    (a10 : PySem.W.nsIn K mainGlobals "fewest_faults" = some (some (.ref f10)))
    (l10 : K.lookup f10 = some ⟨oc10, od10, .func (PySem.W.fnOf "fewest_faults" "fewest_faults" (defArgs s_fewest_faults) (defBody s_fewest_faults) (defScope s_fewest_faults) .none kv10 dc10 pm10 an10 (.ref cA10) ct10), sl10⟩)
    (c10 : PySem.W.codeIn K (.ref cA10) "fewest_faults" = true)
    (k10 : PySem.W.keepIn K (.ref f10) = true)
    (a11 : PySem.W.nsIn K mainGlobals "ways" = some (some (.ref f11)))
    (l11 : K.lookup f11 = some ⟨oc11, od11, .func (PySem.W.fnOf "ways" "ways" (defArgs s_ways) (defBody s_ways) (defScope s_ways) .none kv11 dc11 pm11 an11 (.ref cA11) ct11), sl11⟩)
    (c11 : PySem.W.codeIn K (.ref cA11) "ways" = true)
    (k11 : PySem.W.keepIn K (.ref f11) = true)
    (a12 : PySem.W.nsIn K mainGlobals "events_at" = some (some (.ref f12)))
    (l12 : K.lookup f12 = some ⟨oc12, od12, .func (PySem.W.fnOf "events_at" "events_at" (defArgs s_events_at) (defBody s_events_at) (defScope s_events_at) .none kv12 dc12 pm12 an12 (.ref cA12) ct12), sl12⟩)
    (c12 : PySem.W.codeIn K (.ref cA12) "events_at" = true)
    (k12 : PySem.W.keepIn K (.ref f12) = true)
    (a13 : PySem.W.nsIn K mainGlobals "fewest" = some (some (.ref f13)))
    (l13 : K.lookup f13 = some ⟨oc13, od13, .func (PySem.W.fnOf "fewest" "fewest" (defArgs s_fewest) (defBody s_fewest) (defScope s_fewest) .none kv13 dc13 pm13 an13 (.ref cA13) ct13), sl13⟩)
    (c13 : PySem.W.codeIn K (.ref cA13) "fewest" = true)
    (k13 : PySem.W.keepIn K (.ref f13) = true)
    (a14 : PySem.W.nsIn K mainGlobals "history" = some (some (.ref f14)))
    (l14 : K.lookup f14 = some ⟨oc14, od14, .func (PySem.W.fnOf "history" "history" (defArgs s_history) (defBody s_history) (defScope s_history) .none kv14 dc14 pm14 an14 (.ref cA14) ct14), sl14⟩)
    (c14 : PySem.W.codeIn K (.ref cA14) "history" = true)
    (k14 : PySem.W.keepIn K (.ref f14) = true)
    (a15 : PySem.W.nsIn K mainGlobals "_law_cell_at" = some (some (.ref f15)))
    (l15 : K.lookup f15 = some ⟨oc15, od15, .func (PySem.W.fnOf "_law_cell_at" "_law_cell_at" (defArgs s__law_cell_at) (defBody s__law_cell_at) (defScope s__law_cell_at) .none kv15 dc15 pm15 an15 (.ref cA15) ct15), sl15⟩)
    (c15 : PySem.W.codeIn K (.ref cA15) "_law_cell_at" = true)
    (k15 : PySem.W.keepIn K (.ref f15) = true)
    (a16 : PySem.W.nsIn K mainGlobals "_law_bag" = some (some (.ref f16)))
    (l16 : K.lookup f16 = some ⟨oc16, od16, .func (PySem.W.fnOf "_law_bag" "_law_bag" (defArgs s__law_bag) (defBody s__law_bag) (defScope s__law_bag) .none kv16 dc16 pm16 an16 (.ref cA16) ct16), sl16⟩)
    (c16 : PySem.W.codeIn K (.ref cA16) "_law_bag" = true)
    (k16 : PySem.W.keepIn K (.ref f16) = true)
    (a17 : PySem.W.nsIn K mainGlobals "_law_draw" = some (some (.ref f17)))
    (l17 : K.lookup f17 = some ⟨oc17, od17, .func (PySem.W.fnOf "_law_draw" "_law_draw" (defArgs s__law_draw) (defBody s__law_draw) (defScope s__law_draw) .none kv17 dc17 pm17 an17 (.ref cA17) ct17), sl17⟩)
    (c17 : PySem.W.codeIn K (.ref cA17) "_law_draw" = true)
    (k17 : PySem.W.keepIn K (.ref f17) = true)
    (a18 : PySem.W.nsIn K mainGlobals "_law_line" = some (some (.ref f18)))
    (l18 : K.lookup f18 = some ⟨oc18, od18, .func (PySem.W.fnOf "_law_line" "_law_line" (defArgs s__law_line) (defBody s__law_line) (defScope s__law_line) .none kv18 dc18 pm18 an18 (.ref cA18) ct18), sl18⟩)
    (c18 : PySem.W.codeIn K (.ref cA18) "_law_line" = true)
    (k18 : PySem.W.keepIn K (.ref f18) = true)
    (a19 : PySem.W.nsIn K mainGlobals "_law_front" = some (some (.ref f19)))
    (l19 : K.lookup f19 = some ⟨oc19, od19, .func (PySem.W.fnOf "_law_front" "_law_front" (defArgs s__law_front) (defBody s__law_front) (defScope s__law_front) .none kv19 dc19 pm19 an19 (.ref cA19) ct19), sl19⟩)
    (c19 : PySem.W.codeIn K (.ref cA19) "_law_front" = true)
    (k19 : PySem.W.keepIn K (.ref f19) = true)
    (a20 : PySem.W.nsIn K mainGlobals "_law_act" = some (some (.ref f20)))
    (l20 : K.lookup f20 = some ⟨oc20, od20, .func (PySem.W.fnOf "_law_act" "_law_act" (defArgs s__law_act) (defBody s__law_act) (defScope s__law_act) .none kv20 dc20 pm20 an20 (.ref cA20) ct20), sl20⟩)
    (c20 : PySem.W.codeIn K (.ref cA20) "_law_act" = true)
    (k20 : PySem.W.keepIn K (.ref f20) = true)
    (a21 : PySem.W.nsIn K mainGlobals "_law_gone" = some (some (.ref f21)))
    (l21 : K.lookup f21 = some ⟨oc21, od21, .func (PySem.W.fnOf "_law_gone" "_law_gone" (defArgs s__law_gone) (defBody s__law_gone) (defScope s__law_gone) .none kv21 dc21 pm21 an21 (.ref cA21) ct21), sl21⟩)
    (c21 : PySem.W.codeIn K (.ref cA21) "_law_gone" = true)
    (k21 : PySem.W.keepIn K (.ref f21) = true)
    (a22 : PySem.W.nsIn K mainGlobals "_law_acts" = some (some (.ref f22)))
    (l22 : K.lookup f22 = some ⟨oc22, od22, .func (PySem.W.fnOf "_law_acts" "_law_acts" (defArgs s__law_acts) (defBody s__law_acts) (defScope s__law_acts) .none kv22 dc22 pm22 an22 (.ref cA22) ct22), sl22⟩)
    (c22 : PySem.W.codeIn K (.ref cA22) "_law_acts" = true)
    (k22 : PySem.W.keepIn K (.ref f22) = true)
    (a23 : PySem.W.nsIn K mainGlobals "_law_faults" = some (some (.ref f23)))
    (l23 : K.lookup f23 = some ⟨oc23, od23, .func (PySem.W.fnOf "_law_faults" "_law_faults" (defArgs s__law_faults) (defBody s__law_faults) (defScope s__law_faults) .none kv23 dc23 pm23 an23 (.ref cA23) ct23), sl23⟩)
    (c23 : PySem.W.codeIn K (.ref cA23) "_law_faults" = true)
    (k23 : PySem.W.keepIn K (.ref f23) = true)
    (a24 : PySem.W.nsIn K mainGlobals "_law_near" = some (some (.ref f24)))
    (l24 : K.lookup f24 = some ⟨oc24, od24, .func (PySem.W.fnOf "_law_near" "_law_near" (defArgs s__law_near) (defBody s__law_near) (defScope s__law_near) .none kv24 dc24 pm24 an24 (.ref cA24) ct24), sl24⟩)
    (c24 : PySem.W.codeIn K (.ref cA24) "_law_near" = true)
    (k24 : PySem.W.keepIn K (.ref f24) = true)
    (a25 : PySem.W.nsIn K mainGlobals "_law_rows_by" = some (some (.ref f25)))
    (l25 : K.lookup f25 = some ⟨oc25, od25, .func (PySem.W.fnOf "_law_rows_by" "_law_rows_by" (defArgs s__law_rows_by) (defBody s__law_rows_by) (defScope s__law_rows_by) .none kv25 dc25 pm25 an25 (.ref cA25) ct25), sl25⟩)
    (c25 : PySem.W.codeIn K (.ref cA25) "_law_rows_by" = true)
    (k25 : PySem.W.keepIn K (.ref f25) = true)
    (a26 : PySem.W.nsIn K mainGlobals "_law_fewest" = some (some (.ref f26)))
    (l26 : K.lookup f26 = some ⟨oc26, od26, .func (PySem.W.fnOf "_law_fewest" "_law_fewest" (defArgs s__law_fewest) (defBody s__law_fewest) (defScope s__law_fewest) .none kv26 dc26 pm26 an26 (.ref cA26) ct26), sl26⟩)
    (c26 : PySem.W.codeIn K (.ref cA26) "_law_fewest" = true)
    (k26 : PySem.W.keepIn K (.ref f26) = true)
    (a27 : PySem.W.nsIn K mainGlobals "_law_right" = some (some (.ref f27)))
    (l27 : K.lookup f27 = some ⟨oc27, od27, .func (PySem.W.fnOf "_law_right" "_law_right" (defArgs s__law_right) (defBody s__law_right) (defScope s__law_right) .none kv27 dc27 pm27 an27 (.ref cA27) ct27), sl27⟩)
    (c27 : PySem.W.codeIn K (.ref cA27) "_law_right" = true)
    (k27 : PySem.W.keepIn K (.ref f27) = true)
    (a28 : PySem.W.nsIn K mainGlobals "_law_far_right" = some (some (.ref f28)))
    (l28 : K.lookup f28 = some ⟨oc28, od28, .func (PySem.W.fnOf "_law_far_right" "_law_far_right" (defArgs s__law_far_right) (defBody s__law_far_right) (defScope s__law_far_right) .none kv28 dc28 pm28 an28 (.ref cA28) ct28), sl28⟩)
    (c28 : PySem.W.codeIn K (.ref cA28) "_law_far_right" = true)
    (k28 : PySem.W.keepIn K (.ref f28) = true)
    (a29 : PySem.W.nsIn K mainGlobals "law" = some (some (.ref f29)))
    (l29 : K.lookup f29 = some ⟨oc29, od29, .func (PySem.W.fnOf "law" "law" (defArgs s_law) (defBody s_law) (defScope s_law) .none kv29 dc29 pm29 an29 (.ref cA29) ct29), sl29⟩)
    (c29 : PySem.W.codeIn K (.ref cA29) "law" = true)
    (k29 : PySem.W.keepIn K (.ref f29) = true)
    (z_abs : PySem.W.nsIn K mainGlobals "abs" = some none)
    (z_all : PySem.W.nsIn K mainGlobals "all" = some none)
    (z_enumerate : PySem.W.nsIn K mainGlobals "enumerate" = some none)
    (z_len : PySem.W.nsIn K mainGlobals "len" = some none)
    (z_list : PySem.W.nsIn K mainGlobals "list" = some none)
    (z_max : PySem.W.nsIn K mainGlobals "max" = some none)
    (z_min : PySem.W.nsIn K mainGlobals "min" = some none)
    (z_range : PySem.W.nsIn K mainGlobals "range" = some none)
    (z_repr : PySem.W.nsIn K mainGlobals "repr" = some none)
    (z_reversed : PySem.W.nsIn K mainGlobals "reversed" = some none)
    (z_set : PySem.W.nsIn K mainGlobals "set" = some none)
    (z_str : PySem.W.nsIn K mainGlobals "str" = some none)
    (z_tuple : PySem.W.nsIn K mainGlobals "tuple" = some none)
    (z_type : PySem.W.nsIn K mainGlobals "type" = some none)
    (cM : PySem.W.nsIn K mainGlobals "MOST_LETTERS" = some (some (.int 16 tkM)))
    {tA14 : Addr} {oC14 : Option Addr} {vC14 : Array Value} {sC14 : Array (Option Value)}
    (hC14 : K.lookup cA14 = some ⟨.type "code", oC14, .fields vC14, sC14⟩)
    (h1114 : vC14.getD 11 .none = .ref tA14)
    (hV14 : codeVs vC14 cA14 tA14 = true)
    (hT14 : tA14 ∈ ts)
    (no_shortest_healing : PySem.W.nsIn K mainGlobals "shortest_healing" = some none)
    (nM : ([tA14] : List Addr).contains mainGlobals = false)
    (nf0 : ([tA14] : List Addr).contains f0 = false)
    (nc0 : ([tA14] : List Addr).contains cA0 = false)
    (nf1 : ([tA14] : List Addr).contains f1 = false)
    (nc1 : ([tA14] : List Addr).contains cA1 = false)
    (nf2 : ([tA14] : List Addr).contains f2 = false)
    (nc2 : ([tA14] : List Addr).contains cA2 = false)
    (nf3 : ([tA14] : List Addr).contains f3 = false)
    (nc3 : ([tA14] : List Addr).contains cA3 = false)
    (nf4 : ([tA14] : List Addr).contains f4 = false)
    (nc4 : ([tA14] : List Addr).contains cA4 = false)
    (nf5 : ([tA14] : List Addr).contains f5 = false)
    (nc5 : ([tA14] : List Addr).contains cA5 = false)
    (nf6 : ([tA14] : List Addr).contains f6 = false)
    (nc6 : ([tA14] : List Addr).contains cA6 = false)
    (nf7 : ([tA14] : List Addr).contains f7 = false)
    (nc7 : ([tA14] : List Addr).contains cA7 = false)
    (nf8 : ([tA14] : List Addr).contains f8 = false)
    (nc8 : ([tA14] : List Addr).contains cA8 = false)
    (nf9 : ([tA14] : List Addr).contains f9 = false)
    (nc9 : ([tA14] : List Addr).contains cA9 = false)
    (nf10 : ([tA14] : List Addr).contains f10 = false)
    (nc10 : ([tA14] : List Addr).contains cA10 = false)
    (nf11 : ([tA14] : List Addr).contains f11 = false)
    (nc11 : ([tA14] : List Addr).contains cA11 = false)
    (nf12 : ([tA14] : List Addr).contains f12 = false)
    (nc12 : ([tA14] : List Addr).contains cA12 = false)
    (nf13 : ([tA14] : List Addr).contains f13 = false)
    (nc13 : ([tA14] : List Addr).contains cA13 = false)
    (nf14 : ([tA14] : List Addr).contains f14 = false)
    (nc14 : ([tA14] : List Addr).contains cA14 = false)
    (nf15 : ([tA14] : List Addr).contains f15 = false)
    (nc15 : ([tA14] : List Addr).contains cA15 = false)
    (nf16 : ([tA14] : List Addr).contains f16 = false)
    (nc16 : ([tA14] : List Addr).contains cA16 = false)
    (nf17 : ([tA14] : List Addr).contains f17 = false)
    (nc17 : ([tA14] : List Addr).contains cA17 = false)
    (nf18 : ([tA14] : List Addr).contains f18 = false)
    (nc18 : ([tA14] : List Addr).contains cA18 = false)
    (nf19 : ([tA14] : List Addr).contains f19 = false)
    (nc19 : ([tA14] : List Addr).contains cA19 = false)
    (nf20 : ([tA14] : List Addr).contains f20 = false)
    (nc20 : ([tA14] : List Addr).contains cA20 = false)
    (nf21 : ([tA14] : List Addr).contains f21 = false)
    (nc21 : ([tA14] : List Addr).contains cA21 = false)
    (nf22 : ([tA14] : List Addr).contains f22 = false)
    (nc22 : ([tA14] : List Addr).contains cA22 = false)
    (nf23 : ([tA14] : List Addr).contains f23 = false)
    (nc23 : ([tA14] : List Addr).contains cA23 = false)
    (nf24 : ([tA14] : List Addr).contains f24 = false)
    (nc24 : ([tA14] : List Addr).contains cA24 = false)
    (nf25 : ([tA14] : List Addr).contains f25 = false)
    (nc25 : ([tA14] : List Addr).contains cA25 = false)
    (nf26 : ([tA14] : List Addr).contains f26 = false)
    (nc26 : ([tA14] : List Addr).contains cA26 = false)
    (nf27 : ([tA14] : List Addr).contains f27 = false)
    (nc27 : ([tA14] : List Addr).contains cA27 = false)
    (nf28 : ([tA14] : List Addr).contains f28 = false)
    (nc28 : ([tA14] : List Addr).contains cA28 = false)
    (nf29 : ([tA14] : List Addr).contains f29 = false)
    (nc29 : ([tA14] : List Addr).contains cA29 = false) :
    ∃ (fd : FuncData) (cs : List (Addr × Addr)), (∀ q ∈ cs, h.get? q.2 = some { cls := .none, data := .fields #[] }) ∧ (∀ q ∈ cs, PySem.W.CodeHd h q.1 q.2) ∧ (∀ q ∈ tabsOf (dropK K (cs.map (·.2))), q.1 ∈ cs.map (·.2)) ∧
      (∀ (s : Shared) (u : Value), BindsTo s fd ⟨[u], []⟩ [("script", u)]) ∧ ∀ base : Heap, (dropK K (cs.map (·.2))).In base → base.Ns mainGlobals mg → (∀ q ∈ cs, LamX.TabB base mg q.1 q.2) →
        FnG P w (dropK K (cs.map (·.2))) mg base CX0 9 fa fd ["script"] (sp0 (dropK K (cs.map (·.2))) semLaw) := by
  have T14 := tabOf_is (K := dropK K [tA14]) (x := "history") ((nsIn_drop nM).trans a14) ((lookup_drop nf14).trans l14) rfl ((lookup_drop nc14).trans hC14) h1114
  have T := tabs_history T14 ((nsIn_drop nM).trans no_shortest_healing)
  obtain ⟨fd, bind, go⟩ := all_mk (P := P) (w := w) (K := dropK K [tA14]) (dropK_in X) G hfa ((nsIn_drop nM).trans a0) ((lookup_drop nf0).trans l0) ((codeIn_drop nc0).trans c0) (keepIn_drop nf0 l0) ((nsIn_drop nM).trans a1) ((lookup_drop nf1).trans l1) ((codeIn_drop nc1).trans c1) (keepIn_drop nf1 l1) ((nsIn_drop nM).trans a2) ((lookup_drop nf2).trans l2) ((codeIn_drop nc2).trans c2) (keepIn_drop nf2 l2) ((nsIn_drop nM).trans a3) ((lookup_drop nf3).trans l3) ((codeIn_drop nc3).trans c3) (keepIn_drop nf3 l3) ((nsIn_drop nM).trans a4) ((lookup_drop nf4).trans l4) ((codeIn_drop nc4).trans c4) (keepIn_drop nf4 l4) ((nsIn_drop nM).trans a5) ((lookup_drop nf5).trans l5) ((codeIn_drop nc5).trans c5) (keepIn_drop nf5 l5) ((nsIn_drop nM).trans a6) ((lookup_drop nf6).trans l6) ((codeIn_drop nc6).trans c6) (keepIn_drop nf6 l6) ((nsIn_drop nM).trans a7) ((lookup_drop nf7).trans l7) ((codeIn_drop nc7).trans c7) (keepIn_drop nf7 l7) ((nsIn_drop nM).trans a8) ((lookup_drop nf8).trans l8) ((codeIn_drop nc8).trans c8) (keepIn_drop nf8 l8) ((nsIn_drop nM).trans a9) ((lookup_drop nf9).trans l9) ((codeIn_drop nc9).trans c9) (keepIn_drop nf9 l9) ((nsIn_drop nM).trans a10) ((lookup_drop nf10).trans l10) ((codeIn_drop nc10).trans c10) (keepIn_drop nf10 l10) ((nsIn_drop nM).trans a11) ((lookup_drop nf11).trans l11) ((codeIn_drop nc11).trans c11) (keepIn_drop nf11 l11) ((nsIn_drop nM).trans a12) ((lookup_drop nf12).trans l12) ((codeIn_drop nc12).trans c12) (keepIn_drop nf12 l12) ((nsIn_drop nM).trans a13) ((lookup_drop nf13).trans l13) ((codeIn_drop nc13).trans c13) (keepIn_drop nf13 l13) ((nsIn_drop nM).trans a14) ((lookup_drop nf14).trans l14) ((codeIn_drop nc14).trans c14) (keepIn_drop nf14 l14) ((nsIn_drop nM).trans a15) ((lookup_drop nf15).trans l15) ((codeIn_drop nc15).trans c15) (keepIn_drop nf15 l15) ((nsIn_drop nM).trans a16) ((lookup_drop nf16).trans l16) ((codeIn_drop nc16).trans c16) (keepIn_drop nf16 l16) ((nsIn_drop nM).trans a17) ((lookup_drop nf17).trans l17) ((codeIn_drop nc17).trans c17) (keepIn_drop nf17 l17) ((nsIn_drop nM).trans a18) ((lookup_drop nf18).trans l18) ((codeIn_drop nc18).trans c18) (keepIn_drop nf18 l18) ((nsIn_drop nM).trans a19) ((lookup_drop nf19).trans l19) ((codeIn_drop nc19).trans c19) (keepIn_drop nf19 l19) ((nsIn_drop nM).trans a20) ((lookup_drop nf20).trans l20) ((codeIn_drop nc20).trans c20) (keepIn_drop nf20 l20) ((nsIn_drop nM).trans a21) ((lookup_drop nf21).trans l21) ((codeIn_drop nc21).trans c21) (keepIn_drop nf21 l21) ((nsIn_drop nM).trans a22) ((lookup_drop nf22).trans l22) ((codeIn_drop nc22).trans c22) (keepIn_drop nf22 l22) ((nsIn_drop nM).trans a23) ((lookup_drop nf23).trans l23) ((codeIn_drop nc23).trans c23) (keepIn_drop nf23 l23) ((nsIn_drop nM).trans a24) ((lookup_drop nf24).trans l24) ((codeIn_drop nc24).trans c24) (keepIn_drop nf24 l24) ((nsIn_drop nM).trans a25) ((lookup_drop nf25).trans l25) ((codeIn_drop nc25).trans c25) (keepIn_drop nf25 l25) ((nsIn_drop nM).trans a26) ((lookup_drop nf26).trans l26) ((codeIn_drop nc26).trans c26) (keepIn_drop nf26 l26) ((nsIn_drop nM).trans a27) ((lookup_drop nf27).trans l27) ((codeIn_drop nc27).trans c27) (keepIn_drop nf27 l27) ((nsIn_drop nM).trans a28) ((lookup_drop nf28).trans l28) ((codeIn_drop nc28).trans c28) (keepIn_drop nf28 l28) ((nsIn_drop nM).trans a29) ((lookup_drop nf29).trans l29) ((codeIn_drop nc29).trans c29) (keepIn_drop nf29 l29) ((nsIn_drop nM).trans z_abs) ((nsIn_drop nM).trans z_all) ((nsIn_drop nM).trans z_enumerate) ((nsIn_drop nM).trans z_len) ((nsIn_drop nM).trans z_list) ((nsIn_drop nM).trans z_max) ((nsIn_drop nM).trans z_min) ((nsIn_drop nM).trans z_range) ((nsIn_drop nM).trans z_repr) ((nsIn_drop nM).trans z_reversed) ((nsIn_drop nM).trans z_set) ((nsIn_drop nM).trans z_str) ((nsIn_drop nM).trans z_tuple) ((nsIn_drop nM).trans z_type) ((nsIn_drop nM).trans cM) (tA14 := tA14) (hm14 := by rw [T]; simp) (hu14 := fun p hp e => by rw [T] at hp; simp only [List.mem_cons, List.not_mem_nil, or_false] at hp; first | (subst hp; rfl) | (rcases hp with rfl | rfl <;> first | rfl | exact absurd e nTT | exact absurd e.symm nTT))
  refine ⟨fd, [(cA14, tA14)], fun q hq => ?_, fun q hq => ?_, fun q hq => ?_, bind, fun base X2 G2 TB => go base X2 G2 (TB (cA14, tA14) (by simp))⟩
  · simp only [List.mem_cons, List.not_mem_nil, or_false] at hq; rcases hq with rfl <;> first | exact HT _ hT14
  · simp only [List.mem_cons, List.not_mem_nil, or_false] at hq; rcases hq with rfl <;> first | exact codeHd_vs X hC14 hV14
  · have hq : q ∈ tabsOf (dropK K [tA14]) := hq
    rw [T] at hq; simp only [List.mem_cons, List.not_mem_nil, or_false] at hq; rcases hq with rfl <;> simp
end K38
open PySem PySem.W PyProof.Rows
set_option maxHeartbeats 0 in
theorem PySem.Challenge.cw_twonames_k38_explained_long_holds : PySem.Challenge.rw_twonames_k38_explained_long.Holds := by
  w_on; o_law; k_head; (case hw => w_witness2)
  k_fill
  refine TN.law_byT (l := PySem.Challenge.rw_twonames_k38_explained_long) (n := 63) (k := 9) (x := "script") (sem := TN.semLaw) rfl (by decide) rfl ⟨rfl, by decide, by decide⟩ (fun w h Y => PySem.W.km_in_of Y) (fun w h Y => PySem.W.km_tabs_of Y) ?F (fun ns Q len q => ⟨ns, rfl, len, q⟩)
  case F =>
    intro w mg fa h KX HT G hmg
    refine' K38.all_top KX HT G hmg ?a0 ?l0 ?c0 ?k0 ?a1 ?l1 ?c1 ?k1 ?a2 ?l2 ?c2 ?k2 ?a3 ?l3 ?c3 ?k3 ?a4 ?l4 ?c4 ?k4 ?a5 ?l5 ?c5 ?k5 ?a6 ?l6 ?c6 ?k6 ?a7 ?l7 ?c7 ?k7 ?a8 ?l8 ?c8 ?k8 ?a9 ?l9 ?c9 ?k9 ?a10 ?l10 ?c10 ?k10 ?a11 ?l11 ?c11 ?k11 ?a12 ?l12 ?c12 ?k12 ?a13 ?l13 ?c13 ?k13 ?a14 ?l14 ?c14 ?k14 ?a15 ?l15 ?c15 ?k15 ?a16 ?l16 ?c16 ?k16 ?a17 ?l17 ?c17 ?k17 ?a18 ?l18 ?c18 ?k18 ?a19 ?l19 ?c19 ?k19 ?a20 ?l20 ?c20 ?k20 ?a21 ?l21 ?c21 ?k21 ?a22 ?l22 ?c22 ?k22 ?a23 ?l23 ?c23 ?k23 ?a24 ?l24 ?c24 ?k24 ?a25 ?l25 ?c25 ?k25 ?a26 ?l26 ?c26 ?k26 ?a27 ?l27 ?c27 ?k27 ?a28 ?l28 ?c28 ?k28 ?a29 ?l29 ?c29 ?k29 ?z_abs ?z_all ?z_enumerate ?z_len ?z_list ?z_max ?z_min ?z_range ?z_repr ?z_reversed ?z_set ?z_str ?z_tuple ?z_type ?cM ?hC14 ?h1114 ?hV14 ?hT14 ?no_shortest_healing ?nM ?nf0 ?nc0 ?nf1 ?nc1 ?nf2 ?nc2 ?nf3 ?nc3 ?nf4 ?nc4 ?nf5 ?nc5 ?nf6 ?nc6 ?nf7 ?nc7 ?nf8 ?nc8 ?nf9 ?nc9 ?nf10 ?nc10 ?nf11 ?nc11 ?nf12 ?nc12 ?nf13 ?nc13 ?nf14 ?nc14 ?nf15 ?nc15 ?nf16 ?nc16 ?nf17 ?nc17 ?nf18 ?nc18 ?nf19 ?nc19 ?nf20 ?nc20 ?nf21 ?nc21 ?nf22 ?nc22 ?nf23 ?nc23 ?nf24 ?nc24 ?nf25 ?nc25 ?nf26 ?nc26 ?nf27 ?nc27 ?nf28 ?nc28 ?nf29 ?nc29
    (case a0 => k_is); (case l0 => k_is); (case c0 => k_is); (case k0 => k_is); (case a1 => k_is); (case l1 => k_is)
    (case c1 => k_is); (case k1 => k_is); (case a2 => k_is); (case l2 => k_is); (case c2 => k_is); (case k2 => k_is)
    (case a3 => k_is); (case l3 => k_is); (case c3 => k_is); (case k3 => k_is); (case a4 => k_is); (case l4 => k_is)
    (case c4 => k_is); (case k4 => k_is); (case a5 => k_is); (case l5 => k_is); (case c5 => k_is); (case k5 => k_is)
    (case a6 => k_is); (case l6 => k_is); (case c6 => k_is); (case k6 => k_is); (case a7 => k_is); (case l7 => k_is)
    (case c7 => k_is); (case k7 => k_is); (case a8 => k_is); (case l8 => k_is); (case c8 => k_is); (case k8 => k_is)
    (case a9 => k_is); (case l9 => k_is); (case c9 => k_is); (case k9 => k_is); (case a10 => k_is); (case l10 => k_is)
    (case c10 => k_is); (case k10 => k_is); (case a11 => k_is); (case l11 => k_is); (case c11 => k_is); (case k11 => k_is)
    (case a12 => k_is); (case l12 => k_is); (case c12 => k_is); (case k12 => k_is); (case a13 => k_is); (case l13 => k_is)
    (case c13 => k_is); (case k13 => k_is); (case a14 => k_is); (case l14 => k_is); (case c14 => k_is); (case k14 => k_is)
    (case a15 => k_is); (case l15 => k_is); (case c15 => k_is); (case k15 => k_is); (case a16 => k_is); (case l16 => k_is)
    (case c16 => k_is); (case k16 => k_is); (case a17 => k_is); (case l17 => k_is); (case c17 => k_is); (case k17 => k_is)
    (case a18 => k_is); (case l18 => k_is); (case c18 => k_is); (case k18 => k_is); (case a19 => k_is); (case l19 => k_is)
    (case c19 => k_is); (case k19 => k_is); (case a20 => k_is); (case l20 => k_is); (case c20 => k_is); (case k20 => k_is)
    (case a21 => k_is); (case l21 => k_is); (case c21 => k_is); (case k21 => k_is); (case a22 => k_is); (case l22 => k_is)
    (case c22 => k_is); (case k22 => k_is); (case a23 => k_is); (case l23 => k_is); (case c23 => k_is); (case k23 => k_is)
    (case a24 => k_is); (case l24 => k_is); (case c24 => k_is); (case k24 => k_is); (case a25 => k_is); (case l25 => k_is)
    (case c25 => k_is); (case k25 => k_is); (case a26 => k_is); (case l26 => k_is); (case c26 => k_is); (case k26 => k_is)
    (case a27 => k_is); (case l27 => k_is); (case c27 => k_is); (case k27 => k_is); (case a28 => k_is); (case l28 => k_is)
    (case c28 => k_is); (case k28 => k_is); (case a29 => k_is); (case l29 => k_is); (case c29 => k_is); (case k29 => k_is)
    (case z_abs => k_is); (case z_all => k_is); (case z_enumerate => k_is); (case z_len => k_is); (case z_list => k_is); (case z_max => k_is)
    (case z_min => k_is); (case z_range => k_is); (case z_repr => k_is); (case z_reversed => k_is); (case z_set => k_is); (case z_str => k_is)
    (case z_tuple => k_is); (case z_type => k_is); (case cM => k_is); (case hC14 => k_is); (case h1114 => rfl); (case hV14 => rfl)
    (case hT14 => k_mem); (case no_shortest_healing => k_is); (case nM => rfl); (case nf0 => rfl); (case nc0 => rfl); (case nf1 => rfl)
    (case nc1 => rfl); (case nf2 => rfl); (case nc2 => rfl); (case nf3 => rfl); (case nc3 => rfl); (case nf4 => rfl)
    (case nc4 => rfl); (case nf5 => rfl); (case nc5 => rfl); (case nf6 => rfl); (case nc6 => rfl); (case nf7 => rfl)
    (case nc7 => rfl); (case nf8 => rfl); (case nc8 => rfl); (case nf9 => rfl); (case nc9 => rfl); (case nf10 => rfl)
    (case nc10 => rfl); (case nf11 => rfl); (case nc11 => rfl); (case nf12 => rfl); (case nc12 => rfl); (case nf13 => rfl)
    (case nc13 => rfl); (case nf14 => rfl); (case nc14 => rfl); (case nf15 => rfl); (case nc15 => rfl); (case nf16 => rfl)
    (case nc16 => rfl); (case nf17 => rfl); (case nc17 => rfl); (case nf18 => rfl); (case nc18 => rfl); (case nf19 => rfl)
    (case nc19 => rfl); (case nf20 => rfl); (case nc20 => rfl); (case nf21 => rfl); (case nc21 => rfl); (case nf22 => rfl)
    (case nc22 => rfl); (case nf23 => rfl); (case nc23 => rfl); (case nf24 => rfl); (case nc24 => rfl); (case nf25 => rfl)
    (case nc25 => rfl); (case nf26 => rfl); (case nc26 => rfl); (case nf27 => rfl); (case nc27 => rfl); (case nf28 => rfl)
    (case nc28 => rfl); (case nf29 => rfl); (case nc29 => rfl)
