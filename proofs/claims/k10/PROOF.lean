import PyProof.Rows.All
import Wide.All
import OpenK.AllK
import Wide.FinOn
import PyProof.ReprReads
import PyProof.ReprRoads
import HandS.ForMost
import HandS.ForExc
import HandS.Evl
import HandS.Style
import HandS.TupAny
import HandS.Zip
import HandS.IsInst
import HandS.SortInts
import HandS.Sort
import HandS.Wide
import HandS.Text
import HandS.Star
import HandS.IterVal
import HandS.Conv
import HandS.Small
import KE.GoesEnum
import KE.GoesMore
import HandS.SetBool
import HandS.Strs
import HandS.TupMul
import HandS.Deep
import PyProof.P3In
import PyProof.AutoSeq1
import HandS.SetKeys
import HandS.DictComp
import HandS.More
import PySem.Challenge.RW_debtsheld_k10_two_faults_at_once
/-! DhA -/
section
set_option Elab.async false
set_option linter.all false
set_option maxRecDepth 100000
set_option maxHeartbeats 2000000
namespace Dh
open PySem PySem.Spec PyProof.Rows L2

/-! ### data that stand in the abstract heap, apart from the addresses at M -/
def keyD : Key → PyData
  | .inl i => .int i
  | .inr x => .str x
mutual
inductive At (K : PySem.W.Frag) (M : List Addr) (H : Hp) : V → PyData → Prop
  | non : At K M H .non .none
  | bl (b : Bool) : At K M H (.bl b) (.bool b)
  | int (i : Int) : At K M H (.int i) (.int i)
  | str (x : Str) : At K M H (.str x) (.str x)
  | lst {a : Addr} {xs : List V} {ds : List PyData} : SqL K H a xs → a ∉ M → AtL K M H xs ds → At K M H (.ref a) (.list ds)
  | tup {a : Addr} {xs : List V} {ds : List PyData} : SqT K H a xs → a ∉ M → AtL K M H xs ds → At K M H (.ref a) (.tuple ds)
  | dic {a : Addr} {kvs : List (Key × V)} {es : List (PyData × PyData)} : H a = some (.dK kvs) → a ∉ M → AtK K M H kvs es → At K M H (.ref a) (.dict es)
inductive AtL (K : PySem.W.Frag) (M : List Addr) (H : Hp) : List V → List PyData → Prop
  | nil : AtL K M H [] []
  | cons {v : V} {vs : List V} {d : PyData} {ds : List PyData} : At K M H v d → AtL K M H vs ds → AtL K M H (v :: vs) (d :: ds)
inductive AtK (K : PySem.W.Frag) (M : List Addr) (H : Hp) : List (Key × V) → List (PyData × PyData) → Prop
  | nil : AtK K M H [] []
  | cons {k : Key} {v : V} {kvs : List (Key × V)} {d : PyData} {es : List (PyData × PyData)} : At K M H v d → AtK K M H kvs es → AtK K M H ((k, v) :: kvs) ((keyD k, d) :: es)
end

/-- all that was tracked apart from M stands as it stood -/
def Kp (M : List Addr) (H H' : Hp) : Prop := ∀ b o, H b = some o → b ∉ M → H' b = some o
theorem Kp.refl (M : List Addr) (H : Hp) : Kp M H H := fun _ _ e _ => e
theorem Kp.trans {M : List Addr} {H H1 H2 : Hp} (a : Kp M H H1) (b : Kp M H1 H2) : Kp M H H2 := fun c o e n => b c o (a c o e n) n
theorem Kp.more {M M' : List Addr} {H H' : Hp} (a : Kp M H H') (h : ∀ b ∈ M, b ∈ M') : Kp M' H H' := fun c o e n => a c o e fun z => n (h c z)
theorem Kp.new {M : List Addr} {H : Hp} {p : Addr} {o : HO} (h : H p = none) : Kp M H (upd H p o) := fun c u e _ => by
  rw [upd_ne (ne_of_none e h)]; exact e
theorem Kp.put {M : List Addr} {H : Hp} {p : Addr} {o : HO} (h : p ∈ M) : Kp M H (upd H p o) := fun c u e n => by
  rw [upd_ne (by intro z; rw [z] at n; exact n h)]; exact e
theorem Kp.sqL {K : PySem.W.Frag} {M : List Addr} {H H' : Hp} {a : Addr} {xs : List V} (k : Kp M H H') (n : a ∉ M) (h : SqL K H a xs) : SqL K H' a xs := by
  rcases h with (h | ⟨o, h⟩) | h
  · exact .inl (.inl (k _ _ h n))
  · exact .inl (.inr ⟨o, k _ _ h n⟩)
  · exact .inr h
theorem Kp.sqT {K : PySem.W.Frag} {M : List Addr} {H H' : Hp} {a : Addr} {xs : List V} (k : Kp M H H') (n : a ∉ M) (h : SqT K H a xs) : SqT K H' a xs := by
  rcases h with (h | ⟨o, h⟩) | h
  · exact .inl (.inl (k _ _ h n))
  · exact .inl (.inr ⟨o, k _ _ h n⟩)
  · exact .inr h

section
variable {K : PySem.W.Frag} {M M' : List Addr} {H H' : Hp}
mutual
theorem At.kp (k : Kp M H H') : ∀ (d : PyData) {v : V}, At K M H v d → At K M H' v d
  | .none, _, h => by cases h; exact .non
  | .bool b, _, h => by cases h; exact .bl b
  | .int i, _, h => by cases h; exact .int i
  | .str x, _, h => by cases h; exact .str x
  | .list ds, _, h => by
    cases h with
    | lst h1 h2 h3 => exact .lst (k.sqL h2 h1) h2 (AtL.kp k ds h3)
  | .tuple ds, _, h => by
    cases h with
    | tup h1 h2 h3 => exact .tup (k.sqT h2 h1) h2 (AtL.kp k ds h3)
  | .dict es, _, h => by
    cases h with
    | dic h1 h2 h3 => exact .dic (k _ _ h1 h2) h2 (AtK.kp k es h3)
theorem AtL.kp (k : Kp M H H') : ∀ (ds : List PyData) {vs : List V}, AtL K M H vs ds → AtL K M H' vs ds
  | [], _, h => by cases h; exact .nil
  | d :: ds, _, h => by
    cases h with
    | cons h1 h2 => exact .cons (At.kp k d h1) (AtL.kp k ds h2)
theorem AtK.kp (k : Kp M H H') : ∀ (es : List (PyData × PyData)) {kvs : List (Key × V)}, AtK K M H kvs es → AtK K M H' kvs es
  | [], _, h => by cases h; exact .nil
  | (_, d) :: es, _, h => by
    cases h with
    | cons h1 h2 => exact .cons (At.kp k d h1) (AtK.kp k es h2)
end
mutual
theorem At.less (k : ∀ b ∈ M', b ∈ M) : ∀ (d : PyData) {v : V}, At K M H v d → At K M' H v d
  | .none, _, h => by cases h; exact .non
  | .bool b, _, h => by cases h; exact .bl b
  | .int i, _, h => by cases h; exact .int i
  | .str x, _, h => by cases h; exact .str x
  | .list ds, _, h => by
    cases h with
    | lst h1 h2 h3 => exact .lst h1 (fun z => h2 (k _ z)) (AtL.less k ds h3)
  | .tuple ds, _, h => by
    cases h with
    | tup h1 h2 h3 => exact .tup h1 (fun z => h2 (k _ z)) (AtL.less k ds h3)
  | .dict es, _, h => by
    cases h with
    | dic h1 h2 h3 => exact .dic h1 (fun z => h2 (k _ z)) (AtK.less k es h3)
theorem AtL.less (k : ∀ b ∈ M', b ∈ M) : ∀ (ds : List PyData) {vs : List V}, AtL K M H vs ds → AtL K M' H vs ds
  | [], _, h => by cases h; exact .nil
  | d :: ds, _, h => by
    cases h with
    | cons h1 h2 => exact .cons (At.less k d h1) (AtL.less k ds h2)
theorem AtK.less (k : ∀ b ∈ M', b ∈ M) : ∀ (es : List (PyData × PyData)) {kvs : List (Key × V)}, AtK K M H kvs es → AtK K M' H kvs es
  | [], _, h => by cases h; exact .nil
  | (_, d) :: es, _, h => by
    cases h with
    | cons h1 h2 => exact .cons (At.less k d h1) (AtK.less k es h2)
end
theorem AtL.get : ∀ {vs : List V} {ds : List PyData}, AtL K M H vs ds → ∀ {i : Nat} {v : V}, vs[i]? = some v → ∃ d, ds[i]? = some d ∧ At K M H v d
  | _, _, .nil, _, _, e => by simp at e
  | _, _, .cons h _, 0, _, e => by
    simp at e; subst e
    exact ⟨_, rfl, h⟩
  | _, _, .cons _ h, i + 1, v, e => by
    obtain ⟨d, h1, h2⟩ := AtL.get h (i := i) (v := v) (by simpa using e)
    exact ⟨d, by simpa using h1, h2⟩
theorem AtL.length : ∀ {vs : List V} {ds : List PyData}, AtL K M H vs ds → vs.length = ds.length
  | _, _, .nil => rfl
  | _, _, .cons _ h => by simp [AtL.length h]
theorem AtL.append : ∀ {vs ws : List V} {ds es : List PyData}, AtL K M H vs ds → AtL K M H ws es → AtL K M H (vs ++ ws) (ds ++ es)
  | _, _, _, _, .nil, h => h
  | _, _, _, _, .cons a b, h => .cons a (AtL.append b h)
theorem AtL.take : ∀ (n : Nat) {vs : List V} {ds : List PyData}, AtL K M H vs ds → AtL K M H (vs.take n) (ds.take n)
  | 0, _, _, _ => by simp; exact .nil
  | n + 1, _, _, .nil => .nil
  | n + 1, _, _, .cons a b => .cons a (AtL.take n b)
theorem AtL.drop : ∀ (n : Nat) {vs : List V} {ds : List PyData}, AtL K M H vs ds → AtL K M H (vs.drop n) (ds.drop n)
  | 0, _, _, h => h
  | n + 1, _, _, .nil => .nil
  | n + 1, _, _, .cons a b => AtL.drop n b
theorem AtL.strs : ∀ (xs : List Str), AtL K M H (xs.map V.str) (xs.map PyData.str)
  | [] => .nil
  | x :: r => .cons (.str x) (AtL.strs r)
end

/-! ### repr of such data -/
theorem ReprEntriesK_more {prog : Program} {w : World} {h : Heap} {as bs : List Addr} {d e : Nat} (hs : ∀ b ∈ as, b ∈ bs) (hd : d ≤ e) : ∀ {es : List DictEntry} {ps : List Str}, ReprEntriesK prog w as h d es ps → ReprEntriesK prog w bs h e es ps
  | _, _, .nil => .nil
  | _, _, .cons a b c => .cons ((a.more hs).level_le hd) ((b.more hs).level_le hd) (ReprEntriesK_more hs hd c)
section
variable {X : Cx} {pins : List (Addr × Obj)} {σ : L2.St} {H : Hp} {s : Shared} {M : List Addr}
theorem key_reads {h : Heap} {k : Key} {v : Value} (e : keyIs k v = true) : Reads h v (keyD k) [] := by
  rcases keyIs_shape e with ⟨i, t, rfl, rfl⟩ | ⟨x, t, rfl, rfl⟩
  · exact Reads.int i t
  · exact Reads.str x t
mutual
theorem At.reads (I : Inv X pins σ H s) : ∀ (d : PyData) (v : V) (u : Value), At X.K M H v d → RelV v u → ∃ as, Reads s.heap u d as
  | .none, _, _, h, r => by
    cases h; cases r
    exact ⟨_, Reads.none⟩
  | .bool b, _, _, h, r => by
    cases h; cases r
    exact ⟨_, Reads.bool b⟩
  | .int i, _, _, h, r => by
    cases h
    obtain ⟨t, rfl⟩ := r
    exact ⟨_, Reads.int i t⟩
  | .str x, _, _, h, r => by
    cases h
    obtain ⟨t, rfl⟩ := r
    exact ⟨_, Reads.str x t⟩
  | .list ds, _, _, h, r => by
    cases h with
    | lst hs _ ha =>
      cases r
      obtain ⟨its, rv, ⟨o, n, ho, hc, _, hd⟩, _⟩ := I.list hs
      obtain ⟨as, hr⟩ := AtL.reads I ds _ its ha rv
      exact ⟨_, Reads.list ho hc hd hr⟩
  | .tuple ds, _, _, h, r => by
    cases h with
    | tup hs _ ha =>
      cases r
      obtain ⟨its, rv, ⟨o, ho, hc, n, hd⟩, _⟩ := I.tuple hs
      obtain ⟨as, hr⟩ := AtL.reads I ds _ its ha rv
      exact ⟨_, Reads.tuple ho hc hd hr⟩
  | .dict es, _, _, h, r => by
    cases h with
    | dic hs _ ha =>
      cases r
      obtain ⟨_, _, vs, rv, o, ents, ep, ho, hx, hd, _, hp, _⟩ := I.hok _ _ hs
      obtain ⟨as, bs, h1, h2⟩ := AtK.reads I es _ vs ents.toList ha rv hp
      exact ⟨_, Reads.dict ho hx.1 hd h1 h2⟩
theorem AtL.reads (I : Inv X pins σ H s) : ∀ (ds : List PyData) (vs : List V) (us : List Value), AtL X.K M H vs ds → Vals vs us → ∃ as, ReadsAll s.heap us ds as
  | [], _, _, h, r => by
    cases h; cases r
    exact ⟨_, ReadsAll.nil⟩
  | d :: ds, _, _, h, r => by
    cases h with
    | cons h1 h2 =>
      cases r with
      | cons r1 r2 =>
        obtain ⟨as, q1⟩ := At.reads I d _ _ h1 r1
        obtain ⟨bs, q2⟩ := AtL.reads I ds _ _ h2 r2
        exact ⟨_, ReadsAll.cons q1 q2⟩
theorem AtK.reads (I : Inv X pins σ H s) : ∀ (es : List (PyData × PyData)) (kvs : List (Key × V)) (vs : List (Key × Value)) (ents : List DictEntry), AtK X.K M H kvs es → KV kvs vs → Pairs (mixKind X.prog X.w) ents vs →
    ∃ as bs, ReadsAll s.heap (ents.map (·.key)) (es.map (·.1)) as ∧ ReadsAll s.heap (ents.map (·.val)) (es.map (·.2)) bs
  | [], _, _, _, h, r, p => by
    cases h; cases r; cases p
    exact ⟨_, _, ReadsAll.nil, ReadsAll.nil⟩
  | (_, d) :: es, _, _, _, h, r, p => by
    cases h with
    | cons h1 h2 =>
      cases r with
      | cons r1 r2 =>
        cases p with
        | cons p1 p2 p3 =>
          obtain ⟨as, bs, q1, q2⟩ := AtK.reads I es _ _ _ h2 r2 p3
          obtain ⟨cs, q3⟩ := At.reads I d _ _ h1 r1.2
          have e1 := r1.1
          rw [← p2] at q3
          refine ⟨_, _, ReadsAll.cons (key_reads ?_) q1, ReadsAll.cons q3 q2⟩
          have p1' : keyIs _ _ = true := p1
          rw [← e1] at p1'
          exact p1'
end

theorem key_shown {h : Heap} {k : Key} {v : Value} (prog : Program) (w : World) (e : keyIs k v = true) (hs : (keyD k).showable = true) (hz : (keyD k).shown.length ≤ sizeLine) : ReprIs prog w v (keyD k).shown := by
  rcases keyIs_shape e with ⟨i, t, rfl, rfl⟩ | ⟨x, t, rfl, rfl⟩
  · simp only [keyD, PyData.shown]
    exact ReprIs.int t (by simpa [keyD, PyData.showable] using hs)
  · simp only [keyD, PyData.shown]
    exact ReprIs.str x t (by simpa only [keyD, PyData.shown] using hz)
theorem kv_line {es : List (PyData × PyData)} (hz : (dictText (PyData.shownKv es)).length ≤ sizeLine) : ∀ p ∈ PyData.shownKv es, p.length ≤ sizeLine :=
  fun p hp => Nat.le_trans (dictText_mem_le hp) hz
mutual
/-- the text of such data, and what is read for it -/
theorem At.rk (I : Inv X pins σ H s) : ∀ (d : PyData) (v : V) (u : Value), At X.K M H v d → RelV v u → d.showable = true → d.shown.length ≤ sizeLine →
    ∃ bs, ReadAtMost s.heap d.depth bs ∧ ReprK X.prog X.w bs s.heap d.depth u d.shown
  | .none, _, _, h, r, _, _ => by
    cases h; cases r
    exact ⟨[], (fun _ z => nomatch z), by simp only [PyData.shown]; exact .of_is ReprIs.none _ _ _⟩
  | .bool b, _, _, h, r, _, _ => by
    cases h; cases r
    exact ⟨[], (fun _ z => nomatch z), by simp only [PyData.shown]; exact .of_is (ReprIs.bool b) _ _ _⟩
  | .int i, _, _, h, r, hs, _ => by
    cases h
    obtain ⟨t, rfl⟩ := r
    exact ⟨[], (fun _ z => nomatch z), by simp only [PyData.shown]; exact .of_is (ReprIs.int t (by simpa [PyData.showable] using hs)) _ _ _⟩
  | .str x, _, _, h, r, _, hz => by
    cases h
    obtain ⟨t, rfl⟩ := r
    exact ⟨[], (fun _ z => nomatch z), by simp only [PyData.shown]; exact .of_is (ReprIs.str x t (by simpa only [PyData.shown] using hz)) _ _ _⟩
  | .list ds, v, u, h, r, hs, hz => by
    have h' := h
    cases h with
    | lst hq _ ha =>
      cases r
      obtain ⟨as, rd⟩ := At.reads I (.list ds) _ _ h' rfl
      obtain ⟨its, rv, ⟨o, n, ho, hc, _, hd⟩, _⟩ := I.list hq
      have hz' : (listText (PyData.shownAll ds)).length ≤ sizeLine := by simpa only [PyData.shown] using hz
      obtain ⟨bs, hb, hk⟩ := AtL.rk I ds _ its ha rv (by simpa [PyData.showable] using hs) (fun t ht => Nat.le_trans (listText_mem_le ht) hz')
      have hna := not_mem_of_deeper rd (by simp only [PyData.depth]; omega) hb
      refine ⟨_, ReadAtMost.cons rd (by simp only [PyData.depth]; omega) hb, ?_⟩
      simp only [PyData.depth, PyData.shown]
      cases its with
      | nil =>
        cases rv
        cases ha
        simp only [PyData.shownAll, listText_nil]
        exact ReprK.listEmpty ho hc hd
      | cons x l => exact ReprK.list ho hc hd hna (by simpa using hk.length_eq) (fun i y e => hk.item i y (by simpa using e))
  | .tuple ds, v, u, h, r, hs, hz => by
    have h' := h
    cases h with
    | tup hq _ ha =>
      cases r
      obtain ⟨as, rd⟩ := At.reads I (.tuple ds) _ _ h' rfl
      obtain ⟨its, rv, ⟨o, ho, hc, n, hd⟩, _⟩ := I.tuple hq
      have hz' : (tupleText (PyData.shownAll ds)).length ≤ sizeLine := by simpa only [PyData.shown] using hz
      obtain ⟨bs, hb, hk⟩ := AtL.rk I ds _ its ha rv (by simpa [PyData.showable] using hs) (fun t ht => Nat.le_trans (tupleText_mem_le ht) hz')
      have hna := not_mem_of_deeper rd (by simp only [PyData.depth]; omega) hb
      refine ⟨_, ReadAtMost.cons rd (by simp only [PyData.depth]; omega) hb, ?_⟩
      simp only [PyData.depth, PyData.shown]
      exact ReprK.tuple ho hc hd hna hk
  | .dict es, v, u, h, r, hs, hz => by
    have h' := h
    cases h with
    | dic hq _ ha =>
      cases r
      obtain ⟨as, rd⟩ := At.reads I (.dict es) _ _ h' rfl
      obtain ⟨_, hsys, vs, rv, o, ents, ep, ho, hx, hd, _, hp, _⟩ := I.hok _ _ hq
      have hz' : (dictText (PyData.shownKv es)).length ≤ sizeLine := by simpa only [PyData.shown] using hz
      obtain ⟨bs, hb, hk⟩ := AtK.rk I es _ vs ents.toList ha rv hp (by simpa [PyData.showable] using hs) (kv_line hz')
      have hna := not_mem_of_deeper rd (by simp only [PyData.depth]; omega) hb
      refine ⟨_, ReadAtMost.cons rd (by simp only [PyData.depth]; omega) hb, ?_⟩
      simp only [PyData.depth, PyData.shown]
      exact ReprK.dict ho hx.1 hd hsys hna hk
theorem AtL.rk (I : Inv X pins σ H s) : ∀ (ds : List PyData) (vs : List V) (us : List Value), AtL X.K M H vs ds → Vals vs us → PyData.showableAll ds = true → (∀ t ∈ PyData.shownAll ds, t.length ≤ sizeLine) →
    ∃ bs, ReadAtMost s.heap (PyData.depthAll ds) bs ∧ ReprAllK X.prog X.w bs s.heap (PyData.depthAll ds) us (PyData.shownAll ds)
  | [], _, _, h, r, _, _ => by
    cases h; cases r
    exact ⟨[], (fun _ z => nomatch z), by simp only [PyData.shownAll]; exact .nil⟩
  | d :: ds, _, _, h, r, hs, hz => by
    cases h with
    | cons h1 h2 =>
      cases r with
      | cons r1 r2 =>
        have hs' : d.showable = true ∧ PyData.showableAll ds = true := by simpa [PyData.showableAll] using hs
        obtain ⟨b1, q1, k1⟩ := At.rk I d _ _ h1 r1 hs'.1 (hz _ (by simp only [PyData.shownAll]; exact List.mem_cons_self ..))
        obtain ⟨b2, q2, k2⟩ := AtL.rk I ds _ _ h2 r2 hs'.2 (fun t ht => hz t (by simp only [PyData.shownAll]; exact List.mem_cons_of_mem _ ht))
        have e1 : d.depth ≤ PyData.depthAll (d :: ds) := by simp only [PyData.depthAll]; omega
        have e2 : PyData.depthAll ds ≤ PyData.depthAll (d :: ds) := by simp only [PyData.depthAll]; omega
        refine ⟨b1 ++ b2, (q1.mono e1).append (q2.mono e2), ?_⟩
        simp only [PyData.shownAll]
        exact .cons ((k1.more fun b hb => List.mem_append_left _ hb).level_le e1) (k2.more_le (fun b hb => List.mem_append_right _ hb) e2)
theorem AtK.rk (I : Inv X pins σ H s) : ∀ (es : List (PyData × PyData)) (kvs : List (Key × V)) (vs : List (Key × Value)) (ents : List DictEntry), AtK X.K M H kvs es → KV kvs vs → Pairs (mixKind X.prog X.w) ents vs →
    PyData.showableKv es = true → (∀ p ∈ PyData.shownKv es, p.length ≤ sizeLine) → ∃ bs, ReadAtMost s.heap (PyData.depthKv es) bs ∧ ReprEntriesK X.prog X.w bs s.heap (PyData.depthKv es) ents (PyData.shownKv es)
  | [], _, _, _, h, r, p, _, _ => by
    cases h; cases r; cases p
    exact ⟨[], (fun _ z => nomatch z), by simp only [PyData.shownKv]; exact .nil⟩
  | (kd, d) :: es, _, _, _, h, r, p, hs, hz => by
    cases h with
    | cons h1 h2 =>
      cases r with
      | cons r1 r2 =>
        cases p with
        | cons p1 p2 p3 =>
          rename_i k v kvs kv' vs' e ents
          have hs' : ((keyD k).showable = true ∧ d.showable = true) ∧ PyData.showableKv es = true := by simpa [PyData.showableKv] using hs
          have hzp := hz _ (by simp only [PyData.shownKv]; exact List.mem_cons_self ..)
          have hl : ((keyD k).shown ++ ": " ++ d.shown).length = (keyD k).shown.length + 2 + d.shown.length := by
            rw [strLen_append, strLen_append]; rfl
          rw [hl] at hzp
          obtain ⟨b1, q1, k1⟩ := At.rk I d _ _ h1 r1.2 hs'.1.2 (by omega)
          obtain ⟨b2, q2, k2⟩ := AtK.rk I es _ _ _ h2 r2 p3 hs'.2 (fun t ht => hz t (by simp only [PyData.shownKv]; exact List.mem_cons_of_mem _ ht))
          have e1 : d.depth ≤ PyData.depthKv ((keyD k, d) :: es) := by simp only [PyData.depthKv]; omega
          have e2 : PyData.depthKv es ≤ PyData.depthKv ((keyD k, d) :: es) := by simp only [PyData.depthKv]; omega
          refine ⟨b1 ++ b2, (q1.mono e1).append (q2.mono e2), ?_⟩
          simp only [PyData.shownKv]
          have p1' : keyIs k e.key = true := by
            have z : keyIs kv'.1 e.key = true := p1
            have e1 : k = kv'.1 := r1.1
            rw [e1]; exact z
          refine .cons (.of_is (key_shown (h := s.heap) _ _ p1' hs'.1.1 (by omega)) _ _ _) ?_ ?_
          · rw [p2]
            exact (k1.more fun b hb => List.mem_append_left _ hb).level_le e1
          · exact ReprEntriesK_more (fun b hb => List.mem_append_right _ hb) e2 k2
end
/-- repr(v), v data; no repr runs around -/
theorem call_repr_At (hG : X.A.guards = some []) (hu : X.A.units + 70 < cLine) : CallR X (.builtin "repr") (fun xs H Q => ∃ (M : List Addr) (v : V) (d : PyData), xs = [v] ∧ At X.K M H v d ∧ d.showable = true ∧ d.depth ≤ 60 ∧ d.shown.length ≤ sizeLine ∧ Q (.str d.shown) H) := by
  intro pins s σ H xs us Q I r h
  obtain ⟨M, v, d, rfl, ha, hs, hd, hz, q⟩ := h
  obtain ⟨u, rfl, ru⟩ := vals1 r
  have fin : ∀ h' tk t, (∀ b o, s.heap.get? b = some o → h'.get? b = some o) → EP X pins σ Q (.str d.shown t) { s with heap := h', toks := tk } :=
    fun h' tk t k => ⟨.str d.shown, H, I.kept k, ⟨t, rfl⟩, q⟩
  have h' := ha
  cases ha with
  | non =>
    cases ru
    exact PySem.P.repr_of_none (fin _ _ _ fun _ _ e => e)
  | bl b =>
    cases ru
    refine PySem.P.repr_of_bool ?_
    have z := fin s.heap (s.toks + 1) s.toks fun _ _ e => e
    simp only [PyData.shown] at z
    exact z
  | int i =>
    obtain ⟨t, rfl⟩ := ru
    refine PySem.P.repr_of_int (by simpa [PyData.showable] using hs) ?_
    have z := fin s.heap (s.toks + 1) s.toks fun _ _ e => e
    simp only [PyData.shown] at z
    exact z
  | str x =>
    obtain ⟨t, rfl⟩ := ru
    refine PySem.P.repr_of_str ?_ (by simpa only [PyData.shown] using hz)
    have z := fin s.heap (s.toks + 1) s.toks fun _ _ e => e
    simp only [PyData.shown] at z
    exact z
  | @lst a xs ds hq hn hl =>
    cases ru
    obtain ⟨as, rd⟩ := At.reads I (.list ds) _ _ h' rfl
    obtain ⟨its, rv, ⟨o, n, ho, hc, _, hdt⟩, _⟩ := I.list hq
    have hz' : (listText (PyData.shownAll ds)).length ≤ sizeLine := by simpa only [PyData.shown] using hz
    obtain ⟨bs, hb, hk⟩ := AtL.rk I ds _ its hl rv (by simpa [PyData.showable] using hs) (fun t ht => Nat.le_trans (listText_mem_le ht) hz')
    have hna := not_mem_of_deeper rd (by simp only [PyData.depth]; omega) hb
    simp only [PyData.depth] at hd
    simp only [PyData.shown] at fin
    refine call_repr_slot (by omega) ⟨o, ho, hc⟩ F.slot_list_repr.toG ?_
    cases its with
    | nil =>
      cases rv
      cases hl
      simp only [PyData.shownAll, listText_nil] at fin
      exact call_list_repr_empty ⟨o, ho, hc⟩ ho hdt ⟨_, _, rfl, fin s.heap _ _ fun _ _ e => e⟩
    | cons x l =>
      exact call_list_reprK ho hc hdt hna (by simpa using hk.length_eq) (fun i y e => hk.item i y (by simpa using e)) hG (fun b _ => Clear.nil b) (by show X.A.units + 1 + (_ + 1) < cLine; omega) (fun _ _ e => e) (fun h' u tk k => ⟨_, _, rfl, fin h' tk u k⟩) hz'
  | @tup a xs ds hq hn hl =>
    cases ru
    obtain ⟨as, rd⟩ := At.reads I (.tuple ds) _ _ h' rfl
    obtain ⟨its, rv, ⟨o, ho, hc, n, hdt⟩, _⟩ := I.tuple hq
    have hz' : (tupleText (PyData.shownAll ds)).length ≤ sizeLine := by simpa only [PyData.shown] using hz
    obtain ⟨bs, hb, hk⟩ := AtL.rk I ds _ its hl rv (by simpa [PyData.showable] using hs) (fun t ht => Nat.le_trans (tupleText_mem_le ht) hz')
    have hna := not_mem_of_deeper rd (by simp only [PyData.depth]; omega) hb
    simp only [PyData.depth] at hd
    simp only [PyData.shown] at fin
    refine call_repr_slot (by omega) ⟨o, ho, hc⟩ F.slot_tuple_repr ?_
    exact call_tuple_reprK ho hc hdt hna hk hG (fun b _ => Clear.nil b) (by show X.A.units + 1 + (_ + 1) < cLine; omega) (fun _ _ e => e) (fun h' u tk k => ⟨_, _, rfl, fin h' tk u k⟩) hz'
  | @dic a kvs es hq hn hl =>
    cases ru
    obtain ⟨as, rd⟩ := At.reads I (.dict es) _ _ h' rfl
    obtain ⟨_, hsys, vs, rv, o, ents, ep, ho, hx, hdt, _, hp, _⟩ := I.hok _ _ hq
    have hz' : (dictText (PyData.shownKv es)).length ≤ sizeLine := by simpa only [PyData.shown] using hz
    obtain ⟨bs, hb, hk⟩ := AtK.rk I es _ vs ents.toList hl rv hp (by simpa [PyData.showable] using hs) (kv_line hz')
    have hna := not_mem_of_deeper rd (by simp only [PyData.depth]; omega) hb
    simp only [PyData.depth] at hd
    simp only [PyData.shown] at fin
    refine call_repr_slot (by omega) ⟨o, ho, hx.1⟩ F.slot_dict_repr ?_
    exact call_dict_reprK ho hx.1 hdt hsys hna hk hG (fun b _ => Clear.nil b) (by show X.A.units + 1 + (_ + 1) < cLine; omega) (fun _ _ e => e) (fun h' u tk k => ⟨_, _, rfl, fin h' tk u k⟩) hz'
end
end Dh
end

/-! DhB -/
section
set_option Elab.async false
set_option linter.all false
set_option maxRecDepth 100000
set_option maxHeartbeats 2000000
namespace Dh
open PySem PySem.Spec PyProof.Rows L2

/-! ### defs that are called where no repr runs -/
structure FnG (P : Program) (w : World) (K : PySem.W.Frag) (mg : Str → Option Value) (base : Heap) (cx : CXT) (k : Nat) (f : Addr) (fd : FuncData) (ps : List Str) (sp : Sp) : Prop where
  ln : ∀ vs H Q E, sp vs H Q E → vs.length = ps.length
  go : ∀ (A : Around) (outer : List Env) (s : Shared) (H : Hp) (args : Args) (us : List Value) (vs : List V) (Q : VK) (E : XK),
    A.guards = some [] → Room k A → Env0 P w K mg base A outer s H → BindsTo s fd args (ps.zip us) → Vals vs us → sp vs H Q E →
    codeAny (model P w) A (.call (.ref f) args) (CR cx outer P w H s Q E) s

section
variable {P : Program} {w : World} {K : PySem.W.Frag} {mg : Str → Option Value} {base : Heap} {cx : CXT}
/-- its body, run at an entry where no repr runs -/
theorem FnG.by_body {x qual : Str} {st : Stmt} {f : Addr} {fd : FuncData} {N ps : List Str} {k : Nat} {sp : Sp} (F : Fun K x qual st f fd) (S : FnScope N ps (defScope st))
    (ln : ∀ vs H Q E, sp vs H Q E → vs.length = ps.length)
    (run : ∀ (cdv : Value) (A : Around) (outer : List Env) (s : Shared) (H : Hp) (vs : List V) (Q : VK) (E : XK),
      (A.deeper (envOfC qual (defScope st) s.heap.objs.size f cdv)).guards = some [] → Room k (A.deeper (envOfC qual (defScope st) s.heap.objs.size f cdv)) → sp vs H Q E →
      ∃ t, PSs (cxOf cx P w K mg base N qual (defScope st) f cdv A outer s H E) (defBody st) t ∧ t { nx := fun _ H' => Q .non H', rt := Q } (start N vs) H) :
    FnG P w K mg base cx (k + 1) f fd ps sp := by
  obtain ⟨oc, od, kV, doc, pm, an, cdv, ct, osl, rfl, at_f, code⟩ := F.ex
  refine ⟨ln, ?_⟩
  intro A outer s H args us vs Q E noG room ent binds rel want
  have stays : ∀ b o, base.get? b = some o → s.heap.get? b = some o := fun b o e => (ent.bs b o e).1
  have inK : K.In s.heap := ent.mod.kin.keeps stays
  refine codeAny_call_function room.depth (inK _ _ at_f) rfl S.co S.gen rfl (PySem.W.codeRec_of inK code) (binds _ _ _ _ ?_)
  refine wpAny_newFunctionEnv_cells S.kind (fun y hy => ?_) (fun env he s1 made => ?_)
  · obtain ⟨n, v⟩ := y
    have := S.par n (List.of_mem_zip hy).1
    rcases this with q | q
    · exact .inl q
    · exact .inr ⟨q, PySem.W.cellsFrom_some _ _ _ (.inl q)⟩
  · subst he
    refine ⟨(ent.mod.nolimit.keeps stays).keeps made.toInCall.keep, codeAny_func ?_⟩
    have noG' : (A.deeper (envOfC qual (defScope st) s.heap.objs.size f cdv)).guards = some [] := noG
    obtain ⟨t, body, q⟩ := run cdv A outer s H vs Q E noG' (room.deeper _) want
    have I0 := inv_start (CX := cx) (E := E) (N := N) S room.hd ent (ln _ _ _ _ want) rel made
    refine wpAny_mono (body.run [] s1 (start N vs) H _ I0 q) ?_ (fun e s' z => z)
    intro fl s' out
    cases fl with
    | ret u =>
      obtain ⟨v, σ', H', J, r', q'⟩ := out
      exact ⟨v, H', J.os, J.bare, J.base, J.hok, r', q'⟩
    | next =>
      obtain ⟨σ', H', J, q'⟩ := out
      exact ⟨V.non, H', J.os, J.bare, J.base, J.hok, rfl, q'⟩
    | brk => obtain ⟨_, _, _, z⟩ := out; exact z.elim
    | cont => obtain ⟨_, _, _, z⟩ := out; exact z.elim

/-- as by_body, where nothing that is raised leaves -/
theorem FnG.by0 {x qual : Str} {st : Stmt} {f : Addr} {fd : FuncData} {N ps : List Str} {k : Nat} {sp : Sp} (F : Fun K x qual st f fd) (S : FnScope N ps (defScope st))
    (ln : ∀ vs H Q E, sp vs H Q E → vs.length = ps.length)
    (run : ∀ (cdv : Value) (A : Around) (outer : List Env) (s : Shared) (H : Hp) (vs : List V) (Q : VK) (E : XK),
      (A.deeper (envOfC qual (defScope st) s.heap.objs.size f cdv)).guards = some [] → Room k (A.deeper (envOfC qual (defScope st) s.heap.objs.size f cdv)) → sp vs H Q E →
      ∃ t, PSs (cxOf CX0 P w K mg base N qual (defScope st) f cdv A outer s H E).nox (defBody st) t ∧ t { nx := fun _ H' => Q .non H', rt := Q } (start N vs) H) :
    FnG P w K mg base CX0 (k + 1) f fd ps sp :=
  FnG.by_body F S ln fun cdv A outer s H vs Q E g r h => by
    obtain ⟨t, a, b⟩ := run cdv A outer s H vs Q E g r h
    exact ⟨t, a.nox, b⟩

theorem FnOk.toG {k : Nat} {f : Addr} {fd : FuncData} {ps : List Str} {sp : Sp} (F : FnOk P w K mg base cx k f fd ps sp) : FnG P w K mg base cx k f fd ps sp :=
  ⟨F.len, fun A outer s H args us vs Q E _ => F.run A outer s H args us vs Q E⟩
end

section
variable {X : Cx} {cx : CXT} {k : Nat} {f : Addr} {fd : FuncData} {ps : List Str} {sp : Sp} {E : XK} {x : Str} {p pos : Pos} {e : Expr} {es : List Expr} {t : TA}
/-- f(e, ..), f such a def, called where no repr runs -/
theorem pe_callG (F : FnG X.prog X.w X.K X.mg X.base cx k f fd ps sp) (noG : X.A.guards = some []) (room : Room k X.A) (hg : Gl X x) (hm : X.mg x = some (.ref f)) (hk : PySem.W.keepIn X.K (.ref f) = true)
    (hb : Binds X.K fd ps []) (out : Passes cx X E) (ha : PA X (e :: es) t) (hdb : (x == ("__debug__" : Str)) = false := by decide)
    (he : starEach (e :: es) X.env = (false, eval e X.env) :: starEach es X.env := by rfl) (hpl : (backTo pos (starEach es X.env)).any (·.1) = false := by rfl) :
    PE X (.Call (.Name x p) (e :: es) [] pos) (tCall sp [] E t) := by
  constructor
  intro pins s σ H Q I h
  refine wpAny_Call_Name_kw (ld_glob I hg hm ?_ hdb)
  refine PySem.W.callWith_K (h₀ := X.base) I.ok.mod.kin hk ?_ he hpl
  refine thn (ha.run pos pins s σ H _ I h) ?_
  rintro us s1 ⟨vs, H1, I1, r, q⟩
  rw [List.append_nil] at q
  refine ⟨I1.kIn, wpAny_call ?_⟩
  have hl : (us ++ []).length = ps.length := by rw [List.append_nil, ← r.length]; exact F.ln _ _ _ _ q
  have bd := hb s1 us I1.kIn hl
  rw [List.append_nil] at bd
  refine codeAny_mono (F.go X.A X.stack s1 H1 ⟨us, []⟩ us vs Q E noG room I1.env0 bd r q) ?_
  intro res s' z
  cases res with
  | error err => exact out pins σ H1 s1 err s' I1 z
  | ok fl =>
    cases fl with
    | ret u => exact I1.after z
    | next => exact False.elim z
    | brk => exact False.elim z
    | cont => exact False.elim z
end

/-! ### the end of a law of such defs -/
section
variable {l : PySem.W.OpenLaw} {n k : Nat} {q : Program} {loose : List Str} {XP : (Str → Option Value) → Heap → Prop} {YP : World → Heap → Prop} {d : DefRec} {Kp : Params → PySem.W.Frag} {x : Str}
theorem walkG {sp : PySem.W.Frag → Sp} (hn : l.most = some n) (hn2 : n ≤ sizeLine) (hdf : d.params.defaults = []) (room : Room k callerA)
    (hY : ∀ (w : World) (h : Heap), YP w h → (Kp w.params).In h)
    (main : ∀ (w : World) (mg : Str → Option Value) (fa : Addr) (h : Heap), (Kp w.params).In h → h.Ns mainGlobals mg → mg d.name = some (.ref fa) →
      ∃ fd : FuncData, (∀ (s : Shared) (u : Value), BindsTo s fd ⟨[u], []⟩ [(x, u)]) ∧
        ∀ base : Heap, (Kp w.params).In base → base.Ns mainGlobals mg → FnG l.prog w (Kp w.params) mg base CX0 k fa fd [x] (sp (Kp w.params)))
    (want : ∀ (K : PySem.W.Frag) (H : Hp) (a : Addr) (ns : List Int), ns.length ≤ n → SqL K H a (ns.map V.int) → sp K [.ref a] H (fun v _ => v = .bl true) fun _ _ _ => False) :
    PySem.W.WalkO q loose XP YP l.row.toRowW d [] (fun f vs => PySem.call f vs) := by
  refine Att.attach_call hn hdf ?_
  intro w s0 s1 mg mb fa o pm cd doc a vs ns G Y _ _ _ hmg script numbers short bare0
  have inK := hY w _ Y
  obtain ⟨fd, binds, F⟩ := main w mg fa _ inK G.T.g hmg
  have rel := vals_ints numbers
  have lens : vs.length = ns.length := numbers.length
  have go : ∀ H : Hp, HOk l.prog w H s1.heap → SqL (Kp w.params) H a (ns.map V.int) → (∀ b, H b = none ∨ (b = a ∧ (Kp w.params).lookup a = none ∧ ∃ ob, ∃ xs, H b = some (.frz ob (.lst xs)))) →
      codeAny (model l.prog w) callerA (.call (.ref fa) ⟨[.ref a], []⟩) (fun r s' => r = .ok (.ret (.bool true)) ∧ OldK s1.heap s'.heap ∧ s'.os = s1.os ∧ AllBare s'.gens) s1 := by
    intro H ok hS only
    have plain : ∀ {b : Addr} {ob : Obj}, s1.heap.get? b = some ob → (∀ its m, ob.data ≠ .seq its m) → H b = none := by
      intro b ob e nd
      rcases only b with z | ⟨rfl, _⟩
      · exact z
      · rw [script] at e; cases e
        exact absurd rfl (nd _ _)
    have nsT : ∀ {b : Addr} {m : Str → Option Value}, s1.heap.Ns b m → (hidT s1.heap H).Ns b m := by
      rintro b m ⟨ob, es, ep, e, dt, r⟩
      exact ⟨ob, es, ep, hidT_get e (plain e fun its k z => by rw [dt] at z; cases z), dt, r⟩
    have kT : (Kp w.params).In (hidT s1.heap H) := by
      intro b ob e
      refine hidT_get (inK b ob e) ?_
      rcases only b with z | ⟨rfl, nk, _⟩
      · exact z
      · rw [nk] at e; cases e
    have lim : (hidT s1.heap H).NoLimit := by
      obtain ⟨mc, e1, e2⟩ := G.T.nolimit
      exact ⟨mc, nsT e1, e2⟩
    have ent : Env0 l.prog w (Kp w.params) mg (hidT s1.heap H) callerA [] s1 H :=
      ⟨rfl, ⟨kT, nsT G.T.g, ⟨mb, nsT G.T.b, G.T.builtins⟩, lim⟩, fun b ob e => of_hidT e, Nat.le_of_eq (hidT_size _ _), True.intro, (fun b hb => absurd (show b ∈ ([] : List Addr) from hb) (by simp)), ok, .of_eq bare0⟩
    refine codeAny_mono ((F _ kT (nsT G.T.g)).go callerA [] s1 H ⟨[.ref a], []⟩ [.ref a] [.ref a] _ _ rfl room ent (binds s1 (.ref a)) (.cons rfl .nil) (want _ H a ns short hS)) ?_
    intro r s' z
    cases r with
    | error e => exact False.elim z
    | ok fl =>
     cases fl with
     | next => exact False.elim z
     | brk => exact False.elim z
     | cont => exact False.elim z
     | ret u =>
      obtain ⟨v, H', os, bare, un, ok', rv, qv⟩ := z
      have qv' : v = .bl true := qv
      subst qv'
      have eu : u = Value.bool true := rv
      subst eu
      refine ⟨rfl, OldK.of_keep (fun b ob e => ?_), os, bare⟩
      rcases only b with z | ⟨_, _, ob2, xs, z⟩
      · exact un.keep b ob e z (by intro y; exact absurd (show b ∈ ([] : List Addr) from y) (by simp)) (by simp)
      · have z2 := un.frzs b ob2 _ z
        have e1 := (ok b _ z).1
        have e2 := (ok' b _ z2).1
        rw [e] at e1; cases e1
        exact e2
  have big : ns.length ≤ sizeLine := Nat.le_trans short hn2
  cases hk : (Kp w.params).lookup a with
  | some ob =>
    have e := inK a ob hk
    rw [script] at e; cases e
    refine go (fun _ => none) (fun b u z => by cases z) (.inr ⟨_, vs.toArray, _, hk, rfl, rfl, rfl, ?_, ?_⟩) (fun b => .inl rfl)
    · rw [List.size_toArray, lens]; exact big
    · simpa using rel
  | none =>
    refine go (upd (fun _ => none) a (.frz { cls := .type "list", data := .seq vs.toArray } (.lst (ns.map V.int)))) (fun b u z => ?_) (.inl (.inr ⟨_, upd_same⟩)) (fun b => ?_)
    · by_cases hb : b = a
      · subst hb
        rw [upd_same] at z; cases z
        exact ⟨script, by rw [List.length_map]; exact big, vs, _, rel, script⟩
      · rw [upd_ne hb] at z; cases z
    · by_cases hb : b = a
      · subst hb
        exact .inr ⟨rfl, hk, _, _, upd_same⟩
      · exact .inl (upd_ne hb)
end
end Dh
end

/-! Px1 -/
section
set_option Elab.async false
set_option linter.all false
set_option maxRecDepth 100000
set_option maxHeartbeats 2000000
namespace Px
open PySem PySem.Spec PyProof.Rows L2 Dh

/-- what a slot or a value is, as data: data that never change from here on; an object of one's own; the object of slot i; a caller's object, read only; the deck; a value as it is -/
inductive D where
  | v (d : PyData)
  | own (d : PyData)
  | bor (i : Nat)
  | ro (d : PyData)
  | deck
  | raw (x : V)
abbrev Env := List (Option D)

/-! ### data in the heap, apart from W unless they are of the written part -/
def KL (K : PySem.W.Frag) (a : Addr) (xs : List V) : Prop :=
  ∃ (o : Obj) (its : Array Value) (n : Nat), K.lookup a = some o ∧ o.cls = .type "list" ∧ o.dict = none ∧ o.data = .seq its n ∧ its.size ≤ sizeLine ∧ Vals xs its.toList
def KT (K : PySem.W.Frag) (a : Addr) (xs : List V) : Prop :=
  ∃ (o : Obj) (its : Array Value) (n : Nat), K.lookup a = some o ∧ o.cls = .type "tuple" ∧ o.data = .seq its n ∧ its.size ≤ sizeLine ∧ Vals xs its.toList
abbrev AS := Addr → Prop
/-- something stands there that is no tuple -/
abbrev Th (H : Hp) (b : Addr) : Prop := ∃ o : HO, H b = some o ∧ ∀ xs, o ≠ .tup xs
abbrev SS := L2.St
mutual
inductive Ac (K : PySem.W.Frag) (W : AS) (H : Hp) : V → PyData → Prop
  | non : Ac K W H .non .none
  | bl (b : Bool) : Ac K W H (.bl b) (.bool b)
  | int (i : Int) : Ac K W H (.int i) (.int i)
  | str (x : Str) : Ac K W H (.str x) (.str x)
  | lst {a : Addr} {xs : List V} {ds : List PyData} : H a = some (.lst xs) → ¬ W a → AcL K W H xs ds → Ac K W H (.ref a) (.list ds)
  | tup {a : Addr} {xs : List V} {ds : List PyData} : H a = some (.tup xs) → ¬ W a → AcL K W H xs ds → Ac K W H (.ref a) (.tuple ds)
  | tupK {a : Addr} {xs : List V} {ds : List PyData} : KT K a xs → AcL K W H xs ds → Ac K W H (.ref a) (.tuple ds)
  | dic {a : Addr} {kvs : List (Key × V)} {es : List (PyData × PyData)} : H a = some (.dK kvs) → ¬ W a → AcK K W H kvs es → Ac K W H (.ref a) (.dict es)
inductive AcL (K : PySem.W.Frag) (W : AS) (H : Hp) : List V → List PyData → Prop
  | nil : AcL K W H [] []
  | cons {v : V} {vs : List V} {d : PyData} {ds : List PyData} : Ac K W H v d → AcL K W H vs ds → AcL K W H (v :: vs) (d :: ds)
inductive AcK (K : PySem.W.Frag) (W : AS) (H : Hp) : List (Key × V) → List (PyData × PyData) → Prop
  | nil : AcK K W H [] []
  | cons {k : Key} {v : V} {kvs : List (Key × V)} {d : PyData} {es : List (PyData × PyData)} : Ac K W H v d → AcK K W H kvs es → AcK K W H ((k, v) :: kvs) ((keyD k, d) :: es)
end
/-- an object of one's own -/
inductive Ow (K : PySem.W.Frag) (W : AS) (H : Hp) (a : Addr) : PyData → Prop
  | lst {xs : List V} {ds : List PyData} : H a = some (.lst xs) → AcL K W H xs ds → Ow K W H a (.list ds)
  | dic {kvs : List (Key × V)} {es : List (PyData × PyData)} : H a = some (.dK kvs) → AcK K W H kvs es → Ow K W H a (.dict es)
/-- what can be read: data, or an object of one's own whose parts are data -/
def Rv (K : PySem.W.Frag) (W : AS) (H : Hp) (x : V) (d : PyData) : Prop := Ac K W H x d ∨ ∃ a, x = .ref a ∧ Ow K W H a d

/-- what stood apart from W stands apart from W' -/
def Tr (W : AS) (H : Hp) (W' : AS) (H' : Hp) : Prop := ∀ a u, H a = some u → ¬ W a → H' a = some u ∧ ¬ W' a
theorem Tr.refl (W : AS) (H : Hp) : Tr W H W H := fun _ _ a b => ⟨a, b⟩
theorem Tr.trans {W W1 W2 : AS} {H H1 H2 : Hp} (a : Tr W H W1 H1) (b : Tr W1 H1 W2 H2) : Tr W H W2 H2 := fun x u r n => b x u (a x u r n).1 (a x u r n).2
theorem Tr.less {W W' : AS} {H : Hp} (h : ∀ a, W' a → W a) : Tr W H W' H := fun _ _ r n => ⟨r, fun z => n (h _ z)⟩
section
variable {K : PySem.W.Frag} {W W' : AS} {H H' : Hp}
mutual
theorem Ac.tr (t : Tr W H W' H') : ∀ (d : PyData) {x : V}, Ac K W H x d → Ac K W' H' x d
  | .none, _, h => by cases h; exact .non
  | .bool b, _, h => by cases h; exact .bl b
  | .int i, _, h => by cases h; exact .int i
  | .str x, _, h => by cases h; exact .str x
  | .list ds, _, h => by
    cases h with
    | lst h1 h2 h3 => exact .lst (t _ _ h1 h2).1 (t _ _ h1 h2).2 (AcL.tr t ds h3)
  | .tuple ds, _, h => by
    cases h with
    | tup h1 h2 h3 => exact .tup (t _ _ h1 h2).1 (t _ _ h1 h2).2 (AcL.tr t ds h3)
    | tupK h1 h3 => exact .tupK h1 (AcL.tr t ds h3)
  | .dict es, _, h => by
    cases h with
    | dic h1 h2 h3 => exact .dic (t _ _ h1 h2).1 (t _ _ h1 h2).2 (AcK.tr t es h3)
theorem AcL.tr (t : Tr W H W' H') : ∀ (ds : List PyData) {xs : List V}, AcL K W H xs ds → AcL K W' H' xs ds
  | [], _, h => by cases h; exact .nil
  | d :: ds, _, h => by
    cases h with
    | cons h1 h2 => exact .cons (Ac.tr t d h1) (AcL.tr t ds h2)
theorem AcK.tr (t : Tr W H W' H') : ∀ (es : List (PyData × PyData)) {kvs : List (Key × V)}, AcK K W H kvs es → AcK K W' H' kvs es
  | [], _, h => by cases h; exact .nil
  | (_, d) :: es, _, h => by
    cases h with
    | cons h1 h2 => exact .cons (Ac.tr t d h1) (AcK.tr t es h2)
end
theorem Ow.tr (t : Tr W H W' H') {a : Addr} {d : PyData} (e : H' a = H a) (h : Ow K W H a d) : Ow K W' H' a d := by
  cases h with
  | lst h1 h2 => exact .lst (e.trans h1) (AcL.tr t _ h2)
  | dic h1 h2 => exact .dic (e.trans h1) (AcK.tr t _ h2)
theorem Ow.there {a : Addr} {d : PyData} (h : Ow K W H a d) : Th H a := by
  cases h with
  | lst h1 _ => exact ⟨_, h1, fun _ z => by cases z⟩
  | dic h1 _ => exact ⟨_, h1, fun _ z => by cases z⟩
/-- an object of one's own becomes data -/
theorem Ow.ac {a : Addr} {d : PyData} (h : Ow K W H a d) (t : ∀ b, W' b → W b) (n : ¬ W' a) : Ac K W' H (.ref a) d := by
  cases h with
  | lst h1 h2 => exact .lst h1 n (AcL.tr (Tr.less t) _ h2)
  | dic h1 h2 => exact .dic h1 n (AcK.tr (Tr.less t) _ h2)
theorem AcL.len : ∀ {xs : List V} {ds : List PyData}, AcL K W H xs ds → xs.length = ds.length
  | _, _, .nil => rfl
  | _, _, .cons _ h => by simp [AcL.len h]
theorem AcL.app : ∀ {vs ws : List V} {ds es : List PyData}, AcL K W H vs ds → AcL K W H ws es → AcL K W H (vs ++ ws) (ds ++ es)
  | _, _, _, _, .nil, h => h
  | _, _, _, _, .cons a b, h => .cons a (AcL.app b h)
theorem AcL.snoc {vs : List V} {v : V} {ds : List PyData} {d : PyData} (h : AcL K W H vs ds) (k : Ac K W H v d) : AcL K W H (vs ++ [v]) (ds ++ [d]) := h.app (.cons k .nil)
theorem AcL.at : ∀ {vs : List V} {ds : List PyData}, AcL K W H vs ds → ∀ {i : Nat} {d : PyData}, ds[i]? = some d → ∃ v, vs[i]? = some v ∧ Ac K W H v d
  | _, _, .nil, _, _, e => by simp at e
  | _, _, .cons h _, 0, _, e => by
    simp at e; subst e
    exact ⟨_, rfl, h⟩
  | _, _, .cons _ h, i + 1, v, e => by
    obtain ⟨d, h1, h2⟩ := AcL.at h (i := i) (d := v) (by simpa using e)
    exact ⟨d, by simpa using h1, h2⟩
theorem AcL.tk : ∀ (n : Nat) {vs : List V} {ds : List PyData}, AcL K W H vs ds → AcL K W H (vs.take n) (ds.take n)
  | 0, _, _, _ => by simp; exact .nil
  | n + 1, _, _, .nil => .nil
  | n + 1, _, _, .cons a b => .cons a (AcL.tk n b)
theorem AcL.dr : ∀ (n : Nat) {vs : List V} {ds : List PyData}, AcL K W H vs ds → AcL K W H (vs.drop n) (ds.drop n)
  | 0, _, _, h => h
  | n + 1, _, _, .nil => .nil
  | n + 1, _, _, .cons a b => AcL.dr n b
theorem AcL.rev : ∀ {vs : List V} {ds : List PyData}, AcL K W H vs ds → AcL K W H vs.reverse ds.reverse
  | _, _, .nil => .nil
  | _, _, .cons a b => by rw [List.reverse_cons, List.reverse_cons]; exact (AcL.rev b).snoc a
theorem AcL.st : ∀ (n : Nat) {vs : List V} {ds : List PyData} {v : V} {d : PyData}, AcL K W H vs ds → Ac K W H v d → AcL K W H (vs.set n v) (ds.set n d)
  | _, _, _, _, _, .nil, _ => .nil
  | 0, _, _, _, _, .cons _ b, k => .cons k b
  | n + 1, _, _, _, _, .cons a b, k => .cons a (AcL.st n b k)
theorem Ac.sqL {a : Addr} {ds : List PyData} (h : Ac K W H (.ref a) (.list ds)) : ∃ xs, SqL K H a xs ∧ AcL K W H xs ds := by
  cases h with
  | lst h1 _ h3 => exact ⟨_, .inl (.inl h1), h3⟩
theorem Ac.sqT {a : Addr} {ds : List PyData} (h : Ac K W H (.ref a) (.tuple ds)) : ∃ xs, SqT K H a xs ∧ AcL K W H xs ds := by
  cases h with
  | tup h1 _ h3 => exact ⟨_, .inl (.inl h1), h3⟩
  | tupK h1 h3 => exact ⟨_, .inr h1, h3⟩
/-- what can be read as a list, a tuple -/
theorem Rv.lst0 {x : V} {ds : List PyData} (h : Rv K W H x (.list ds)) : ∃ a xs, x = .ref a ∧ H a = some (.lst xs) ∧ AcL K W H xs ds := by
  rcases h with h | ⟨a, rfl, h⟩
  · cases h with
    | lst h1 _ h3 => exact ⟨_, _, rfl, h1, h3⟩
  · cases h with
    | lst h1 h3 => exact ⟨_, _, rfl, h1, h3⟩
theorem Rv.lst {x : V} {ds : List PyData} (h : Rv K W H x (.list ds)) : ∃ a xs, x = .ref a ∧ SqL K H a xs ∧ AcL K W H xs ds := by
  obtain ⟨a, xs, e, h1, h2⟩ := h.lst0
  exact ⟨a, xs, e, .inl (.inl h1), h2⟩
theorem Rv.tup {x : V} {ds : List PyData} (h : Rv K W H x (.tuple ds)) : ∃ a xs, x = .ref a ∧ SqT K H a xs ∧ AcL K W H xs ds := by
  rcases h with h | ⟨a, rfl, h⟩
  · cases h with
    | tup h1 _ h3 => exact ⟨_, _, rfl, .inl (.inl h1), h3⟩
    | tupK h1 h3 => exact ⟨_, _, rfl, .inr h1, h3⟩
  · cases h
theorem Rv.int {x : V} {i : Int} (h : Rv K W H x (.int i)) : x = .int i := by
  rcases h with h | ⟨a, rfl, h⟩
  · cases h; rfl
  · cases h
theorem Rv.str {x : V} {i : Str} (h : Rv K W H x (.str i)) : x = .str i := by
  rcases h with h | ⟨a, rfl, h⟩
  · cases h; rfl
  · cases h
theorem Rv.bool {x : V} {i : Bool} (h : Rv K W H x (.bool i)) : x = .bl i := by
  rcases h with h | ⟨a, rfl, h⟩
  · cases h; rfl
  · cases h
theorem Rv.none {x : V} (h : Rv K W H x .none) : x = .non := by
  rcases h with h | ⟨a, rfl, h⟩
  · cases h; rfl
  · cases h
theorem Rv.dic {x : V} {es : List (PyData × PyData)} (h : Rv K W H x (.dict es)) : ∃ a kvs, x = .ref a ∧ H a = some (.dK kvs) ∧ AcK K W H kvs es := by
  rcases h with h | ⟨a, rfl, h⟩
  · cases h with
    | dic h1 _ h3 => exact ⟨_, _, rfl, h1, h3⟩
  · cases h with
    | dic h1 h3 => exact ⟨_, _, rfl, h1, h3⟩
theorem AcL.ints : ∀ (ls : List Int) {vs : List V}, AcL K W H vs (ls.map PyData.int) → vs = ls.map V.int
  | [], _, h => by cases h; rfl
  | x :: r, _, h => by
    cases h with
    | cons a b => cases a; rw [AcL.ints r b]; rfl
theorem AcL.strs : ∀ (ls : List Str) {vs : List V}, AcL K W H vs (ls.map PyData.str) → vs = ls.map V.str
  | [], _, h => by cases h; rfl
  | x :: r, _, h => by
    cases h with
    | cons a b => cases a; rw [AcL.strs r b]; rfl
theorem AcL.bools : ∀ (ls : List Bool) {vs : List V}, AcL K W H vs (ls.map PyData.bool) → vs = ls.map V.bl
  | [], _, h => by cases h; rfl
  | x :: r, _, h => by
    cases h with
    | cons a b => cases a; rw [AcL.bools r b]; rfl
theorem AcL.ofInts : ∀ (ls : List Int), AcL K W H (ls.map V.int) (ls.map PyData.int)
  | [] => .nil
  | x :: r => .cons (.int x) (AcL.ofInts r)
theorem AcL.ofStrs : ∀ (ls : List Str), AcL K W H (ls.map V.str) (ls.map PyData.str)
  | [] => .nil
  | x :: r => .cons (.str x) (AcL.ofStrs r)
end
end Px
end

/-! Px2 -/
section
set_option Elab.async false
set_option linter.all false
set_option maxRecDepth 100000
set_option maxHeartbeats 2000000
set_option autoImplicit false
namespace Px
open PySem PySem.Spec PyProof.Rows L2

/-! ### what is held: values of a row of expressions, and slots -/
abbrev Id := Nat ⊕ Nat
abbrev Ent := Id → Option (D × V)
def upE (e : Ent) (k : Id) (o : Option (D × V)) : Ent := fun j => if j = k then o else e j
theorem upE_same {e : Ent} {k : Id} {o : Option (D × V)} : upE e k o k = o := by unfold upE; rw [if_pos rfl]
theorem upE_ne {e : Ent} {k j : Id} {o : Option (D × V)} (h : j ≠ k) : upE e k o j = e j := by unfold upE; rw [if_neg h]
/-- the deck's keys that hold ints -/
class IK where
  ks : List Key
structure Cc where
  K : PySem.W.Frag
  M : AS
  U : List Addr
  H0 : Hp
  ik : List Key
abbrev kLeft : Key := .inr "left"
/-- the deck: a dict of ints, and its list of ints -/
def Dck (ik : List Key) (U : List Addr) (H : Hp) (dk : Addr) : Prop :=
  ∃ (lf : Addr) (kvs : List (Key × V)) (ls : List Int), U = [dk, lf] ∧ dk ≠ lf ∧ H dk = some (.dK kvs) ∧ kvs.length ≤ 10 ∧ valV kvs kLeft = some (.ref lf) ∧ (∀ k ∈ ik, ∃ m, valV kvs k = some (.int m)) ∧ H lf = some (.lst (ls.map V.int)) ∧ ls.length ≤ 63
inductive VOk (C : Cc) (W : AS) (σ : SS) (H : Hp) : D → V → Prop
  | v {d : PyData} {x : V} : Ac C.K W H x d → VOk C W σ H (.v d) x
  | own {d : PyData} {a : Addr} : Ow C.K W H a d → VOk C W σ H (.own d) (.ref a)
  | bor {i : Nat} {x : V} : σ[i]? = some (some x) → VOk C W σ H (.bor i) x
  | ro {d : PyData} {a : Addr} : Ow C.K W H a d → C.M a → a ∉ C.U → VOk C W σ H (.ro d) (.ref a)
  | deck {a : Addr} : Dck C.ik C.U H a → VOk C W σ H .deck (.ref a)
  | raw {x : V} : VOk C W σ H (.raw x) x
def WE (C : Cc) (e : Ent) : AS := fun a => C.M a ∨ ∃ k d, e k = some (.own d, .ref a)
structure RelE (C : Cc) (e : Ent) (σ : SS) (H : Hp) : Prop where
  ok : ∀ k d x, e k = some (d, x) → VOk C (WE C e) σ H d x
  inj : ∀ k j d d' a, e k = some (.own d, .ref a) → e j = some (.own d', .ref a) → k = j
  ap : ∀ k d a, e k = some (.own d, .ref a) → ¬ C.M a ∧ C.H0 a = none
  kp : Dh.Kp C.U C.H0 H
  tr : ∀ b, C.M b → Th H b
  uM : ∀ b ∈ C.U, C.M b
  dk : ∀ a, Dck C.ik C.U C.H0 a → Dck C.ik C.U H a

theorem VOk.tr {C : Cc} {W W' : AS} {σ σ' : SS} {H H' : Hp} {d : D} {x : V} (t : Tr W H W' H') (hO : ∀ a, (∃ d', d = .own d' ∧ x = .ref a) ∨ (C.M a ∧ a ∉ C.U) → H' a = H a) (hd : ∀ dk, Dck C.ik C.U H dk → Dck C.ik C.U H' dk)
    (hs : ∀ (i : Nat) x, σ[i]? = some (some x) → σ'[i]? = some (some x)) (h : VOk C W σ H d x) : VOk C W' σ' H' d x := by
  cases h with
  | v h => exact .v (Ac.tr t _ h)
  | own h => exact .own (h.tr t (hO _ (.inl ⟨_, rfl, rfl⟩)))
  | bor h => exact .bor (hs _ _ h)
  | ro h m n => exact .ro (h.tr t (hO _ (.inr ⟨m, n⟩))) m n
  | deck h => exact .deck (hd _ h)
  | raw => exact .raw

section
variable {C : Cc} {e e' : Ent} {σ σ' : SS} {H H' : Hp}
/-- the same things at other places, or fewer -/
theorem RelE.re (R : RelE C e σ H) (φ : Id → Id) (h : ∀ k o, e' k = some o → e (φ k) = some o) (hi : ∀ k j, (e' k).isSome = true → (e' j).isSome = true → φ k = φ j → k = j) : RelE C e' σ H := by
  have w : ∀ a, WE C e' a → WE C e a := by
    rintro a (z | ⟨k, d, z⟩)
    · exact .inl z
    · exact .inr ⟨_, d, h _ _ z⟩
  refine ⟨fun k d x q => (R.ok _ _ _ (h _ _ q)).tr (Tr.less w) (fun _ _ => rfl) (fun _ z => z) (fun _ _ z => z), fun k j d d' a q q' => hi _ _ (by rw [q]; rfl) (by rw [q']; rfl) (R.inj _ _ _ _ _ (h _ _ q) (h _ _ q')), fun k d a q => R.ap _ _ _ (h _ _ q), R.kp, R.tr, R.uM, R.dk⟩
theorem RelE.sub (R : RelE C e σ H) (h : ∀ k o, e' k = some o → e k = some o) : RelE C e' σ H := R.re id h fun _ _ _ _ z => z
/-- the heap changes apart from one's own -/
theorem RelE.kept (R : RelE C e σ H) (k : Dh.Kp C.U H H') (hd : ∀ dk, Dck C.ik C.U H dk → Dck C.ik C.U H' dk) (hu : ∀ b ∈ C.U, Th H' b) : RelE C e σ H' := by
  have t : Tr (WE C e) H (WE C e) H' := by
    intro a u r n
    have nu : a ∉ C.U := fun z => n (.inl (R.uM _ z))
    exact ⟨k _ _ r nu, n⟩
  refine ⟨fun j d x q => (R.ok _ _ _ q).tr t (fun a z => ?_) hd (fun _ _ z => z), R.inj, R.ap, R.kp.trans k, fun b hb => ?_, R.uM, fun a D => hd a (R.dk a D)⟩
  · have th : Th H a := by
      rcases z with ⟨d', rfl, rfl⟩ | ⟨z, _⟩
      · cases R.ok _ _ _ q with
        | own h => exact h.there
      · exact R.tr _ z
    have nu : a ∉ C.U := by
      rcases z with ⟨d', rfl, rfl⟩ | ⟨_, z⟩
      · exact fun y => (R.ap _ _ _ q).1 (R.uM _ y)
      · exact z
    obtain ⟨o, ho, _⟩ := th
    rw [ho]; exact k _ _ ho nu
  · by_cases hu' : b ∈ C.U
    · exact hu b hu'
    · obtain ⟨o, ho, hn⟩ := R.tr b hb
      exact ⟨o, k _ _ ho hu', hn⟩
theorem RelE.fresh (R : RelE C e σ H) {p : Addr} (hp : H p = none) : ¬ WE C e p ∧ C.H0 p = none := by
  have hm : ¬ C.M p := fun z => by
    obtain ⟨o, ho, _⟩ := R.tr p z
    rw [hp] at ho; cases ho
  constructor
  · rintro (z | ⟨k, d, z⟩)
    · exact hm z
    · cases R.ok _ _ _ z with
      | own h =>
        obtain ⟨o, ho, _⟩ := h.there
        rw [hp] at ho; cases ho
  · cases h : C.H0 p with
    | none => rfl
    | some o =>
      have := R.kp p o h fun z => hm (R.uM _ z)
      rw [hp] at this; cases this
theorem Dck.new {ik : List Key} {U : List Addr} {H : Hp} {dk p : Addr} {o : HO} (hp : H p = none) (D : Dck ik U H dk) : Dck ik U (upd H p o) dk := by
  obtain ⟨lf, kvs, ls, h1, h2, h3, h4, h5, h6, h7, h8⟩ := D
  exact ⟨lf, kvs, ls, h1, h2, by rw [upd_ne (ne_of_none h3 hp)]; exact h3, h4, h5, h6, by rw [upd_ne (ne_of_none h7 hp)]; exact h7, h8⟩
theorem Dck.off {ik : List Key} {U : List Addr} {H : Hp} {dk p : Addr} {o : HO} (hp : p ∉ U) (D : Dck ik U H dk) : Dck ik U (upd H p o) dk := by
  obtain ⟨lf, kvs, ls, h1, h2, h3, h4, h5, h6, h7, h8⟩ := D
  have n1 : dk ≠ p := fun z => hp (by rw [h1, ← z]; simp)
  have n2 : lf ≠ p := fun z => hp (by rw [h1, ← z]; simp)
  exact ⟨lf, kvs, ls, h1, h2, by rw [upd_ne n1]; exact h3, h4, h5, h6, by rw [upd_ne n2]; exact h7, h8⟩
theorem upd_there {H : Hp} {p b : Addr} {o : HO} (h : Th H b) (z : b ≠ p) : Th (upd H p o) b := by
  unfold Th; rw [upd_ne z]; exact h
theorem Th.ne {H : Hp} {p b : Addr} (h : Th H b) (hp : H p = none) : b ≠ p := by
  obtain ⟨o, ho, _⟩ := h
  exact ne_of_none ho hp
/-- a new object that is nobody's own -/
theorem RelE.alloc (R : RelE C e σ H) {p : Addr} {o : HO} (hp : H p = none) : RelE C e σ (upd H p o) :=
  R.kept (Dh.Kp.new hp) (fun _ D => D.new hp) fun b hb => upd_there (R.tr b (R.uM b hb)) ((R.tr b (R.uM b hb)).ne hp)
theorem WE.up_val {k : Id} {d : D} {x : V} (hk : e k = none) (hn : ∀ d', d ≠ .own d') : ∀ a, WE C (upE e k (some (d, x))) a ↔ WE C e a := by
  intro a
  constructor
  · rintro (z | ⟨j, d', z⟩)
    · exact .inl z
    · by_cases q : j = k
      · subst q; rw [upE_same] at z; cases z; exact absurd rfl (hn _)
      · rw [upE_ne q] at z; exact .inr ⟨_, _, z⟩
  · rintro (z | ⟨j, d', z⟩)
    · exact .inl z
    · have q : j ≠ k := fun y => by rw [y, hk] at z; cases z
      exact .inr ⟨j, d', by rw [upE_ne q]; exact z⟩
/-- a value more -/
theorem RelE.val (R : RelE C e σ H) {k : Id} {d : D} {x : V} (hk : e k = none) (hn : ∀ d', d ≠ .own d') (h : VOk C (WE C e) σ H d x) : RelE C (upE e k (some (d, x))) σ H := by
  have w := WE.up_val (C := C) (x := x) hk hn
  have own : ∀ j d' a, upE e k (some (d, x)) j = some (.own d', .ref a) → e j = some (.own d', .ref a) := by
    intro j d' a z
    by_cases q : j = k
    · subst q; rw [upE_same] at z; cases z; exact absurd rfl (hn _)
    · rw [upE_ne q] at z; exact z
  refine ⟨fun j d' x' q => ?_, fun _ _ _ _ _ q q' => R.inj _ _ _ _ _ (own _ _ _ q) (own _ _ _ q'), fun _ _ _ q => R.ap _ _ _ (own _ _ _ q), R.kp, R.tr, R.uM, R.dk⟩
  have t : Tr (WE C e) H (WE C (upE e k (some (d, x)))) H := Tr.less fun a z => (w a).mp z
  by_cases y : j = k
  · subst y; rw [upE_same] at q; cases q
    exact h.tr t (fun _ _ => rfl) (fun _ z => z) (fun _ _ z => z)
  · rw [upE_ne y] at q
    exact (R.ok _ _ _ q).tr t (fun _ _ => rfl) (fun _ z => z) (fun _ _ z => z)
/-- a new object of one's own -/
theorem RelE.mine (R : RelE C e σ H) {k : Id} {p : Addr} {o : HO} {d : PyData} (hk : e k = none) (hp : H p = none) (h : ∀ W H', Tr (WE C e) H W H' → H' p = some o → Ow C.K W H' p d) : RelE C (upE e k (some (.own d, .ref p))) σ (upd H p o) := by
  obtain ⟨nW, n0⟩ := R.fresh hp
  have t : Tr (WE C e) H (WE C (upE e k (some (.own d, .ref p)))) (upd H p o) := by
    intro a u r n
    have ne : a ≠ p := ne_of_none r hp
    refine ⟨by rw [upd_ne ne]; exact r, ?_⟩
    rintro (z | ⟨j, d', z⟩)
    · exact n (.inl z)
    · by_cases y : j = k
      · subst y; rw [upE_same] at z; cases z; exact ne rfl
      · rw [upE_ne y] at z; exact n (.inr ⟨_, _, z⟩)
  have base := R.alloc (o := o) hp
  refine ⟨fun j d' x q => ?_, fun i j d1 d2 a q q' => ?_, fun j d' a q => ?_, base.kp, base.tr, R.uM, base.dk⟩
  · by_cases y : j = k
    · subst y; rw [upE_same] at q; cases q
      exact .own (h _ _ t upd_same)
    · rw [upE_ne y] at q
      refine (R.ok _ _ _ q).tr t (fun a z => upd_ne ?_) (fun _ D => D.new hp) (fun _ _ z => z)
      rcases z with ⟨d1, rfl, rfl⟩ | ⟨z, _⟩
      · exact fun y => nW (.inr ⟨j, d1, by rw [← y]; exact q⟩)
      · exact fun y => nW (.inl (by rw [← y]; exact z))
  · by_cases y : i = k
    · by_cases y' : j = k
      · rw [y, y']
      · subst y; rw [upE_same] at q; cases q
        rw [upE_ne y'] at q'
        exact absurd (.inr ⟨_, _, q'⟩) nW
    · rw [upE_ne y] at q
      by_cases y' : j = k
      · subst y'; rw [upE_same] at q'; cases q'
        exact absurd (.inr ⟨_, _, q⟩) nW
      · rw [upE_ne y'] at q'
        exact R.inj _ _ _ _ _ q q'
  · by_cases y : j = k
    · subst y; rw [upE_same] at q; cases q
      exact ⟨fun z => nW (.inl z), n0⟩
    · rw [upE_ne y] at q
      exact R.ap _ _ _ q
/-- an object of one's own is one's own no more: it stays as it is -/
theorem RelE.frz (R : RelE C e σ H) {k : Id} {d : PyData} {x : V} (hk : e k = some (.own d, x)) : RelE C (upE e k (some (.v d, x))) σ H := by
  obtain ⟨a, rfl⟩ : ∃ a, x = .ref a := by cases R.ok _ _ _ hk with | own h => exact ⟨_, rfl⟩
  have own : ∀ j d' b, upE e k (some (.v d, .ref a)) j = some (.own d', .ref b) → j ≠ k ∧ e j = some (.own d', .ref b) := by
    intro j d' b z
    by_cases q : j = k
    · subst q; rw [upE_same] at z; cases z
    · rw [upE_ne q] at z; exact ⟨q, z⟩
  have w : ∀ b, WE C (upE e k (some (.v d, .ref a))) b → WE C e b := by
    rintro b (z | ⟨j, d', z⟩)
    · exact .inl z
    · exact .inr ⟨_, _, (own _ _ _ z).2⟩
  have na : ¬ WE C (upE e k (some (.v d, .ref a))) a := by
    rintro (z | ⟨j, d', z⟩)
    · exact (R.ap _ _ _ hk).1 z
    · obtain ⟨q, z⟩ := own _ _ _ z
      exact q (R.inj _ _ _ _ _ z hk)
  refine ⟨fun j d' x' q => ?_, fun _ _ _ _ _ q q' => R.inj _ _ _ _ _ (own _ _ _ q).2 (own _ _ _ q').2, fun _ _ _ q => R.ap _ _ _ (own _ _ _ q).2, R.kp, R.tr, R.uM, R.dk⟩
  by_cases y : j = k
  · subst y; rw [upE_same] at q; cases q
    cases R.ok _ _ _ hk with
    | own h => exact .v (h.ac w na)
  · rw [upE_ne y] at q
    exact (R.ok _ _ _ q).tr (Tr.less w) (fun _ _ => rfl) (fun _ z => z) (fun _ _ z => z)
/-- an object of one's own is changed -/
theorem RelE.put (R : RelE C e σ H) {k : Id} {d d' : PyData} {a : Addr} {o : HO} (hk : e k = some (.own d, .ref a)) (h : ∀ W H', Tr (WE C e) H W H' → H' a = some o → Ow C.K W H' a d') : RelE C (upE e k (some (.own d', .ref a))) σ (upd H a o) := by
  have aM := (R.ap _ _ _ hk).1
  have aU : a ∉ C.U := fun z => aM (R.uM _ z)
  have back : ∀ j d1 b, upE e k (some (.own d', .ref a)) j = some (.own d1, .ref b) → ∃ d2, e j = some (.own d2, .ref b) := by
    intro j d1 b z
    by_cases q : j = k
    · subst q; rw [upE_same] at z; cases z; exact ⟨_, hk⟩
    · rw [upE_ne q] at z; exact ⟨_, z⟩
  have w : ∀ b, WE C (upE e k (some (.own d', .ref a))) b → WE C e b := by
    rintro b (z | ⟨j, d1, z⟩)
    · exact .inl z
    · obtain ⟨_, z⟩ := back _ _ _ z
      exact .inr ⟨_, _, z⟩
  have t : Tr (WE C e) H (WE C (upE e k (some (.own d', .ref a)))) (upd H a o) := by
    intro b u r n
    have ne : b ≠ a := fun z => n (.inr ⟨k, d, by rw [z]; exact hk⟩)
    exact ⟨by rw [upd_ne ne]; exact r, fun z => n (w _ z)⟩
  refine ⟨fun j d1 x q => ?_, fun i j d1 d2 b q q' => ?_, fun j d1 b q => ?_, ?_, fun b hb => upd_there (R.tr b hb) (fun z => aM (z ▸ hb)), R.uM, fun a D => (R.dk a D).off aU⟩
  · by_cases y : j = k
    · subst y; rw [upE_same] at q; cases q
      exact .own (h _ _ t upd_same)
    · rw [upE_ne y] at q
      refine (R.ok _ _ _ q).tr t (fun b z => upd_ne ?_) (fun _ D => D.off aU) (fun _ _ z => z)
      rcases z with ⟨d1, rfl, rfl⟩ | ⟨z, _⟩
      · exact fun e1 => y (R.inj _ _ _ _ _ (by rw [← e1]; exact q) hk)
      · exact fun e1 => aM (by rw [← e1]; exact z)
  · obtain ⟨_, q⟩ := back _ _ _ q
    obtain ⟨_, q'⟩ := back _ _ _ q'
    exact R.inj _ _ _ _ _ q q'
  · obtain ⟨_, q⟩ := back _ _ _ q
    exact R.ap _ _ _ q
  · intro b u hb hn
    have ne : b ≠ a := fun z => by
      have := (R.ap _ _ _ hk).2
      rw [← z, hb] at this; cases this
    rw [upd_ne ne]
    exact R.kp b u hb hn
/-- the slots' values change, where none is held by its slot -/
theorem RelE.sig (R : RelE C e σ H) (h : ∀ k i x, e k ≠ some (.bor i, x)) : RelE C e σ' H :=
  ⟨fun k d x q => by
    cases R.ok _ _ _ q with
    | v z => exact .v z
    | own z => exact .own z
    | bor z => exact absurd q (h _ _ _)
    | ro z m n => exact .ro z m n
    | deck z => exact .deck z
    | raw => exact .raw, R.inj, R.ap, R.kp, R.tr, R.uM, R.dk⟩
end

/-! ### over the slots -/
abbrev Fr := Nat → Option (D × V)
def upF (f : Fr) (n : Nat) (o : Option (D × V)) : Fr := fun m => if m = n then o else f m
def slotE : Option (Option D) → Option (Option V) → Option (D × V)
  | some (some d), some (some x) => some (d, x)
  | _, _ => none
def ent (f : Fr) (Γ : Env) (σ : SS) : Ent
  | .inl n => f n
  | .inr i => slotE Γ[i]? σ[i]?
def Off (f : Fr) (n : Nat) : Prop := ∀ m, n ≤ m → f m = none
theorem Off.up {f : Fr} {n : Nat} {o : Option (D × V)} (h : Off f n) : Off (upF f n o) (n + 1) := fun m hm => by
  unfold upF; rw [if_neg (by omega)]; exact h m (by omega)
structure Rel (C : Cc) (f : Fr) (Γ : Env) (σ : SS) (H : Hp) : Prop where
  e : RelE C (ent f Γ σ) σ H
  len : Γ.length = σ.length
  full : ∀ (i : Nat) d, Γ[i]? = some (some d) → ∃ x, σ[i]? = some (some x)
  nb : ∀ i j : Nat, Γ[i]? ≠ some (some (.bor j))
theorem ent_up {f : Fr} {n : Nat} {o : Option (D × V)} {Γ : Env} {σ : SS} : ent (upF f n o) Γ σ = upE (ent f Γ σ) (.inl n) o := by
  funext k
  cases k with
  | inl m =>
    by_cases h : m = n
    · subst h; rw [upE_same]; show upF f m o m = o; unfold upF; rw [if_pos rfl]
    · rw [upE_ne (fun z => h (Sum.inl.inj z))]
      show upF f n o m = f m
      unfold upF; rw [if_neg h]
  | inr i => rw [upE_ne (fun z => by cases z)]; rfl
theorem slotE_some {a : Option (Option D)} {b : Option (Option V)} {d : D} {x : V} (h : slotE a b = some (d, x)) : a = some (some d) ∧ b = some (some x) := by
  unfold slotE at h
  split at h
  · cases h; exact ⟨rfl, rfl⟩
  · cases h
theorem ent_set {f : Fr} {Γ : Env} {σ : SS} {i : Nat} {d : D} {x : V} (l : Γ.length = σ.length) (h : i < Γ.length) : ent f (Γ.set i (some d)) (σ.set i (some x)) = upE (ent f Γ σ) (.inr i) (some (d, x)) := by
  funext k
  cases k with
  | inl m => rw [upE_ne (fun z => by cases z)]; rfl
  | inr j =>
    by_cases q : j = i
    · subst q
      rw [upE_same]
      show slotE (Γ.set j (some d))[j]? (σ.set j (some x))[j]? = _
      rw [List.getElem?_set_self h, List.getElem?_set_self (by omega)]; rfl
    · rw [upE_ne (fun z => q (Sum.inr.inj z))]
      show slotE (Γ.set i (some d))[j]? (σ.set i (some x))[j]? = slotE Γ[j]? σ[j]?
      rw [List.getElem?_set_ne (fun z => q z.symm), List.getElem?_set_ne (fun z => q z.symm)]
/-- only what is told of a slot changes -/
theorem ent_tell {f : Fr} {Γ : Env} {σ : SS} {i : Nat} {d : D} {x : V} (h : i < Γ.length) (hx : σ[i]? = some (some x)) : ent f (Γ.set i (some d)) σ = upE (ent f Γ σ) (.inr i) (some (d, x)) := by
  funext k
  cases k with
  | inl m => rw [upE_ne (fun z => by cases z)]; rfl
  | inr j =>
    by_cases q : j = i
    · subst q
      rw [upE_same]
      show slotE (Γ.set j (some d))[j]? σ[j]? = _
      rw [List.getElem?_set_self h, hx]; rfl
    · rw [upE_ne (fun z => q (Sum.inr.inj z))]
      show slotE (Γ.set i (some d))[j]? σ[j]? = slotE Γ[j]? σ[j]?
      rw [List.getElem?_set_ne (fun z => q z.symm)]
section
variable {C : Cc} {f : Fr} {Γ : Env} {σ : SS} {H H' : Hp} {n : Nat} {d : PyData} {x : V} {o : Option (D × V)}
theorem Rel.at (R : Rel C f Γ σ H) {i : Nat} {d : D} (h : Γ[i]? = some (some d)) : ∃ x, σ[i]? = some (some x) ∧ ent f Γ σ (.inr i) = some (d, x) := by
  obtain ⟨x, hx⟩ := R.full i d h
  refine ⟨x, hx, ?_⟩
  show slotE Γ[i]? σ[i]? = _
  rw [h, hx]; rfl
theorem Rel.kept (R : Rel C f Γ σ H) (k : Dh.Kp C.U H H') (hd : ∀ dk, Dck C.ik C.U H dk → Dck C.ik C.U H' dk) (hu : ∀ b ∈ C.U, Th H' b) : Rel C f Γ σ H' := ⟨R.e.kept k hd hu, R.len, R.full, R.nb⟩
theorem Rel.alloc (R : Rel C f Γ σ H) {p : Addr} {o : HO} (hp : H p = none) : Rel C f Γ σ (upd H p o) := ⟨R.e.alloc hp, R.len, R.full, R.nb⟩
theorem upF_same {o : Option (D × V)} : upF f n o n = o := by unfold upF; rw [if_pos rfl]
/-- a value is held -/
theorem Rel.hold (R : Rel C f Γ σ H) (hf : Off f n) {d : D} {x : V} (hn : ∀ d', d ≠ .own d') (h : VOk C (WE C (ent f Γ σ)) σ H d x) : Rel C (upF f n (some (d, x))) Γ σ H :=
  ⟨by rw [ent_up]; exact R.e.val (hf n (Nat.le_refl _)) hn h, R.len, R.full, R.nb⟩
theorem Rel.holdV (R : Rel C f Γ σ H) (hf : Off f n) {d : PyData} {x : V} (h : Ac C.K (WE C (ent f Γ σ)) H x d) : Rel C (upF f n (some (.v d, x))) Γ σ H :=
  R.hold hf (fun _ z => by cases z) (.v h)
/-- a new object of one's own is held -/
theorem Rel.mine (R : Rel C f Γ σ H) (hf : Off f n) {p : Addr} {o : HO} {d : PyData} (hp : H p = none) (h : ∀ W H', Tr (WE C (ent f Γ σ)) H W H' → H' p = some o → Ow C.K W H' p d) : Rel C (upF f n (some (.own d, .ref p))) Γ σ (upd H p o) :=
  ⟨by rw [ent_up]; exact R.e.mine (hf n (Nat.le_refl _)) hp h, R.len, R.full, R.nb⟩
theorem ent_held {o : Option (D × V)} : ent (upF f n o) Γ σ (.inl n) = o := by rw [ent_up, upE_same]
/-- what is held is let go -/
theorem Rel.drop (R : Rel C (upF f n o) Γ σ H) (hf : Off f n) : Rel C f Γ σ H :=
  ⟨R.e.sub fun k u q => by
    rw [ent_up]
    have ne : k ≠ .inl n := fun z => by
      rw [z] at q
      have : f n = some u := q
      rw [hf n (Nat.le_refl _)] at this; cases this
    rw [upE_ne ne]; exact q, R.len, R.full, R.nb⟩
theorem WE.drop {o : Option (D × V)} (hf : Off f n) {a : Addr} (h : WE C (ent f Γ σ) a) : WE C (ent (upF f n o) Γ σ) a := by
  rcases h with h | ⟨k, d, h⟩
  · exact .inl h
  · refine .inr ⟨k, d, ?_⟩
    rw [ent_up]
    have ne : k ≠ .inl n := fun z => by
      rw [z] at h
      have : f n = some _ := h
      rw [hf n (Nat.le_refl _)] at this; cases this
    rw [upE_ne ne]; exact h
theorem Rel.heldV (R : Rel C (upF f n (some (.v d, x))) Γ σ H) : Ac C.K (WE C (ent (upF f n (some (.v d, x))) Γ σ)) H x d := by
  cases R.e.ok (.inl n) _ _ ent_held with
  | v h => exact h
theorem upF_upF {o o' : Option (D × V)} : upF (upF f n o) n o' = upF f n o' := by
  funext m; unfold upF; split <;> rfl
/-- what is held of one's own becomes data -/
theorem Rel.frzHeld (R : Rel C (upF f n (some (.own d, x))) Γ σ H) : Rel C (upF f n (some (.v d, x))) Γ σ H := by
  have := R.e.frz (k := .inl n) ent_held
  rw [← ent_up, upF_upF] at this
  exact ⟨this, R.len, R.full, R.nb⟩
theorem set_full {Γ : Env} {σ : SS} {i : Nat} {d : D} {x : V} (l : Γ.length = σ.length) (hf : ∀ (i : Nat) d, Γ[i]? = some (some d) → ∃ x, σ[i]? = some (some x)) (j : Nat) (d' : D) (h : (Γ.set i (some d))[j]? = some (some d')) : ∃ x', (σ.set i (some x))[j]? = some (some x') := by
  by_cases q : i = j
  · subst q
    have hl : i < Γ.length := by
      rcases Nat.lt_or_ge i Γ.length with h' | h'
      · exact h'
      · rw [List.getElem?_eq_none (by simpa using h')] at h; cases h
    exact ⟨x, by rw [List.getElem?_set_self (by omega)]⟩
  · rw [List.getElem?_set_ne q] at h ⊢
    exact hf j d' h
theorem tell_full {Γ : Env} {σ : SS} {i : Nat} {d : D} {x : V} (hx : σ[i]? = some (some x)) (hf : ∀ (i : Nat) d, Γ[i]? = some (some d) → ∃ x, σ[i]? = some (some x)) (j : Nat) (d' : D) (h : (Γ.set i (some d))[j]? = some (some d')) : ∃ x', σ[j]? = some (some x') := by
  by_cases q : i = j
  · subst q; exact ⟨x, hx⟩
  · rw [List.getElem?_set_ne q] at h
    exact hf j d' h
theorem set_nb {Γ : Env} {i : Nat} {d : D} (hd : ∀ j, d ≠ .bor j) (h : ∀ i j : Nat, Γ[i]? ≠ some (some (.bor j))) (k j : Nat) : (Γ.set i (some d))[k]? ≠ some (some (.bor j)) := by
  by_cases q : i = k
  · subst q
    intro z
    have hl : i < Γ.length := by
      rcases Nat.lt_or_ge i Γ.length with h' | h'
      · exact h'
      · rw [List.getElem?_eq_none (by simpa using h')] at z; cases z
    rw [List.getElem?_set_self hl] at z
    exact hd j (Option.some.inj (Option.some.inj z))
  · rw [List.getElem?_set_ne q]; exact h k j
/-- the object of a slot becomes data -/
theorem Rel.frzSlot (R : Rel C f Γ σ H) {i : Nat} (h : Γ[i]? = some (some (.own d))) : Rel C f (Γ.set i (some (.v d))) σ H := by
  obtain ⟨x, hx, he⟩ := R.at h
  have hl : i < Γ.length := (List.getElem?_eq_some_iff.mp h).1
  exact ⟨by rw [ent_tell hl hx]; exact R.e.frz he, by rw [List.length_set]; exact R.len, tell_full hx R.full, set_nb (fun _ z => by cases z) R.nb⟩
/-- the object of a slot is changed -/
theorem Rel.put (R : Rel C f Γ σ H) {i : Nat} {a : Addr} {d d' : PyData} {o : HO} (h : Γ[i]? = some (some (.own d))) (hx : σ[i]? = some (some (.ref a))) (k : ∀ W H', Tr (WE C (ent f Γ σ)) H W H' → H' a = some o → Ow C.K W H' a d') :
    Rel C f (Γ.set i (some (.own d'))) σ (upd H a o) := by
  have hl : i < Γ.length := (List.getElem?_eq_some_iff.mp h).1
  have he : ent f Γ σ (.inr i) = some (.own d, .ref a) := by
    show slotE Γ[i]? σ[i]? = _
    rw [h, hx]; rfl
  exact ⟨by rw [ent_tell hl hx]; exact R.e.put he k, by rw [List.length_set]; exact R.len, tell_full hx R.full, set_nb (fun _ z => by cases z) R.nb⟩
def NoBor (f : Fr) : Prop := ∀ m i x, f m ≠ some (.bor i, x)
/-- what is held goes into a slot -/
theorem Rel.toSlot {d : D} (R : Rel C (upF f n (some (d, x))) Γ σ H) (hf : Off f n) (nb : NoBor f) (hd : ∀ j, d ≠ .bor j) {i : Nat} (hi : i < Γ.length) : Rel C f (Γ.set i (some d)) (σ.set i (some x)) H := by
  refine ⟨?_, by rw [List.length_set, List.length_set]; exact R.len, set_full R.len R.full, set_nb hd R.nb⟩
  rw [ent_set R.len hi]
  have R1 : RelE C (upE (ent f Γ σ) (.inr i) (some (d, x))) σ H := by
    refine R.e.re (fun k => if k = .inr i then .inl n else k) (fun k o q => ?_) (fun k j q q' z => ?_)
    · by_cases h : k = .inr i
      · subst h
        rw [upE_same] at q
        rw [if_pos rfl, ent_held]; exact q
      · rw [upE_ne h] at q
        rw [if_neg h, ent_up]
        have ne : k ≠ .inl n := fun z => by
          rw [z] at q
          have : f n = some o := q
          rw [hf n (Nat.le_refl _)] at this; cases this
        rw [upE_ne ne]; exact q
    · have ne : ∀ k, (upE (ent f Γ σ) (.inr i) (some (d, x)) k).isSome = true → k ≠ .inl n := by
        intro k q z
        subst z
        rw [upE_ne (fun z => by cases z)] at q
        have : (f n).isSome = true := q
        rw [hf n (Nat.le_refl _)] at this; cases this
      by_cases h : k = .inr i
      · by_cases h' : j = .inr i
        · rw [h, h']
        · rw [if_pos h, if_neg h'] at z
          exact absurd z.symm (ne j q')
      · by_cases h' : j = .inr i
        · rw [if_neg h, if_pos h'] at z
          exact absurd z (ne k q)
        · rwa [if_neg h, if_neg h'] at z
  refine R1.sig fun k j y q => ?_
  by_cases h : k = .inr i
  · subst h; rw [upE_same] at q
    exact hd j (Prod.mk.inj (Option.some.inj q)).1
  · rw [upE_ne h] at q
    cases k with
    | inl m => exact nb m j y q
    | inr m => exact R.nb m j (slotE_some q).1
/-- a slot is emptied -/
theorem Rel.wipe (R : Rel C f Γ σ H) (nb : NoBor f) (i : Nat) {o : Option V} : Rel C f (Γ.set i none) (σ.set i o) H := by
  refine ⟨?_, by rw [List.length_set, List.length_set]; exact R.len, fun j d' h => ?_, fun k j h => ?_⟩
  · refine RelE.sig (σ := σ) (R.e.sub fun k u q => ?_) fun k j y q => ?_
    · cases k with
      | inl m => exact q
      | inr j =>
        have q' : slotE (Γ.set i none)[j]? (σ.set i o)[j]? = some u := q
        by_cases h : i = j
        · subst h
          obtain ⟨d, x⟩ := u
          have := (slotE_some q').1
          by_cases hl : i < Γ.length
          · rw [List.getElem?_set_self hl] at this; cases this
          · rw [List.getElem?_eq_none (by simpa using hl)] at this; cases this
        · rw [List.getElem?_set_ne h, List.getElem?_set_ne h] at q'
          exact q'
    · cases k with
      | inl m => exact nb m j y q
      | inr m =>
        have := (slotE_some q).1
        by_cases h : i = m
        · subst h
          by_cases hl : i < Γ.length
          · rw [List.getElem?_set_self hl] at this; cases this
          · rw [List.getElem?_eq_none (by simpa using hl)] at this; cases this
        · rw [List.getElem?_set_ne h] at this
          exact R.nb m j this
  · by_cases q : i = j
    · subst q
      by_cases hl : i < Γ.length
      · rw [List.getElem?_set_self hl] at h; cases h
      · rw [List.getElem?_eq_none (by simpa using hl)] at h; cases h
    · rw [List.getElem?_set_ne q] at h ⊢
      exact R.full j d' h
  · by_cases q : i = k
    · subst q
      by_cases hl : i < Γ.length
      · rw [List.getElem?_set_self hl] at h; cases h
      · rw [List.getElem?_eq_none (by simpa using hl)] at h; cases h
    · rw [List.getElem?_set_ne q] at h
      exact R.nb k j h
/-- what a value stands for -/
def res (Γ : Env) : D → Option PyData
  | .v d => some d
  | .own d => some d
  | .ro d => some d
  | .bor i => match Γ[i]? with
    | some (some (.own d)) => some d
    | some (some (.v d)) => some d
    | _ => none
  | _ => none
theorem Rel.rv (R : Rel C f Γ σ H) {k : Id} {r : D} {x : V} {d : PyData} (h : ent f Γ σ k = some (r, x)) (hr : res Γ r = some d) : Rv C.K (WE C (ent f Γ σ)) H x d := by
  cases R.e.ok _ _ _ h with
  | v z => cases hr; exact .inl z
  | own z => cases hr; exact .inr ⟨_, rfl, z⟩
  | ro z m n => cases hr; exact .inr ⟨_, rfl, z⟩
  | deck => cases hr
  | raw => cases hr
  | @bor i _ z =>
    unfold res at hr
    simp only at hr
    split at hr
    · rename_i d' hg
      cases hr
      obtain ⟨y, hy, he⟩ := R.at hg
      rw [z] at hy; cases hy
      cases R.e.ok _ _ _ he with
      | own w => exact .inr ⟨_, rfl, w⟩
    · rename_i d' hg
      cases hr
      obtain ⟨y, hy, he⟩ := R.at hg
      rw [z] at hy; cases hy
      cases R.e.ok _ _ _ he with
      | v w => exact .inl w
    · cases hr
end
end Px
end

/-! Px3 -/
section
set_option Elab.async false
set_option linter.all false
set_option maxRecDepth 100000
set_option maxHeartbeats 2000000
set_option autoImplicit false
namespace Px
open PySem PySem.Spec PyProof.Rows L2

/-! ### readings over data -/
abbrev PX := Env → (D → Env → Prop) → Prop
abbrev PXT := Env → (Bool → Env → Prop) → Prop
abbrev PXR := Env → (List PyData → Env → Prop) → Prop
abbrev PXP := Env → (List D → Env → Prop) → Prop
structure PEnds where
  nx : Env → Prop
  rt : D → Prop
  bk : Env → Prop := fun _ => False
  ct : Env → Prop := fun _ => False
abbrev PXS := Env → PEnds → Prop

def DE (C : Cc) (t : TE) (w : PX) : Prop := ∀ (n : Nat) (f : Fr) (Γ : Env) (σ : SS) (H : Hp) (Q : VK) (Φ : D → Env → Prop), Off f n → Rel C f Γ σ H → w Γ Φ →
  (∀ r x Γ' H', Φ r Γ' → Rel C (upF f n (some (r, x))) Γ' σ H' → Q x H') → t σ H Q
def DT (C : Cc) (t : TT) (w : PXT) : Prop := ∀ (n : Nat) (f : Fr) (Γ : Env) (σ : SS) (H : Hp) (Q : Bool → Hp → Prop) (Φ : Bool → Env → Prop), Off f n → Rel C f Γ σ H → w Γ Φ →
  (∀ b Γ' H', Φ b Γ' → Rel C f Γ' σ H' → Q b H') → t σ H Q
inductive RvL (K : PySem.W.Frag) (W : AS) (H : Hp) : List V → List PyData → Prop
  | nil : RvL K W H [] []
  | cons {x : V} {xs : List V} {d : PyData} {ds : List PyData} : Rv K W H x d → RvL K W H xs ds → RvL K W H (x :: xs) (d :: ds)
/-- arguments that are read -/
def DR (C : Cc) (t : TA) (w : PXR) : Prop := ∀ (n : Nat) (f : Fr) (Γ : Env) (σ : SS) (H : Hp) (Q : List V → Hp → Prop) (Φ : List PyData → Env → Prop), Off f n → Rel C f Γ σ H → w Γ Φ →
  (∀ ds xs Γ' H', Φ ds Γ' → Rel C f Γ' σ H' → RvL C.K (WE C (ent f Γ' σ)) H' xs ds → Q xs H') → t σ H Q
/-- arguments that are kept as data -/
def DV (C : Cc) (t : TA) (w : PXR) : Prop := ∀ (n : Nat) (f : Fr) (Γ : Env) (σ : SS) (H : Hp) (Q : List V → Hp → Prop) (Φ : List PyData → Env → Prop), Off f n → Rel C f Γ σ H → w Γ Φ →
  (∀ ds xs Γ' H', Φ ds Γ' → Rel C f Γ' σ H' → AcL C.K (WE C (ent f Γ' σ)) H' xs ds → Q xs H') → t σ H Q
/-- what a def of one's own is called with -/
inductive PassOk (K : PySem.W.Frag) (U : List Addr) (ik : List Key) (W : AS) (H : Hp) : D → V → Prop
  | v {d : PyData} {x : V} : Ac K W H x d → PassOk K U ik W H (.v d) x
  | ro {d : PyData} {a : Addr} : Ow K W H a d → W a → a ∉ U → PassOk K U ik W H (.ro d) (.ref a)
  | deck {a : Addr} : Dck ik U H a → PassOk K U ik W H .deck (.ref a)
  | raw {x : V} : PassOk K U ik W H (.raw x) x
inductive PassL (K : PySem.W.Frag) (U : List Addr) (ik : List Key) (W : AS) (H : Hp) : List D → List V → Prop
  | nil : PassL K U ik W H [] []
  | cons {d : D} {x : V} {ds : List D} {xs : List V} : PassOk K U ik W H d x → PassL K U ik W H ds xs → PassL K U ik W H (d :: ds) (x :: xs)
def DP (C : Cc) (t : TA) (w : PXP) : Prop := ∀ (n : Nat) (f : Fr) (Γ : Env) (σ : SS) (H : Hp) (Q : List V → Hp → Prop) (Φ : List D → Env → Prop), Off f n → Rel C f Γ σ H → w Γ Φ →
  (∀ ds xs Γ' H', Φ ds Γ' → Rel C f Γ' σ H' → PassL C.K C.U C.ik (WE C (ent f Γ' σ)) H' ds xs → Q xs H') → t σ H Q
structure Fits (C : Cc) (n : Nat) (f : Fr) (σ0 : SS) (Φ : PEnds) (D : Ends) : Prop where
  nx : ∀ Γ σ H, Φ.nx Γ → Rel C f Γ σ H → D.nx σ H
  rt : ∀ r x Γ σ H, Φ.rt r → Rel C (upF f n (some (r, x))) Γ σ H → D.rt x H
  bk : ∀ Γ σ H, Φ.bk Γ → Rel C f Γ σ H → D.bk σ H
  ct : ∀ Γ σ H, Φ.ct Γ → Rel C f Γ σ H → D.ct σ H
def DS (C : Cc) (t : TS) (w : PXS) : Prop := ∀ (n : Nat) (f : Fr) (Γ : Env) (σ : SS) (H : Hp) (D : Ends) (Φ : PEnds), Off f n → NoBor f → Rel C f Γ σ H → w Γ Φ → Fits C n f σ Φ D → t D σ H

structure Cok [IK] (C : Cc) (X : Cx) : Prop where
  k : C.K = X.K
  i : C.ik = IK.ks
section
variable {X : Cx} [IK]
def XE (X : Cx) (e : Expr) (t : TE) (w : PX) : Prop := PE X e t ∧ ∀ C : Cc, Cok C X → DE C t w
def XT (X : Cx) (e : Expr) (t : TT) (w : PXT) : Prop := PT X e t ∧ ∀ C : Cc, Cok C X → DT C t w
def XW (X : Cx) (e : Expr) (t : TT) (w : PXT) : Prop := PW X e t ∧ ∀ C : Cc, Cok C X → DT C t w
def XR (X : Cx) (es : List Expr) (t : TA) (w : PXR) : Prop := PA X es t ∧ ∀ C : Cc, Cok C X → DR C t w
def XV (X : Cx) (es : List Expr) (t : TA) (w : PXR) : Prop := PA X es t ∧ ∀ C : Cc, Cok C X → DV C t w
def XP (X : Cx) (es : List Expr) (t : TA) (w : PXP) : Prop := PA X es t ∧ ∀ C : Cc, Cok C X → DP C t w
def XS (X : Cx) (st : Stmt) (t : TS) (w : PXS) : Prop := PS X st t ∧ ∀ C : Cc, Cok C X → DS C t w
def XSs (X : Cx) (st : List Stmt) (t : TS) (w : PXS) : Prop := PSs X st t ∧ ∀ C : Cc, Cok C X → DS C t w

/-! ### names, constants -/
def rdS (Γ : Env) (i : Nat) : Option D := match Γ[i]? with
  | some (some (.own _)) => some (.bor i)
  | some (some d) => some d
  | _ => none
def wVar (i : Nat) : PX := fun Γ Φ => ∃ r, rdS Γ i = some r ∧ Φ r Γ
theorem xe_var {e : Expr} {i : Nat} (h : PE X e (tVar i)) : XE X e (tVar i) (wVar i) := by
  refine ⟨h, fun C hK n f Γ σ H Q Φ off R w k => ?_⟩
  obtain ⟨r, hr, φ⟩ := w
  unfold rdS at hr
  split at hr
  · rename_i d hg
    cases hr
    obtain ⟨x, hx, _⟩ := R.at hg
    exact ⟨x, hx, k _ x _ _ φ (R.hold off (fun _ z => by cases z) (.bor hx))⟩
  · rename_i d hno hg
    cases hr
    obtain ⟨x, hx, he⟩ := R.at hg
    refine ⟨x, hx, k _ x _ _ φ (R.hold off (fun d' z => ?_) (R.e.ok _ _ _ he))⟩
    subst z; exact hno _ rfl
  · cases hr
def wC (d : PyData) : PX := fun Γ Φ => Φ (.v d) Γ
theorem xe_c {e : Expr} {v : V} {d : PyData} (h : PE X e (tC v)) (hv : ∀ W H, Ac X.K W H v d) : XE X e (tC v) (wC d) :=
  ⟨h, fun C hK n f Γ σ H Q Φ off R w k => k _ v _ _ w (R.holdV off (by rw [hK.k]; exact hv _ _))⟩
theorem xe_int {i : Int} {j pos} : XE X (.Constant (.int i) j pos) (tC (.int i)) (wC (.int i)) := xe_c pe_int fun _ _ => .int i
theorem xe_bl {i : Bool} {j pos} : XE X (.Constant (.bool i) j pos) (tC (.bl i)) (wC (.bool i)) := xe_c pe_bl fun _ _ => .bl i
theorem xe_str {i : Str} {j pos} : XE X (.Constant (.str i) j pos) (tC (.str i)) (wC (.str i)) := xe_c pe_str fun _ _ => .str i
theorem xe_non {j pos} : XE X (.Constant .none j pos) (tC .non) (wC .none) := xe_c pe_non fun _ _ => .non
def wRaw (v : V) : PX := fun Γ Φ => Φ (.raw v) Γ
theorem xe_raw {e : Expr} {v : V} (h : PE X e (tC v)) : XE X e (tC v) (wRaw v) :=
  ⟨h, fun C hK n f Γ σ H Q Φ off R w k => k _ v _ _ w (R.hold off (fun _ z => by cases z) .raw)⟩

/-! ### what is held becomes data -/
def frz (Γ : Env) : D → Option (PyData × Env)
  | .v d => some (d, Γ)
  | .own d => some (d, Γ)
  | .bor i => match Γ[i]? with
    | some (some (.own d)) => some (d, Γ.set i (some (.v d)))
    | some (some (.v d)) => some (d, Γ)
    | _ => none
  | _ => none
section
variable {C : Cc} {f : Fr} {Γ Γ' : Env} {σ : SS} {H : Hp} {n : Nat}
theorem Rel.retell {r r' : D} {x : V} (R : Rel C (upF f n (some (r, x))) Γ σ H) (hf : Off f n) (hn : ∀ d', r' ≠ .own d') (h : VOk C (WE C (ent f Γ σ)) σ H r' x) : Rel C (upF f n (some (r', x))) Γ σ H :=
  (R.drop hf).hold hf hn h
theorem Rel.frzR {r : D} {x : V} {d : PyData} (R : Rel C (upF f n (some (r, x))) Γ σ H) (hf : Off f n) (h : frz Γ r = some (d, Γ')) : Rel C (upF f n (some (.v d, x))) Γ' σ H := by
  cases r with
  | v d' => cases h; exact R
  | own d' => cases h; exact R.frzHeld
  | bor i =>
    have hx : σ[i]? = some (some x) := by
      cases R.e.ok (.inl n) _ _ ent_held with
      | bor z => exact z
    unfold frz at h
    simp only at h
    have R0 := R.drop hf
    split at h
    · rename_i d' hg
      cases h
      have R1 := R0.frzSlot hg
      have hl : i < Γ.length := (List.getElem?_eq_some_iff.mp hg).1
      obtain ⟨y, hy, he⟩ := R1.at (i := i) (d := .v d) (by rw [List.getElem?_set_self hl])
      rw [hx] at hy; cases hy
      exact R1.hold hf (fun _ z => by cases z) (R1.e.ok _ _ _ he)
    · rename_i d' hg
      cases h
      obtain ⟨y, hy, he⟩ := R0.at hg
      rw [hx] at hy; cases hy
      exact R0.hold hf (fun _ z => by cases z) (R0.e.ok _ _ _ he)
    · cases h
  | ro d' => cases h
  | deck => cases h
  | raw => cases h
theorem NoBor.up {d : PyData} {x : V} (h : NoBor f) : NoBor (upF f n (some (.v d, x))) := fun m i y => by
  unfold upF; split
  · intro z; cases z
  · exact h m i y
end
/-- an expression whose value is kept as data -/
def wFrz (w : PX) : PX := fun Γ Φ => w Γ fun r Γ1 => ∃ d Γ2, frz Γ1 r = some (d, Γ2) ∧ Φ (.v d) Γ2
theorem xe_frz {e : Expr} {t : TE} {w : PX} (h : XE X e t w) : XE X e t (wFrz w) := by
  obtain ⟨p, g⟩ := h
  refine ⟨p, fun C hK n f Γ σ H Q Φ off R w k => g C hK n f Γ σ H Q _ off R w ?_⟩
  rintro r x Γ' H' ⟨d, Γ2, hz, φ⟩ R'
  exact k _ x _ _ φ (R'.frzR off hz)

/-! ### arguments -/
def wRn : PXR := fun Γ Φ => Φ [] Γ
def wRc (wa : PX) (wr : PXR) : PXR := fun Γ Φ => wa Γ fun r Γ1 => wr Γ1 fun ds Γ2 => ∃ d, res Γ2 r = some d ∧ Φ (d :: ds) Γ2
theorem xr_nil : XR X [] tNil wRn := ⟨pa_nil, fun C hK n f Γ σ H Q Φ off R w k => k [] [] _ _ w R .nil⟩
section
variable {C : Cc} {f : Fr} {Γ Γ' : Env} {σ : SS} {H H' : Hp} {n : Nat}
theorem Tr.drop {o : Option (D × V)} (hf : Off f n) : Tr (WE C (ent (upF f n o) Γ σ)) H (WE C (ent f Γ σ)) H := Tr.less fun _ z => WE.drop hf z
theorem Rv.tr {K : PySem.W.Frag} {W W' : AS} {x : V} {d : PyData} (t : Tr W H W' H) (h : Rv K W H x d) : Rv K W' H x d := by
  rcases h with h | ⟨a, e, h⟩
  · exact .inl (Ac.tr t _ h)
  · exact .inr ⟨a, e, h.tr t rfl⟩
theorem RvL.tr {K : PySem.W.Frag} {W W' : AS} (t : Tr W H W' H) : ∀ {xs : List V} {ds : List PyData}, RvL K W H xs ds → RvL K W' H xs ds
  | _, _, .nil => .nil
  | _, _, .cons a b => .cons (a.tr t) (RvL.tr t b)
end
theorem xr_cons {e : Expr} {es : List Expr} {ta : TE} {tr : TA} {wa : PX} {wr : PXR} (ha : XE X e ta wa) (hr : XR X es tr wr) (hs : starEach (e :: es) X.env = (false, eval e X.env) :: starEach es X.env := by rfl) : XR X (e :: es) (tCons ta tr) (wRc wa wr) := by
  obtain ⟨pa, ga⟩ := ha
  obtain ⟨pr, gr⟩ := hr
  refine ⟨pa_cons pa pr hs, fun C hK n f Γ σ H Q Φ off R w k => ga C hK n f Γ σ H _ _ off R w ?_⟩
  intro r x Γ1 H1 φ R1
  refine gr C hK (n + 1) _ Γ1 σ H1 _ _ off.up R1 φ ?_
  rintro ds xs Γ2 H2 ⟨d, hd, φ2⟩ R2 rv
  refine k _ _ _ _ φ2 (R2.drop off) (.cons ?_ (rv.tr (Tr.drop off)))
  exact (R2.rv ent_held hd).tr (Tr.drop off)
def wVc (wa : PX) (wr : PXR) : PXR := fun Γ Φ => wa Γ fun r Γ1 => ∃ d Γ2, frz Γ1 r = some (d, Γ2) ∧ wr Γ2 fun ds Γ3 => Φ (d :: ds) Γ3
theorem xv_nil : XV X [] tNil wRn := ⟨pa_nil, fun C hK n f Γ σ H Q Φ off R w k => k [] [] _ _ w R .nil⟩
theorem xv_cons {e : Expr} {es : List Expr} {ta : TE} {tr : TA} {wa : PX} {wr : PXR} (ha : XE X e ta wa) (hr : XV X es tr wr) (hs : starEach (e :: es) X.env = (false, eval e X.env) :: starEach es X.env := by rfl) : XV X (e :: es) (tCons ta tr) (wVc wa wr) := by
  obtain ⟨pa, ga⟩ := ha
  obtain ⟨pr, gr⟩ := hr
  refine ⟨pa_cons pa pr hs, fun C hK n f Γ σ H Q Φ off R w k => ga C hK n f Γ σ H _ _ off R w ?_⟩
  rintro r x Γ1 H1 ⟨d, Γ2, hz, φ⟩ R1
  refine gr C hK (n + 1) _ Γ2 σ H1 _ _ off.up (R1.frzR off hz) φ ?_
  intro ds xs Γ3 H2 φ2 R2 rv
  exact k _ _ _ _ φ2 (R2.drop off) (.cons (Ac.tr (Tr.drop off) _ R2.heldV) (AcL.tr (Tr.drop off) _ rv))
def hld : D → D
  | .own d => .v d
  | r => r
def pass (Γ : Env) : D → Option D
  | .v d => some (.v d)
  | .bor i => match Γ[i]? with
    | some (some (.own d)) => some (.ro d)
    | some (some (.v d)) => some (.v d)
    | _ => none
  | .ro d => some (.ro d)
  | .deck => some .deck
  | .raw x => some (.raw x)
  | .own _ => none
def wPn : PXP := fun Γ Φ => Φ [] Γ
def wPc (wa : PX) (wr : PXP) : PXP := fun Γ Φ => wa Γ fun r Γ1 => wr Γ1 fun ds Γ2 => ∃ p, pass Γ2 (hld r) = some p ∧ Φ (p :: ds) Γ2
theorem xp_nil : XP X [] tNil wPn := ⟨pa_nil, fun C hK n f Γ σ H Q Φ off R w k => k [] [] _ _ w R .nil⟩
section
variable {C : Cc} {f : Fr} {Γ Γ' : Env} {σ : SS} {H H' : Hp} {n : Nat}
theorem PassOk.tr {K : PySem.W.Frag} {U : List Addr} {ik : List Key} {W W' : AS} {d : D} {x : V} (t : Tr W H W' H) (hw : ∀ a d', d = .ro d' → x = .ref a → W a → W' a) (h : PassOk K U ik W H d x) : PassOk K U ik W' H d x := by
  cases h with
  | v h => exact .v (Ac.tr t _ h)
  | ro h m n => exact .ro (h.tr t rfl) (hw _ _ rfl rfl m) n
  | deck h => exact .deck h
  | raw => exact .raw
theorem PassL.tr {K : PySem.W.Frag} {U : List Addr} {ik : List Key} {W W' : AS} (t : Tr W H W' H) (hw : ∀ a, W a → W' a) : ∀ {ds : List D} {xs : List V}, PassL K U ik W H ds xs → PassL K U ik W' H ds xs
  | _, _, .nil => .nil
  | _, _, .cons a b => .cons (a.tr t fun _ _ _ _ z => hw _ z) (PassL.tr t hw b)
/-- what is not one's own is let go: the same is one's own -/
theorem WE.keep {d : D} {x : V} (hf : Off f n) (hn : ∀ d', d ≠ .own d') (a : Addr) (h : WE C (ent (upF f n (some (d, x))) Γ σ) a) : WE C (ent f Γ σ) a := by
  rw [ent_up] at h
  exact (WE.up_val (hf n (Nat.le_refl _)) hn a).mp h
theorem Rel.pass {r p : D} {x : V} (R : Rel C (upF f n (some (r, x))) Γ σ H) (hf : Off f n) (h : pass Γ r = some p) : PassOk C.K C.U C.ik (WE C (ent f Γ σ)) H p x := by
  have ok := R.e.ok (.inl n) _ _ ent_held
  have R0 := R.drop hf
  cases r with
  | v d => cases h; cases ok with | v z => exact .v (Ac.tr (Tr.drop hf) _ z)
  | own d => cases h
  | ro d => cases h; cases ok with | ro z m u => exact .ro (z.tr (Tr.drop hf) rfl) (.inl m) u
  | deck => cases h; cases ok with | deck z => exact .deck z
  | raw y => cases h; cases ok; exact .raw
  | bor i =>
    have hx : σ[i]? = some (some x) := by cases ok with | bor z => exact z
    unfold Px.pass at h
    simp only at h
    split at h
    · rename_i d' hg
      cases h
      obtain ⟨y, hy, he⟩ := R0.at hg
      rw [hx] at hy; cases hy
      cases R0.e.ok _ _ _ he with
      | own w => exact .ro w (.inr ⟨_, _, he⟩) fun z => (R0.e.ap _ _ _ he).1 (R0.e.uM _ z)
    · rename_i d' hg
      cases h
      obtain ⟨y, hy, he⟩ := R0.at hg
      rw [hx] at hy; cases hy
      cases R0.e.ok _ _ _ he with
      | v w => exact .v w
    · cases h
theorem Rel.hld {r : D} {x : V} (R : Rel C (upF f n (some (r, x))) Γ σ H) : Rel C (upF f n (some (hld r, x))) Γ σ H := by
  cases r with
  | own d => exact R.frzHeld
  | v d => exact R
  | ro d => exact R
  | deck => exact R
  | raw y => exact R
  | bor i => exact R
theorem hld_own (r : D) : ∀ d', Px.hld r ≠ .own d' := by
  intro d' z; cases r <;> cases z
end
theorem xp_cons {e : Expr} {es : List Expr} {ta : TE} {tr : TA} {wa : PX} {wr : PXP} (ha : XE X e ta wa) (hr : XP X es tr wr) (hs : starEach (e :: es) X.env = (false, eval e X.env) :: starEach es X.env := by rfl) : XP X (e :: es) (tCons ta tr) (wPc wa wr) := by
  obtain ⟨pa, ga⟩ := ha
  obtain ⟨pr, gr⟩ := hr
  refine ⟨pa_cons pa pr hs, fun C hK n f Γ σ H Q Φ off R w k => ga C hK n f Γ σ H _ _ off R w ?_⟩
  intro r x Γ1 H1 φ R1
  refine gr C hK (n + 1) _ Γ1 σ H1 _ _ off.up R1.hld φ ?_
  rintro ds xs Γ2 H2 ⟨p, hp, φ2⟩ R2 rv
  exact k _ _ _ _ φ2 (R2.drop off) (.cons (R2.pass off hp) (rv.tr (Tr.drop off) fun a z => WE.keep off (hld_own r) a z))

/-! ### operations upon what can be read -/
structure Post (K : PySem.W.Frag) (W : AS) (H : Hp) (Q : VK) (Ψ : D → Prop) : Prop where
  val : ∀ z c, Ψ (.v c) → Ac K W H z c → Q z H
  tup : ∀ p vs cs, Ψ (.v (.tuple cs)) → H p = none → AcL K W H vs cs → Q (.ref p) (upd H p (.tup vs))
  lst : ∀ p vs cs, Ψ (.own (.list cs)) → H p = none → AcL K W H vs cs → Q (.ref p) (upd H p (.lst vs))
  dic : ∀ p kvs es, Ψ (.own (.dict es)) → H p = none → AcK K W H kvs es → Q (.ref p) (upd H p (.dK kvs))
  raw : ∀ z, Ψ (.raw z) → Q z H
abbrev PO' := List PyData → (D → Prop) → Prop
def PureR (K : PySem.W.Frag) (r : List V → Hp → VK → Prop) (φ : PO') : Prop := ∀ W H xs ds Q Ψ, RvL K W H xs ds → φ ds Ψ → Post K W H Q Ψ → r xs H Q
def PureR2 (K : PySem.W.Frag) (r : R2) (φ : PO') : Prop := ∀ W H x y d e Q Ψ, Rv K W H x d → Rv K W H y e → φ [d, e] Ψ → Post K W H Q Ψ → r x y H Q
section
variable {C : Cc} {f : Fr} {Γ Γ' : Env} {σ : SS} {H H' : Hp} {n : Nat}
theorem Rel.mineL {p : Addr} {vs : List V} {cs : List PyData} (R : Rel C f Γ σ H) (hf : Off f n) (hp : H p = none) (h : AcL C.K (WE C (ent f Γ σ)) H vs cs) : Rel C (upF f n (some (.own (.list cs), .ref p))) Γ σ (upd H p (.lst vs)) :=
  R.mine hf hp fun W H' t e => .lst e (AcL.tr t _ h)
theorem Tr.new {W : AS} {p : Addr} {o : HO} (hp : H p = none) : Tr W H W (upd H p o) := by
  intro a u r n
  have ne : a ≠ p := ne_of_none r hp
  exact ⟨by rw [upd_ne ne]; exact r, n⟩
theorem Rel.tupL {p : Addr} {vs : List V} {cs : List PyData} (R : Rel C f Γ σ H) (hf : Off f n) (hp : H p = none) (h : AcL C.K (WE C (ent f Γ σ)) H vs cs) : Rel C (upF f n (some (.v (.tuple cs), .ref p))) Γ σ (upd H p (.tup vs)) :=
  (R.alloc hp).holdV hf (.tup upd_same (R.e.fresh hp).1 (AcL.tr (Tr.new hp) _ h))
theorem Rel.post (R : Rel C f Γ σ H) (hf : Off f n) {Q : VK} {Φ : D → Env → Prop} (k : ∀ r x Γ' H', Φ r Γ' → Rel C (upF f n (some (r, x))) Γ' σ H' → Q x H') : Post C.K (WE C (ent f Γ σ)) H Q fun r => Φ r Γ where
  val z c φ a := k _ z _ _ φ (R.holdV hf a)
  tup p vs cs φ hp a := k _ _ _ _ φ (R.tupL hf hp a)
  lst p vs cs φ hp a := k _ _ _ _ φ (R.mineL hf hp a)
  dic p kvs es φ hp a := k _ _ _ _ φ (R.mine hf hp fun W H' t e => .dic e (AcK.tr t _ a))
  raw z φ := k _ z _ _ φ (R.hold hf (fun _ z => by cases z) .raw)
end
/-- a built-in of values that are read -/
def wCB (φ : PO') (wA : PXR) : PX := fun Γ Φ => wA Γ fun ds Γ1 => φ ds fun r => Φ r Γ1
theorem xe_CB {es : List Expr} {e : Expr} {r : List V → Hp → VK → Prop} {φ : PO'} {t : TA} {wA : PXR} (hA : XR X es t wA) (hp : ∀ t, PA X es t → PE X e (tCB r t)) (hr : PureR X.K r φ) : XE X e (tCB r t) (wCB φ wA) := by
  obtain ⟨p, g⟩ := hA
  refine ⟨hp t p, fun C hK n f Γ σ H Q Φ off R w k => g C hK n f Γ σ H _ _ off R w ?_⟩
  intro ds xs Γ1 H1 φ1 R1 rv
  refine hr _ _ _ _ _ _ (by rw [← hK.k]; exact rv) φ1 (by rw [← hK.k]; exact R1.post off k)
/-- an operator -/
def wO (φ : PO') (wa wb : PX) : PX := fun Γ Φ => wa Γ fun r Γ1 => wb Γ1 fun s Γ2 => ∃ d e, res Γ2 r = some d ∧ res Γ2 s = some e ∧ φ [d, e] fun c => Φ c Γ2
theorem de_O {C : Cc} {ta tb : TE} {wa wb : PX} {r : R2} {φ : PO'} (ha : DE C ta wa) (hb : DE C tb wb) (hr : PureR2 C.K r φ) : DE C (tOp r ta tb) (wO φ wa wb) := by
  intro n f Γ σ H Q Φ off R w k
  refine ha n f Γ σ H _ _ off R w ?_
  intro r1 x Γ1 H1 φ1 R1
  refine hb (n + 1) _ Γ1 σ H1 _ _ off.up R1 φ1 ?_
  rintro r2 y Γ2 H2 ⟨d, e, hd, he, φ2⟩ R2
  have h2 := (R2.rv ent_held he).tr (Tr.drop off.up)
  have R3 := R2.drop off.up
  have h1 := (R3.rv ent_held hd).tr (Tr.drop off)
  have h2 := h2.tr (Tr.drop off)
  exact hr _ _ _ _ _ _ _ _ h1 h2 φ2 ((R3.drop off).post off k)
theorem xe_O {a b e : Expr} {r : R2} {φ : PO'} {ta tb : TE} {wa wb : PX} (ha : XE X a ta wa) (hb : XE X b tb wb) (hp : ∀ ta tb, PE X a ta → PE X b tb → PE X e (tOp r ta tb)) (hr : PureR2 X.K r φ) : XE X e (tOp r ta tb) (wO φ wa wb) := by
  obtain ⟨pa, ga⟩ := ha
  obtain ⟨pb, gb⟩ := hb
  exact ⟨hp _ _ pa pb, fun C hK => de_O (ga C hK) (gb C hK) (by rw [hK.k]; exact hr)⟩
theorem xe_op {a b : Expr} {op : Operator} {pos : Pos} {r : R2} {φ : PO'} {ta tb : TE} {wa wb : PX} (ho : OpR X (binaryOp op) r) (hr : PureR2 X.K r φ) (ha : XE X a ta wa) (hb : XE X b tb wb) : XE X (.BinOp a op b pos) (tOp r ta tb) (wO φ wa wb) :=
  xe_O ha hb (fun _ _ pa pb => pe_op ho pa pb) hr
theorem xe_cmp {a b : Expr} {op : CmpOp} {pos : Pos} {r : R2} {φ : PO'} {ta tb : TE} {wa wb : PX} (ho : OpR X (compareOp op) r) (hr : PureR2 X.K r φ) (ha : XE X a ta wa) (hb : XE X b tb wb) (hm : behindInMarks op b = false) : XE X (.Compare a [op] [b] pos) (tOp r ta tb) (wO φ wa wb) :=
  xe_O ha hb (fun _ _ pa pb => pe_cmpR ho pa pb hm) hr
/-- a test from a value that is a bool -/
def wB (w : PX) : PXT := fun Γ Φ => w Γ fun r Γ1 => ∃ b, r = .v (.bool b) ∧ Φ b Γ1
theorem dt_B {C : Cc} {t : TE} {w : PX} (h : DE C t w) : DT C (tTest t) (wB w) := by
  intro n f Γ σ H Q Φ off R w k
  refine h n f Γ σ H _ _ off R w ?_
  rintro r x Γ1 H1 ⟨b, rfl, φ⟩ R1
  have := R1.heldV
  cases this
  exact ⟨b, rfl, k _ _ _ φ (R1.drop off)⟩
theorem xt_cmp {a b : Expr} {op : CmpOp} {pos : Pos} {r : R2} {φ : PO'} {ta tb : TE} {wa wb : PX} (ho : OpR X (compareOp op) r) (hr : PureR2 X.K r φ) (ha : XE X a ta wa) (hb : XE X b tb wb) (hm : behindInMarks op b = false) : XT X (.Compare a [op] [b] pos) (tTest (tOp r ta tb)) (wB (wO φ wa wb)) := by
  obtain ⟨pa, ga⟩ := ha
  obtain ⟨pb, gb⟩ := hb
  exact ⟨pt_cmpR ho pa pb hm, fun C hK => dt_B (de_O (ga C hK) (gb C hK) (by rw [hK.k]; exact hr))⟩
theorem xt_val {e : Expr} {t : TE} {w : PX} (h : XE X e t w) (he : ∀ whole, isTrue e X.env whole = (do let v ← whole; standAt e.pos; holding [v] (truthy v)) := by intro _; rfl) : XT X e (tB t) (wB w) := by
  obtain ⟨p, g⟩ := h
  refine ⟨pt_val p he, fun C hK n f Γ σ H Q Φ off R w k => ?_⟩
  exact dt_B (g C hK) n f Γ σ H Q Φ off R w k
def wN (w : PXT) : PXT := fun Γ Φ => w Γ fun b Γ1 => Φ (!b) Γ1
theorem xt_not {a : Expr} {pos : Pos} {t : TT} {w : PXT} (h : XT X a t w) : XT X (.UnaryOp .Not a pos) (tNot t) (wN w) := by
  obtain ⟨p, g⟩ := h
  refine ⟨pt_not p, fun C hK n f Γ σ H Q Φ off R w k => g C hK n f Γ σ H _ _ off R w ?_⟩
  intro b Γ1 H1 φ R1
  exact k _ _ _ φ R1
def wAnd (w u : PXT) : PXT := fun Γ Φ => w Γ fun b Γ1 => (b = true → u Γ1 Φ) ∧ (b = false → Φ false Γ1)
def wOr (w u : PXT) : PXT := fun Γ Φ => w Γ fun b Γ1 => (b = true → Φ true Γ1) ∧ (b = false → u Γ1 Φ)
theorem xt_w {e : Expr} {t : TT} {w : PXT} (h : XW X e t w) : XT X e t w := by
  obtain ⟨p, g⟩ := h
  exact ⟨p.pt, g⟩
theorem xw_and1 {a : Expr} {pos : Pos} {t : TT} {w : PXT} (h : XT X a t w) : XW X (.BoolOp .And [a] pos) t w := by
  obtain ⟨p, g⟩ := h
  exact ⟨pw_and1 p, g⟩
theorem xw_or1 {a : Expr} {pos : Pos} {t : TT} {w : PXT} (h : XT X a t w) : XW X (.BoolOp .Or [a] pos) t w := by
  obtain ⟨p, g⟩ := h
  exact ⟨pw_or1 p, g⟩
theorem xw_and {a b : Expr} {rest : List Expr} {pos : Pos} {t t2 : TT} {w u : PXT} (h : XT X a t w) (h2 : XW X (.BoolOp .And (b :: rest) pos) t2 u) : XW X (.BoolOp .And (a :: b :: rest) pos) (tAnd t t2) (wAnd w u) := by
  obtain ⟨p, g⟩ := h
  obtain ⟨p2, g2⟩ := h2
  refine ⟨pw_and p p2, fun C hK n f Γ σ H Q Φ off R w k => g C hK n f Γ σ H _ _ off R w ?_⟩
  rintro b Γ1 H1 ⟨φ1, φ2⟩ R1
  cases b with
  | true => show if (true = true) then _ else _; rw [if_pos rfl]; exact g2 C hK n f Γ1 σ H1 Q Φ off R1 (φ1 rfl) k
  | false => show if (false = true) then _ else _; rw [if_neg (by decide)]; exact k _ _ _ (φ2 rfl) R1
theorem xw_or {a b : Expr} {rest : List Expr} {pos : Pos} {t t2 : TT} {w u : PXT} (h : XT X a t w) (h2 : XW X (.BoolOp .Or (b :: rest) pos) t2 u) : XW X (.BoolOp .Or (a :: b :: rest) pos) (tOr t t2) (wOr w u) := by
  obtain ⟨p, g⟩ := h
  obtain ⟨p2, g2⟩ := h2
  refine ⟨pw_or p p2, fun C hK n f Γ σ H Q Φ off R w k => g C hK n f Γ σ H _ _ off R w ?_⟩
  rintro b Γ1 H1 ⟨φ1, φ2⟩ R1
  cases b with
  | true => show if (true = true) then _ else _; rw [if_pos rfl]; exact k _ _ _ (φ1 rfl) R1
  | false => show if (false = true) then _ else _; rw [if_neg (by decide)]; exact g2 C hK n f Γ1 σ H1 Q Φ off R1 (φ2 rfl) k
/-- .. as values -/
theorem xe_one {a : Expr} {op} {pos : Pos} {t : TE} {w : PX} (h : XE X a t w) : XE X (.BoolOp op [a] pos) t w := by
  obtain ⟨p, g⟩ := h
  exact ⟨pe_one p, g⟩
def wAndV (w u : PX) : PX := fun Γ Φ => w Γ fun r Γ1 => ∃ b, r = .v (.bool b) ∧ (b = true → u Γ1 Φ) ∧ (b = false → Φ (.v (.bool false)) Γ1)
def wOrV (w u : PX) : PX := fun Γ Φ => w Γ fun r Γ1 => ∃ b, r = .v (.bool b) ∧ (b = true → Φ (.v (.bool true)) Γ1) ∧ (b = false → u Γ1 Φ)
theorem xe_and {a b : Expr} {rest : List Expr} {pos : Pos} {t t2 : TE} {w u : PX} (h : XE X a t w) (h2 : XE X (.BoolOp .And (b :: rest) pos) t2 u) : XE X (.BoolOp .And (a :: b :: rest) pos) (tAndV t t2) (wAndV w u) := by
  obtain ⟨p, g⟩ := h
  obtain ⟨p2, g2⟩ := h2
  refine ⟨pe_and p p2, fun C hK n f Γ σ H Q Φ off R w k => g C hK n f Γ σ H _ _ off R w ?_⟩
  rintro r x Γ1 H1 ⟨b, rfl, φ1, φ2⟩ R1
  have := R1.heldV
  cases this
  refine ⟨b, rfl, ?_⟩
  cases b with
  | true => rw [if_pos rfl]; exact g2 C hK n f Γ1 σ H1 Q Φ off (R1.drop off) (φ1 rfl) k
  | false => rw [if_neg (by decide)]; exact k _ _ _ _ (φ2 rfl) R1
theorem xe_or {a b : Expr} {rest : List Expr} {pos : Pos} {t t2 : TE} {w u : PX} (h : XE X a t w) (h2 : XE X (.BoolOp .Or (b :: rest) pos) t2 u) : XE X (.BoolOp .Or (a :: b :: rest) pos) (tOrV t t2) (wOrV w u) := by
  obtain ⟨p, g⟩ := h
  obtain ⟨p2, g2⟩ := h2
  refine ⟨pe_or p p2, fun C hK n f Γ σ H Q Φ off R w k => g C hK n f Γ σ H _ _ off R w ?_⟩
  rintro r x Γ1 H1 ⟨b, rfl, φ1, φ2⟩ R1
  have := R1.heldV
  cases this
  refine ⟨b, rfl, ?_⟩
  cases b with
  | true => rw [if_pos rfl]; exact k _ _ _ _ (φ1 rfl) R1
  | false => rw [if_neg (by decide)]; exact g2 C hK n f Γ1 σ H1 Q Φ off (R1.drop off) (φ2 rfl) k
def wNotV (w : PX) : PX := fun Γ Φ => w Γ fun r Γ1 => ∃ b, r = .v (.bool b) ∧ Φ (.v (.bool (!b))) Γ1
theorem xe_not {a : Expr} {pos : Pos} {t : TE} {w : PX} (h : XE X a t w) : XE X (.UnaryOp .Not a pos) (tNotV t) (wNotV w) := by
  obtain ⟨p, g⟩ := h
  refine ⟨pe_not p, fun C hK n f Γ σ H Q Φ off R w k => g C hK n f Γ σ H _ _ off R w ?_⟩
  rintro r x Γ1 H1 ⟨b, rfl, φ⟩ R1
  have := R1.heldV
  cases this
  exact ⟨b, rfl, k _ _ _ _ φ ((R1.drop off).holdV off (.bl _))⟩
def wIfE (c : PXT) (wa wb : PX) : PX := fun Γ Φ => c Γ fun b Γ1 => (b = true → wa Γ1 Φ) ∧ (b = false → wb Γ1 Φ)
theorem xe_if {c a b : Expr} {pos : Pos} {t : TT} {ta tb : TE} {wc : PXT} {wa wb : PX} (hc : XT X c t wc) (ha : XE X a ta wa) (hb : XE X b tb wb) : XE X (.IfExp c a b pos) (tIf t ta tb) (wIfE wc wa wb) := by
  obtain ⟨p, g⟩ := hc
  obtain ⟨pa, ga⟩ := ha
  obtain ⟨pb, gb⟩ := hb
  refine ⟨pe_ifExp p pa pb, fun C hK n f Γ σ H Q Φ off R w k => g C hK n f Γ σ H _ _ off R w ?_⟩
  rintro b Γ1 H1 ⟨φ1, φ2⟩ R1
  cases b with
  | true => show if (true = true) then _ else _; rw [if_pos rfl]; exact ga C hK n f Γ1 σ H1 Q Φ off R1 (φ1 rfl) k
  | false => show if (false = true) then _ else _; rw [if_neg (by decide)]; exact gb C hK n f Γ1 σ H1 Q Φ off R1 (φ2 rfl) k
/-! ### displays -/
def wTup (wA : PXR) : PX := fun Γ Φ => wA Γ fun ds Γ1 => ds.length ≤ sizeLine ∧ Φ (.v (.tuple ds)) Γ1
def wLst (wA : PXR) : PX := fun Γ Φ => wA Γ fun ds Γ1 => ds.length ≤ sizeLine ∧ Φ (.own (.list ds)) Γ1
theorem xe_tup {es : List Expr} {x1} {pos : Pos} {t : TA} {wA : PXR} (h : XV X es t wA) : XE X (.Tuple es x1 pos) (tTup t) (wTup wA) := by
  obtain ⟨p, g⟩ := h
  refine ⟨pe_tup p, fun C hK n f Γ σ H Q Φ off R w k => g C hK n f Γ σ H _ _ off R w ?_⟩
  rintro ds xs Γ1 H1 ⟨hl, φ⟩ R1 a
  exact ⟨by rw [a.len]; exact hl, fun q hq => k _ _ _ _ φ (R1.tupL off hq a)⟩
theorem xe_lst {es : List Expr} {pos : Pos} {t : TA} {wA : PXR} (h : XV X es t wA) : XE X (.List es pos) (tLst t) (wLst wA) := by
  obtain ⟨p, g⟩ := h
  refine ⟨pe_lst p, fun C hK n f Γ σ H Q Φ off R w k => g C hK n f Γ σ H _ _ off R w ?_⟩
  rintro ds xs Γ1 H1 ⟨hl, φ⟩ R1 a
  exact ⟨by rw [a.len]; exact hl, fun q hq => k _ _ _ _ φ (R1.mineL off hq a)⟩

/-! ### statements -/
def wNext : PXS := fun Γ Φ => Φ.nx Γ
def wSeq (w u : PXS) : PXS := fun Γ Φ => w Γ { Φ with nx := fun Γ1 => u Γ1 Φ }
theorem xss_nil : XSs X [] tNext wNext := ⟨pss_nil, fun C hK n f Γ σ H D Φ off nb R w F => F.nx _ _ _ w R⟩
theorem xss_one {st : Stmt} {t : TS} {w : PXS} (h : XS X st t w) : XSs X [st] t w := by
  obtain ⟨p, g⟩ := h
  exact ⟨pss_one p, g⟩
theorem xss_cons {st : Stmt} {rest : List Stmt} {t t2 : TS} {w u : PXS} (h : XS X st t w) (h2 : XSs X rest t2 u) : XSs X (st :: rest) (tSeq t t2) (wSeq w u) := by
  obtain ⟨p, g⟩ := h
  obtain ⟨p2, g2⟩ := h2
  refine ⟨pss_cons p p2, fun C hK n f Γ σ H D Φ off nb R w F => g C hK n f Γ σ H _ _ off nb R w ⟨fun Γ1 σ1 H1 φ R1 => ?_, F.rt, F.bk, F.ct⟩⟩
  exact g2 C hK n f Γ1 σ1 H1 D Φ off nb R1 φ ⟨F.nx, F.rt, F.bk, F.ct⟩
def wDrop (w : PX) : PXS := fun Γ Φ => w Γ fun _ Γ1 => Φ.nx Γ1
theorem xs_expr {e : Expr} {pos : Pos} {t : TE} {w : PX} (h : XE X e t w) (hs : swapsWith e none pos.line X.env = pure false := by rfl) : XS X (.Expr e pos) (tDrop t) (wDrop w) := by
  obtain ⟨p, g⟩ := h
  refine ⟨ps_expr p hs, fun C hK n f Γ σ H D Φ off nb R w F => g C hK n f Γ σ H _ _ off R w ?_⟩
  intro r x Γ1 H1 φ R1
  exact F.nx _ _ _ φ (R1.drop off)
def mv (Γ : Env) : D → Option (D × Env)
  | .bor i => match Γ[i]? with
    | some (some (.own d)) => some (.own d, Γ.set i none)
    | some (some (.v d)) => some (.v d, Γ)
    | _ => none
  | r => some (r, Γ)
section
variable {C : Cc} {f : Fr} {Γ Γ' : Env} {σ : SS} {H H' : Hp} {n : Nat}
theorem Rel.mv {r r' : D} {x : V} (R : Rel C (upF f n (some (r, x))) Γ σ H) (hf : Off f n) (nb : NoBor f) (h : mv Γ r = some (r', Γ')) : Rel C (upF f n (some (r', x))) Γ' σ H ∧ ∀ i, r' ≠ .bor i := by
  cases r with
  | v d => cases h; exact ⟨R, fun _ z => by cases z⟩
  | own d => cases h; exact ⟨R, fun _ z => by cases z⟩
  | ro d => cases h; exact ⟨R, fun _ z => by cases z⟩
  | deck => cases h; exact ⟨R, fun _ z => by cases z⟩
  | raw y => cases h; exact ⟨R, fun _ z => by cases z⟩
  | bor i =>
    have hx : σ[i]? = some (some x) := by
      cases R.e.ok (.inl n) _ _ ent_held with
      | bor z => exact z
    unfold Px.mv at h
    simp only at h
    have R0 := R.drop hf
    split at h
    · rename_i d hg
      cases h
      refine ⟨?_, fun _ z => by cases z⟩
      have hl : i < Γ.length := (List.getElem?_eq_some_iff.mp hg).1
      have W := R0.wipe nb i (o := some x)
      have hσ : σ.set i (some x) = σ := by
        apply List.ext_getElem?
        intro j
        by_cases q : i = j
        · subst q
          rw [List.getElem?_set_self (by rw [← R0.len]; exact hl), hx]
        · rw [List.getElem?_set_ne q]
      rw [hσ] at W
      refine ⟨?_, W.len, W.full, W.nb⟩
      have he : ent f Γ σ (.inr i) = some (.own d, x) := by
        show slotE Γ[i]? σ[i]? = _
        rw [hg, hx]; rfl
      have gone : ent f (Γ.set i none) σ (.inr i) = none := by
        show slotE (Γ.set i none)[i]? σ[i]? = none
        rw [List.getElem?_set_self hl]; rfl
      have els : ∀ k, k ≠ .inr i → ent f (Γ.set i none) σ k = ent f Γ σ k := by
        intro k q
        cases k with
        | inl m => rfl
        | inr j =>
          have : i ≠ j := fun z => q (by rw [z])
          show slotE (Γ.set i none)[j]? σ[j]? = slotE Γ[j]? σ[j]?
          rw [List.getElem?_set_ne this]
      refine R0.e.re (fun k => if k = .inl n then .inr i else k) (fun k o q => ?_) (fun k j q q' z => ?_)
      · rw [ent_up] at q
        by_cases h : k = .inl n
        · subst h
          rw [upE_same] at q; cases q
          rw [if_pos rfl]; exact he
        · rw [upE_ne h] at q
          rw [if_neg h]
          have q2 : k ≠ .inr i := fun z => by rw [z, gone] at q; cases q
          rw [els k q2] at q; exact q
      · have ne : ∀ k, (ent (upF f n (some (.own d, x))) (Γ.set i none) σ k).isSome = true → k ≠ .inr i := by
          intro k q z
          subst z
          rw [ent_up, upE_ne (fun z => by cases z), gone] at q; cases q
        by_cases h : k = .inl n
        · by_cases h' : j = .inl n
          · rw [h, h']
          · rw [if_pos h, if_neg h'] at z
            exact absurd z.symm (ne j q')
        · by_cases h' : j = .inl n
          · rw [if_neg h, if_pos h'] at z
            exact absurd z (ne k q)
          · rwa [if_neg h, if_neg h'] at z
    · rename_i d hg
      cases h
      refine ⟨?_, fun _ z => by cases z⟩
      obtain ⟨y, hy, he⟩ := R0.at hg
      rw [hx] at hy; cases hy
      exact R0.hold hf (fun _ z => by cases z) (R0.e.ok _ _ _ he)
    · cases h
end
def wRet (w : PX) : PXS := fun Γ Φ => w Γ fun r Γ1 => ∃ r' Γ2, mv Γ1 r = some (r', Γ2) ∧ Φ.rt r'
theorem xs_ret {e : Expr} {pos : Pos} {t : TE} {w : PX} (h : XE X e t w) : XS X (.Return (some e) pos) (tRet t) (wRet w) := by
  obtain ⟨p, g⟩ := h
  refine ⟨ps_ret p, fun C hK n f Γ σ H D Φ off nb R w F => g C hK n f Γ σ H _ _ off R w ?_⟩
  rintro r x Γ1 H1 ⟨r', Γ2, hm, φ⟩ R1
  exact F.rt _ _ _ _ _ φ (R1.mv off nb hm).1
theorem xs_retN {pos : Pos} : XS X (.Return none pos) tRetN (fun Γ Φ => Φ.rt (.v .none)) :=
  ⟨ps_retN, fun C hK n f Γ σ H D Φ off nb R w F => F.rt _ _ _ _ _ w (R.holdV off .non)⟩
def wIf (c : PXT) (a b : PXS) : PXS := fun Γ Φ => c Γ fun k Γ1 => (k = true → a Γ1 Φ) ∧ (k = false → b Γ1 Φ)
theorem xs_if {c : Expr} {a b : List Stmt} {pos : Pos} {t : TT} {ta tb : TS} {wc : PXT} {wa wb : PXS} (hc : XT X c t wc) (ha : XSs X a ta wa) (hb : XSs X b tb wb) : XS X (.If c a b pos) (tIfS t ta tb) (wIf wc wa wb) := by
  obtain ⟨p, g⟩ := hc
  obtain ⟨pa, ga⟩ := ha
  obtain ⟨pb, gb⟩ := hb
  refine ⟨ps_if p pa pb, fun C hK n f Γ σ H D Φ off nb R w F => g C hK n f Γ σ H _ _ off R w ?_⟩
  rintro b Γ1 H1 ⟨φ1, φ2⟩ R1
  have F1 := F
  cases b with
  | true => show if (true = true) then _ else _; rw [if_pos rfl]; exact ga C hK n f Γ1 σ H1 D Φ off nb R1 (φ1 rfl) F
  | false => show if (false = true) then _ else _; rw [if_neg (by decide)]; exact gb C hK n f Γ1 σ H1 D Φ off nb R1 (φ2 rfl) F
/-- what a name is given: the object of another name becomes data -/
def sto (Γ : Env) : D → Option (D × Env)
  | .bor i => match Γ[i]? with
    | some (some (.own d)) => some (.v d, Γ.set i (some (.v d)))
    | some (some (.v d)) => some (.v d, Γ)
    | _ => none
  | r => some (r, Γ)
section
variable {C : Cc} {f : Fr} {Γ Γ' : Env} {σ : SS} {H H' : Hp} {n : Nat}
theorem Rel.sto {r r' : D} {x : V} (R : Rel C (upF f n (some (r, x))) Γ σ H) (hf : Off f n) (h : sto Γ r = some (r', Γ')) : Rel C (upF f n (some (r', x))) Γ' σ H ∧ ∀ i, r' ≠ .bor i := by
  cases r with
  | v d => cases h; exact ⟨R, fun _ z => by cases z⟩
  | own d => cases h; exact ⟨R, fun _ z => by cases z⟩
  | ro d => cases h; exact ⟨R, fun _ z => by cases z⟩
  | deck => cases h; exact ⟨R, fun _ z => by cases z⟩
  | raw y => cases h; exact ⟨R, fun _ z => by cases z⟩
  | bor i =>
    unfold Px.sto at h
    simp only at h
    split at h
    · rename_i d hg
      cases h
      exact ⟨R.frzR hf (by unfold frz; simp only; rw [hg]), fun _ z => by cases z⟩
    · rename_i d hg
      cases h
      exact ⟨R.frzR hf (by unfold frz; simp only; rw [hg]), fun _ z => by cases z⟩
    · cases h
theorem Rel.toSlot' {d : D} {x : V} (R : Rel C (upF f n (some (d, x))) Γ σ H) (hf : Off f n) (nb : NoBor f) (hd : ∀ j, d ≠ .bor j) (i : Nat) : Rel C f (Γ.set i (some d)) (σ.set i (some x)) H := by
  by_cases hi : i < Γ.length
  · exact R.toSlot hf nb hd hi
  · have R0 := R.drop hf
    rw [List.set_eq_of_length_le (by omega), List.set_eq_of_length_le (by have := R0.len; omega)]
    exact R0
end
def wSet (i : Nat) (w : PX) : PXS := fun Γ Φ => w Γ fun r Γ1 => ∃ r' Γ2, sto Γ1 r = some (r', Γ2) ∧ Φ.nx (Γ2.set i (some r'))
theorem ds_set {C : Cc} {i : Nat} {t : TE} {w : PX} (g : DE C t w) : DS C (tAsg t (gName i)) (wSet i w) := by
  intro n f Γ σ H D Φ off nb R w F
  refine g n f Γ σ H _ _ off R w ?_
  rintro r x Γ1 H1 ⟨r', Γ2, hm, φ⟩ R1
  obtain ⟨R2, nbr⟩ := R1.sto off hm
  exact F.nx _ _ _ φ (R2.toSlot' off nb nbr i)
theorem xs_set {i : Nat} {x : Str} {e : Expr} {t : TE} {w : PX} {pos pos' : Pos} (hN : X.N.Nodup) (hi : X.N[i]? = some x) (hx : Loc X.env.scope x) (he : XE X e t w) (hs : swapsWith e (some (.Name x pos')) pos.line X.env = pure false := by rfl) (hf : X.fn x = true ∨ X.env.scope.names.lookup x = some .local := by first | exact .inl rfl | exact .inr rfl | assumption) :
    XS X (.Assign [.Name x pos'] e pos) (tAsg t (gName i)) (wSet i w) := by
  obtain ⟨p, g⟩ := he
  exact ⟨ps_set hN hi hx p hs hf, fun C hK => ds_set (g C hK)⟩
end
end Px
end

/-! Px4 -/
section
set_option Elab.async false
set_option linter.all false
set_option maxRecDepth 100000
set_option maxHeartbeats 2000000
set_option autoImplicit false
namespace Px
open PySem PySem.Spec PyProof.Rows L2 Dh

/-! ### defs of one's own, over data -/
inductive ResOk (K : PySem.W.Frag) (M : AS) (H H' : Hp) : D → V → Prop
  | v {d : PyData} {x : V} : Ac K M H' x d → ResOk K M H H' (.v d) x
  | own {d : PyData} {a : Addr} : H a = none → Ow K (fun b => M b ∨ b = a) H' a d → ResOk K M H H' (.own d) (.ref a)
  | raw {x : V} : ResOk K M H H' (.raw x) x
structure Back (K : PySem.W.Frag) (ik : List Key) (M : AS) (U : List Addr) (H H' : Hp) (r : D) (x : V) : Prop where
  kp : Dh.Kp U H H'
  dk : ∀ a, Dck ik U H a → Dck ik U H' a
  tr : ∀ b ∈ U, Th H' b
  ok : ResOk K M H H' r x
abbrev PF := List D → (D → Prop) → Prop
def spD (K : PySem.W.Frag) (ik : List Key) (φ : PF) : Sp := fun vs H Q _ =>
  ∃ (M : AS) (U : List Addr) (Δ : List D) (Ψ : D → Prop), (∀ b, M b → Th H b) ∧ (∀ b ∈ U, M b) ∧ PassL K U ik M H Δ vs ∧ φ Δ Ψ ∧ ∀ r x H', Ψ r → Back K ik M U H H' r x → Q x H'
def Fine : D → Prop
  | .ro _ => False
  | .bor _ => False
  | .deck => False
  | _ => True
def startG (n : Nat) (Δ : List D) : Env := Δ.map some ++ List.replicate (n - Δ.length) none
theorem PassL.len {K : PySem.W.Frag} {U : List Addr} {ik : List Key} {W : AS} {H : Hp} : ∀ {ds : List D} {xs : List V}, PassL K U ik W H ds xs → ds.length = xs.length
  | _, _, .nil => rfl
  | _, _, .cons _ b => by simp [PassL.len b]
theorem PassL.at {K : PySem.W.Frag} {U : List Addr} {ik : List Key} {W : AS} {H : Hp} : ∀ {ds : List D} {xs : List V}, PassL K U ik W H ds xs → ∀ {i : Nat} {d : D} {x : V}, ds[i]? = some d → xs[i]? = some x → PassOk K U ik W H d x
  | _, _, .nil, _, _, _, e, _ => by simp at e
  | _, _, .cons a _, 0, _, _, e, e' => by simp at e e'; subst e e'; exact a
  | _, _, .cons _ b, i + 1, _, _, e, e' => PassL.at b (i := i) (by simpa using e) (by simpa using e')
def noFr : Fr := fun _ => none
theorem start_rel {K : PySem.W.Frag} {U : List Addr} {ik : List Key} {M : AS} {H : Hp} {Δ : List D} {vs : List V} {N : List Str} (hl : vs.length ≤ N.length) (tr : ∀ b, M b → Th H b) (uM : ∀ b ∈ U, M b) (h : PassL K U ik M H Δ vs) :
    Rel ⟨K, M, U, H, ik⟩ noFr (startG N.length Δ) (L2.start N vs) H := by
  have hlen := h.len
  have inl : ∀ (i : Nat) d, (startG N.length Δ)[i]? = some (some d) → i < Δ.length ∧ Δ[i]? = some d := by
    intro i d e
    unfold startG at e
    by_cases q : i < Δ.length
    · refine ⟨q, ?_⟩
      rw [List.getElem?_append_left (by simpa using q), List.getElem?_map, List.getElem?_eq_getElem q] at e
      rw [List.getElem?_eq_getElem q]
      simpa using e
    · rw [List.getElem?_append_right (by simp; omega), List.getElem?_replicate] at e
      split at e <;> cases e
  have ins : ∀ (i : Nat), i < vs.length → (L2.start N vs)[i]? = some vs[i]? := by
    intro i q
    unfold L2.start
    rw [List.getElem?_append_left (by simpa using q), List.getElem?_map, List.getElem?_eq_getElem q]; rfl
  have entr : ∀ k d x, ent noFr (startG N.length Δ) (L2.start N vs) k = some (d, x) → PassOk K U ik M H d x := by
    intro k d x e
    cases k with
    | inl n => cases e
    | inr i =>
      obtain ⟨e1, e2⟩ := slotE_some e
      obtain ⟨q, e1⟩ := inl i d e1
      have q' : i < vs.length := by omega
      rw [ins i q'] at e2
      exact h.at e1 (Option.some.inj e2)
  have noOwn : ∀ k d a, ent noFr (startG N.length Δ) (L2.start N vs) k ≠ some (.own d, .ref a) := by
    intro k d a e
    cases entr _ _ _ e
  have W : ∀ a, WE ⟨K, M, U, H, ik⟩ (ent noFr (startG N.length Δ) (L2.start N vs)) a ↔ M a := fun a => ⟨fun z => by
    rcases z with z | ⟨k, d, z⟩
    · exact z
    · exact absurd z (noOwn _ _ _), fun z => .inl z⟩
  refine ⟨⟨fun k d x e => ?_, fun k _ d _ a e => absurd e (noOwn _ _ _), fun k d a e => absurd e (noOwn _ _ _), Dh.Kp.refl _ _, tr, uM, fun _ D => D⟩, ?_, fun i d e => ?_, fun i j e => ?_⟩
  · have t : Tr M H (WE ⟨K, M, U, H, ik⟩ (ent noFr (startG N.length Δ) (L2.start N vs))) H := Tr.less fun a z => (W a).mp z
    cases entr k d x e with
    | v z => exact .v (Ac.tr t _ z)
    | ro z m n => exact .ro (z.tr t rfl) m n
    | deck z => exact .deck z
    | raw => exact .raw
  · unfold startG L2.start
    simp [hlen]
  · obtain ⟨q, e1⟩ := inl i d e
    have q' : i < vs.length := by omega
    exact ⟨vs[i], by rw [ins i q', List.getElem?_eq_getElem q']⟩
  · obtain ⟨q, e1⟩ := inl i _ e
    have q' : i < vs.length := by omega
    cases h.at e1 (List.getElem?_eq_getElem q')
section
variable {P : Program} {w : World} {K : PySem.W.Frag} {mg : Str → Option Value} {base : Heap} [IK]
/-- a def by its body, over data -/
theorem FnG.data {x qual : Str} {st : Stmt} {f : Addr} {fd : FuncData} {N ps : List Str} {k : Nat} {φ : PF} (F : Fun K x qual st f fd) (S : FnScope N ps (defScope st)) (hN : ps.length ≤ N.length)
    (ln : ∀ Δ Ψ, φ Δ Ψ → Δ.length = ps.length)
    (run : ∀ (cdv : Value) (A : Around) (outer : List PySem.Env) (s : Shared) (H : Hp) (E : XK) (Δ : List D) (Ψ : D → Prop),
      (A.deeper (envOfC qual (defScope st) s.heap.objs.size f cdv)).guards = some [] → Room k (A.deeper (envOfC qual (defScope st) s.heap.objs.size f cdv)) → φ Δ Ψ →
      ∃ t w', XSs (cxOf CX0 P w K mg base N qual (defScope st) f cdv A outer s H E).nox (defBody st) t w' ∧ w' (startG N.length Δ) { nx := fun _ => Ψ (.v .none), rt := fun r => Fine r ∧ Ψ r }) :
    FnG P w K mg base CX0 (k + 1) f fd ps (spD K IK.ks φ) := by
  refine FnG.by0 F S (fun vs H Q E h => ?_) (fun cdv A outer s H vs Q E g r h => ?_)
  · obtain ⟨M, U, Δ, Ψ, _, _, hp, hφ, _⟩ := h
    rw [← hp.len]; exact ln _ _ hφ
  · obtain ⟨M, U, Δ, Ψ, tr, uM, hp, hφ, k⟩ := h
    obtain ⟨t, w', ⟨p, gd⟩, hw⟩ := run cdv A outer s H E Δ Ψ g r hφ
    refine ⟨t, p, ?_⟩
    have hl : vs.length ≤ N.length := by
      have := hp.len
      have := ln _ _ hφ
      omega
    have R := start_rel (N := N) hl tr uM hp
    refine gd ⟨K, M, U, H, IK.ks⟩ ⟨rfl, rfl⟩ 0 noFr _ _ H _ _ (fun _ _ => rfl) (fun _ _ _ z => by cases z) R hw ⟨fun Γ σ H' z R' => ?_, fun rr x Γ σ H' z R' => ?_, fun _ _ _ z => z.elim, fun _ _ _ z => z.elim⟩
    · exact k (.v .none) .non H' z ⟨R'.e.kp, R'.e.dk, fun b hb => R'.e.tr b (R'.e.uM b hb), .v .non⟩
    · have ok := R'.e.ok (.inl 0) _ _ ent_held
      obtain ⟨fine, z⟩ := z
      refine k rr x H' z ⟨R'.e.kp, R'.e.dk, fun b hb => R'.e.tr b (R'.e.uM b hb), ?_⟩
      have less : ∀ b, M b → WE ⟨K, M, U, H, IK.ks⟩ (ent (upF noFr 0 (some (rr, x))) Γ σ) b := fun b z => .inl z
      cases ok with
      | v z => exact .v (Ac.tr (Tr.less less) _ z)
      | @own d a z =>
        refine .own (R'.e.ap _ _ _ ent_held).2 (z.tr (Tr.less fun b hb => ?_) rfl)
        rcases hb with hb | hb
        · exact .inl hb
        · exact .inr ⟨.inl 0, d, by rw [hb]; exact ent_held⟩
      | raw => exact .raw
      | bor => exact fine.elim
      | ro => exact fine.elim
      | deck => exact fine.elim
end
end Px
end

/-! Px5 -/
section
set_option Elab.async false
set_option linter.all false
set_option maxRecDepth 100000
set_option maxHeartbeats 2000000
set_option autoImplicit false
namespace Px
open PySem PySem.Spec PyProof.Rows L2 Dh

section
variable {C : Cc} {f f' : Fr} {Γ Γ' : Env} {σ σ' : SS} {H H' : Hp} {n n' : Nat}
/-- behind a call: what is held and the slots stand -/
theorem Rel.back {K : PySem.W.Frag} {ik : List Key} {r : D} {x : V} (R : Rel C f Γ σ H) (hf : Off f n) (hK : C.K = K) (hi : C.ik = ik) (B : Back K ik (WE C (ent f Γ σ)) C.U H H' r x) : Rel C (upF f n (some (r, x))) Γ σ H' := by
  subst hK hi
  have R1 : Rel C f Γ σ H' := R.kept B.kp B.dk B.tr
  cases B.ok with
  | v z => exact R1.holdV hf z
  | raw => exact R1.hold hf (fun _ z => by cases z) .raw
  | @own d a hn ho =>
    obtain ⟨nW, n0⟩ := R.e.fresh hn
    refine ⟨?_, R1.len, R1.full, R1.nb⟩
    rw [ent_up]
    have hk : ent f Γ σ (.inl n) = none := hf n (Nat.le_refl _)
    have e1 := R1.e
    have wsub : ∀ b, WE C (upE (ent f Γ σ) (.inl n) (some (.own d, .ref a))) b → WE C (ent f Γ σ) b ∨ b = a := by
      rintro b (z | ⟨j, d', z⟩)
      · exact .inl (.inl z)
      · by_cases y : j = .inl n
        · subst y; rw [upE_same] at z; cases z; exact .inr rfl
        · rw [upE_ne y] at z; exact .inl (.inr ⟨_, _, z⟩)
    have t : Tr (WE C (ent f Γ σ)) H (WE C (upE (ent f Γ σ) (.inl n) (some (.own d, .ref a)))) H' := by
      intro b u rd nb
      have ne : b ≠ a := ne_of_none rd hn
      have nu : b ∉ C.U := fun z => nb (.inl (R.e.uM _ z))
      refine ⟨B.kp _ _ rd nu, fun z => ?_⟩
      · rcases wsub b z with z | z
        · exact nb z
        · exact ne z
    refine ⟨fun j d' y q => ?_, fun i j d1 d2 b q q' => ?_, fun j d' b q => ?_, e1.kp, e1.tr, e1.uM, e1.dk⟩
    · by_cases h : j = .inl n
      · subst h; rw [upE_same] at q; cases q
        exact .own (ho.tr (Tr.less wsub) rfl)
      · rw [upE_ne h] at q
        refine (R.e.ok _ _ _ q).tr t (fun b z => ?_) B.dk (fun _ _ z => z)
        have th : Th H b := by
          rcases z with ⟨d', rfl, rfl⟩ | ⟨z, _⟩
          · cases R.e.ok _ _ _ q with | own h => exact h.there
          · exact R.e.tr _ z
        have nu : b ∉ C.U := by
          rcases z with ⟨d', rfl, rfl⟩ | ⟨_, z⟩
          · exact fun y => (R.e.ap _ _ _ q).1 (R.e.uM _ y)
          · exact z
        obtain ⟨o, ho', _⟩ := th
        rw [ho']; exact B.kp _ _ ho' nu
    · have no : ∀ k d3, ent f Γ σ k ≠ some (.own d3, .ref a) := fun k d3 z => nW (.inr ⟨_, _, z⟩)
      by_cases h : i = .inl n
      · by_cases h' : j = .inl n
        · rw [h, h']
        · subst h; rw [upE_same] at q; cases q
          rw [upE_ne h'] at q'; exact absurd q' (no _ _)
      · rw [upE_ne h] at q
        by_cases h' : j = .inl n
        · subst h'; rw [upE_same] at q'; cases q'
          exact absurd q (no _ _)
        · rw [upE_ne h'] at q'
          exact R.e.inj _ _ _ _ _ q q'
    · by_cases h : j = .inl n
      · subst h; rw [upE_same] at q; cases q
        exact ⟨fun z => nW (.inl z), n0⟩
      · rw [upE_ne h] at q
        exact R.e.ap _ _ _ q
end
section
variable {X : Cx} [IK]
/-- f(e, ..), f a def of one's own -/
def wCall (φ : PF) (wA : PXP) : PX := fun Γ Φ => wA Γ fun Δ Γ1 => φ Δ fun r => Φ r Γ1
theorem de_call {C : Cc} {φ : PF} {ta : TA} {wA : PXP} (hK : Cok C X) (g : DP C ta wA) (E : XK) : DE C (fun σ H Q => ta σ H fun vs H1 => spD X.K IK.ks φ vs H1 Q E) (wCall φ wA) := by
  intro n f Γ σ H Q Φ off R w k
  refine g n f Γ σ H _ _ off R w ?_
  intro Δ xs Γ1 H1 φ1 R1 ps
  refine ⟨WE C (ent f Γ1 σ), C.U, Δ, fun r => Φ r Γ1, fun b hb => ?_, fun b hb => .inl (R1.e.uM b hb), by rw [← hK.k, ← hK.i]; exact ps, φ1, fun r x H' φ2 B => k _ _ _ _ φ2 (R1.back off hK.k hK.i B)⟩
  rcases hb with hb | ⟨j, d, hb⟩
  · exact R1.e.tr _ hb
  · cases R1.e.ok _ _ _ hb with
    | own h => exact h.there
theorem xe_call {e : Expr} {es : List Expr} {x : Str} {p pos : Pos} {k : Nat} {f : Addr} {fd : FuncData} {ps : List Str} {φ : PF} {t : TA} {wA : PXP} (F : FnG X.prog X.w X.K X.mg X.base CX0 k f fd ps (spD X.K IK.ks φ)) (noG : X.A.guards = some []) (room : Room k X.A) (hg : Gl X x) (hm : X.mg x = some (.ref f)) (hk : PySem.W.keepIn X.K (.ref f) = true)
    (hb : Binds X.K fd ps []) (hA : XP X (e :: es) t wA) (hdb : (x == ("__debug__" : Str)) = false := by decide)
    (he : starEach (e :: es) X.env = (false, eval e X.env) :: starEach es X.env := by rfl) (hpl : (backTo pos (starEach es X.env)).any (·.1) = false := by rfl) :
    XE X (.Call (.Name x p) (e :: es) [] pos) (tCall (spD X.K IK.ks φ) [] (fun _ _ _ => False) t) (wCall φ wA) := by
  obtain ⟨pt, g⟩ := hA
  refine ⟨Dh.pe_callG F noG room hg hm hk hb (E := fun _ _ _ => False) pass0 pt hdb he hpl, fun C hK => ?_⟩
  have e : tCall (spD X.K IK.ks φ) [] (fun _ _ _ => False) t = fun σ H Q => t σ H fun vs H1 => spD X.K IK.ks φ vs H1 Q fun _ _ _ => False := by
    funext σ H Q
    unfold tCall
    simp only [List.append_nil]
  rw [e]
  exact de_call (φ := φ) hK (g C hK) (fun _ _ _ => False)

/-! ### targets -/
abbrev PG' := PyData → Env → (Env → Prop) → Prop
abbrev PGs' := List PyData → Env → (Env → Prop) → Prop
def DG (C : Cc) (t : TG) (g : PG') (ts : List Nat) : Prop := ∀ (n : Nat) (f : Fr) (Γ : Env) (σ : SS) (H : Hp) (x : V) (d : PyData) (Q : SS → Hp → Prop) (Φ : Env → Prop), Off f n → NoBor f → Rel C f Γ σ H → Ac C.K (WE C (ent f Γ σ)) H x d → g d Γ Φ →
  (∀ Γ' σ' H', Φ Γ' → Rel C f Γ' σ' H' → Tr (WE C (ent f Γ σ)) H (WE C (ent f Γ' σ')) H' → (∀ vs : List Nat, (∀ i ∈ ts, i ∈ vs) → L2.wipe σ' vs = L2.wipe σ vs) → Q σ' H') → t x σ H Q
def DGs (C : Cc) (t : TGs) (g : PGs') (ts : List Nat) : Prop := ∀ (n : Nat) (f : Fr) (Γ : Env) (σ : SS) (H : Hp) (xs : List V) (ds : List PyData) (Q : SS → Hp → Prop) (Φ : Env → Prop), Off f n → NoBor f → Rel C f Γ σ H → AcL C.K (WE C (ent f Γ σ)) H xs ds → g ds Γ Φ →
  (∀ Γ' σ' H', Φ Γ' → Rel C f Γ' σ' H' → Tr (WE C (ent f Γ σ)) H (WE C (ent f Γ' σ')) H' → (∀ vs : List Nat, (∀ i ∈ ts, i ∈ vs) → L2.wipe σ' vs = L2.wipe σ vs) → Q σ' H') → t xs σ H Q
def XG (X : Cx) (e : Expr) (t : TG) (g : PG') (ts : List Nat) : Prop := PG X e t ∧ ∀ C : Cc, Cok C X → DG C t g ts
def XGs (X : Cx) (es : List Expr) (t : TGs) (g : PGs') (ts : List Nat) : Prop := PGs X es t ∧ ∀ C : Cc, Cok C X → DGs C t g ts
def gN (i : Nat) : PG' := fun d Γ Φ => Φ (Γ.set i (some (.v d)))
def gNil' : PGs' := fun ds Γ Φ => ds = [] ∧ Φ Γ
def gCons' (g : PG') (gs : PGs') : PGs' := fun ds Γ Φ => ∃ d r, ds = d :: r ∧ g d Γ fun Γ1 => gs r Γ1 Φ
def gT (n : Nat) (gs : PGs') : PG' := fun d Γ Φ => ∃ ds, d = .tuple ds ∧ ds.length = n ∧ gs ds Γ Φ
theorem set_own {f : Fr} {Γ : Env} {σ : SS} {i : Nat} {d : PyData} {x : V} {C : Cc} (l : Γ.length = σ.length) : ∀ a, WE C (ent f (Γ.set i (some (.v d))) (σ.set i (some x))) a → WE C (ent f Γ σ) a := by
  intro a z
  by_cases hi : i < Γ.length
  · rw [ent_set l hi] at z
    rcases z with z | ⟨k, d', z⟩
    · exact .inl z
    · by_cases q : k = .inr i
      · subst q; rw [upE_same] at z; cases z
      · rw [upE_ne q] at z; exact .inr ⟨_, _, z⟩
  · rwa [List.set_eq_of_length_le (by omega), List.set_eq_of_length_le (by omega)] at z
theorem wipe_in {σ : SS} {i : Nat} {o : Option V} : ∀ {vs : List Nat}, i ∈ vs → L2.wipe (σ.set i o) vs = L2.wipe σ vs
  | [], h => by cases h
  | v :: vs, h => by
    show (L2.wipe (σ.set i o) vs).set v none = (L2.wipe σ vs).set v none
    by_cases q : i ∈ vs
    · rw [wipe_in q]
    · have e : i = v := by
        rcases List.mem_cons.mp h with z | z
        · exact z
        · exact absurd z q
      subst e
      have go : ∀ ws : List Nat, L2.wipe (σ.set i o) ws = (L2.wipe σ ws).set i (if i ∈ ws then none else o) := by
        intro ws
        induction ws with
        | nil => simp [L2.wipe]
        | cons w ws ih =>
          show (L2.wipe (σ.set i o) ws).set w none = ((L2.wipe σ ws).set w none).set i _
          rw [ih]
          by_cases qw : i = w
          · subst qw
            simp [List.set_set]
          · rw [List.set_comm _ _ qw]
            have : (i ∈ w :: ws) = (i ∈ ws) := by simp [qw]
            simp only [this]
      rw [go vs, List.set_set]
theorem dg_name {C : Cc} {i : Nat} : DG C (gName i) (gN i) [i] := by
  intro n f Γ σ H x d Q Φ off nb R a φ k
  exact k _ _ _ φ ((R.holdV off a).toSlot' off nb (fun _ z => by cases z) i) (Tr.less (set_own R.len)) (fun vs h => wipe_in (h i (by simp)))
theorem xg_name {i : Nat} {x : Str} {pos : Pos} (hN : X.N.Nodup) (hi : X.N[i]? = some x) (hx : Loc X.env.scope x) (hf : X.fn x = true ∨ X.env.scope.names.lookup x = some .local := by first | exact .inl rfl | exact .inr rfl | assumption) : XG X (.Name x pos) (gName i) (gN i) [i] :=
  ⟨pg_name hN hi hx hf, fun C _ => dg_name⟩
theorem xgs_nil : XGs X [] gNil gNil' [] := ⟨pgs_nil, fun C hK n f Γ σ H xs ds Q Φ off nb R a φ k => by
  obtain ⟨rfl, φ⟩ := φ
  cases a
  exact ⟨rfl, k _ _ _ φ R (Tr.refl _ _) (fun _ _ => rfl)⟩⟩
theorem xgs_cons {e : Expr} {es : List Expr} {t : TG} {t2 : TGs} {g : PG'} {gs : PGs'} {ts ts2 : List Nat} (h1 : XG X e t g ts) (h2 : XGs X es t2 gs ts2) (hs : (assignEach (e :: es) X.env).map (·.2) = assign e X.env :: (assignEach es X.env).map (·.2) := by rfl) : XGs X (e :: es) (gCons t t2) (gCons' g gs) (ts ++ ts2) := by
  obtain ⟨p, g1⟩ := h1
  obtain ⟨p2, g2⟩ := h2
  refine ⟨pgs_cons p p2 hs, fun C hK n f Γ σ H xs ds Q Φ off nb R a φ k => ?_⟩
  obtain ⟨d, r, rfl, φ⟩ := φ
  cases a with
  | cons a b =>
    refine ⟨_, _, rfl, g1 C hK n f Γ σ H _ _ _ _ off nb R a φ ?_⟩
    intro Γ1 σ1 H1 φ1 R1 w1 v1
    refine g2 C hK n f Γ1 σ1 H1 _ _ _ _ off nb R1 (AcL.tr w1 _ b) φ1 ?_
    intro Γ2 σ2 H2 φ2 R2 w2 v2
    exact k _ _ _ φ2 R2 (w1.trans w2) fun vs h => (v2 vs fun i hi => h i (List.mem_append_right _ hi)).trans (v1 vs fun i hi => h i (List.mem_append_left _ hi))
theorem xg_tup {es : List Expr} {k : Nat} {t : TGs} {gs : PGs'} {ts : List Nat} {n : Nat} {pos : Pos} (hc : X.calm = true) (h : XGs X es t gs ts) (hn : (assignEach es X.env).length = n := by rfl) (hst : (assignEach es X.env).findIdx? (·.1) = none := by rfl) : XG X (.Tuple es k pos) (gTup X.K n t) (gT n gs) ts := by
  obtain ⟨p, g⟩ := h
  refine ⟨pg_tup hc p hn hst, fun C hK m f Γ σ H x d Q Φ off nb R a φ k => ?_⟩
  obtain ⟨ds, rfl, hl, φ⟩ := φ
  have ha := a
  cases a with
  | tup h1 h2 h3 => exact ⟨_, _, rfl, .inl (.inl h1), h3.len.trans hl, g C hK m f Γ σ H _ _ _ _ off nb R h3 φ k⟩
  | tupK h1 h3 =>
    refine ⟨_, _, rfl, .inr ?_, h3.len.trans hl, g C hK m f Γ σ H _ _ _ _ off nb R h3 φ k⟩
    rw [← hK.k]; exact h1
/-- targets = e: what e gives is kept as data -/
def wAsg (w : PX) (g : PG') : PXS := fun Γ Φ => w Γ fun r Γ1 => ∃ d Γ2, frz Γ1 r = some (d, Γ2) ∧ g d Γ2 Φ.nx
theorem xs_asg {tg e : Expr} {t : TE} {t2 : TG} {w : PX} {g : PG'} {ts : List Nat} {pos : Pos} (he : XE X e t w) (hg : XG X tg t2 g ts) (hs : swapsWithSole [tg] e pos.line X.env = pure false := by rfl) (hw : swappedStores [tg] e X.env = pure none := by rfl)
    (h1 : (assignEach [tg] X.env).map (·.2) = [assign tg X.env] := by rfl) : XS X (.Assign [tg] e pos) (tAsg t t2) (wAsg w g) := by
  obtain ⟨p, g1⟩ := he
  obtain ⟨p2, g2⟩ := hg
  refine ⟨ps_asg p p2 hs hw h1, fun C hK n f Γ σ H D Φ off nb R w F => g1 C hK n f Γ σ H _ _ off R w ?_⟩
  rintro r x Γ1 H1 ⟨d, Γ2, hz, φ⟩ R1
  have R2 := R1.frzR off hz
  have a := Ac.tr (Tr.drop off) _ R2.heldV
  exact g2 C hK n f Γ2 σ H1 x d _ _ off nb (R2.drop off) a φ fun Γ3 σ3 H3 φ3 R3 _ _ => F.nx _ _ _ φ3 R3

/-! ### what a for walks -/
abbrev PI' := Env → (List PyData → Env → Prop) → Prop
def Grow (H H' : Hp) : Prop := H' = H ∨ ∃ p o, H p = none ∧ H' = upd H p o
structure ItOk (C : Cc) (Hd : Fr → Prop) (G : Env → Prop) (J : It) (ds : List PyData) : Prop where
  go : ∀ (g : Fr) (Γ : Env) (σ : SS) (H : Hp) (i : Nat), Hd g → G Γ → Rel C g Γ σ H → i < ds.length → J.go i H
  stop : ∀ (g : Fr) (Γ : Env) (σ : SS) (H : Hp) (i : Nat), Hd g → G Γ → Rel C g Γ σ H → ds.length ≤ i → J.stop i H
  yld : ∀ (g : Fr) (Γ : Env) (σ : SS) (H : Hp) (i : Nat) (d : PyData) (x : V) (H' : Hp), Hd g → G Γ → Rel C g Γ σ H → ds[i]? = some d → J.yld i H x H' → Grow H H' ∧ Ac C.K (WE C (ent g Γ σ)) H' x d
def DI (C : Cc) (t : TI) (w : PI') : Prop := ∀ (n : Nat) (f : Fr) (Γ : Env) (σ : SS) (H : Hp) (R : It → Hp → Prop) (Φ : List PyData → Env → Prop), Off f n → Rel C f Γ σ H → w Γ Φ →
  (∀ ds J Γ' H' n' f' (Hd : Fr → Prop), Φ ds Γ' → n ≤ n' → Off f' n' → (∀ m, m < n → f' m = f m) → (∀ m i x, n ≤ m → f' m ≠ some (.bor i, x)) → Rel C f' Γ' σ H' → Hd f' → (∀ g g', (∀ m, n ≤ m → m < n' → g' m = g m) → Hd g → Hd g') → ItOk C Hd (fun _ => True) J ds → R J H') → t σ H R
def XI (X : Cx) (tg iter : Expr) (t : TI) (w : PI') : Prop := PI X tg iter t ∧ ∀ C : Cc, Cok C X → DI C t w
theorem Rel.less {C : Cc} {f f' : Fr} {Γ : Env} {σ : SS} {H : Hp} {n : Nat} (R : Rel C f' Γ σ H) (hf : Off f n) (h : ∀ m, m < n → f' m = f m) : Rel C f Γ σ H := by
  refine ⟨R.e.sub fun k o q => ?_, R.len, R.full, R.nb⟩
  · cases k with
    | inr i => exact q
    | inl m =>
      have q' : f m = some o := q
      by_cases hm : m < n
      · show f' m = some o
        rw [h m hm]; exact q'
      · rw [hf m (by omega)] at q'; cases q'
/-- what is held at n' is held at n -/
theorem Rel.down {C : Cc} {f f' : Fr} {Γ : Env} {σ : SS} {H : Hp} {n n' : Nat} {o : Option (D × V)} (R : Rel C (upF f' n' o) Γ σ H) (hf : Off f n) (hn : n ≤ n') (h : ∀ m, m < n → f' m = f m) : Rel C (upF f n o) Γ σ H := by
  refine ⟨?_, R.len, R.full, R.nb⟩
  have keep : ∀ m u, f m = some u → m < n := fun m u q => by
    rcases Nat.lt_or_ge m n with z | z
    · exact z
    · rw [hf m z] at q; cases q
  refine R.e.re (fun k => if k = .inl n then .inl n' else k) (fun k u q => ?_) (fun k j q q' z => ?_)
  · rw [ent_up] at q
    by_cases e : k = .inl n
    · subst e
      rw [upE_same] at q
      rw [if_pos rfl, ent_up, upE_same]; exact q
    · rw [upE_ne e] at q
      rw [if_neg e, ent_up]
      cases k with
      | inr i => rw [upE_ne (fun z => by cases z)]; exact q
      | inl m =>
        have lt := keep m u q
        rw [upE_ne (fun z => by cases z; omega)]
        show f' m = some u
        rw [h m lt]; exact q
  · have low : ∀ k, k ≠ .inl n → (ent (upF f n o) Γ σ k).isSome = true → k ≠ .inl n' := by
      intro k e q z
      rw [ent_up, upE_ne e] at q
      subst z
      have : (f n').isSome = true := q
      rw [hf n' hn] at this; cases this
    by_cases e : k = .inl n
    · by_cases e' : j = .inl n
      · rw [e, e']
      · rw [if_pos e, if_neg e'] at z
        exact absurd z.symm (low j e' q')
    · by_cases e' : j = .inl n
      · rw [if_neg e, if_pos e'] at z
        exact absurd z (low k e q)
      · rwa [if_neg e, if_neg e'] at z
theorem Rel.grow {C : Cc} {f : Fr} {Γ : Env} {σ : SS} {H H' : Hp} (R : Rel C f Γ σ H) (g : Grow H H') : Rel C f Γ σ H' := by
  rcases g with rfl | ⟨p, o, hp, rfl⟩
  · exact R
  · exact R.alloc hp
/-! ### for -/
def loopW (g : PG') (b : PXS) : List PyData → PXS
  | [], Γ, Φ => Φ.nx Γ
  | d :: ds, Γ, Φ => g d Γ fun Γ1 => b Γ1 { nx := fun Γ2 => loopW g b ds Γ2 Φ, rt := Φ.rt, bk := Φ.nx, ct := fun Γ2 => loopW g b ds Γ2 Φ }
def wFor (wi : PI') (g : PG') (b : PXS) : PXS := fun Γ Φ => wi Γ fun ds Γ1 => loopW g b ds Γ1 Φ
theorem xs_for {iter tg : Expr} {body : List Stmt} {t1 : TI} {t2 : TG} {t3 : TS} {wi : PI'} {g : PG'} {b : PXS} {ts : List Nat} {pos : Pos} (hp : PassesOwn (model X.prog X.w) X.A X.env X.xe) (hc : X.calm = true) (hi : XI X tg iter t1 wi) (hg : XG X tg t2 g ts) (hb : XSs X body t3 b)
    (hs : ∀ x, foldedSetIterable iter X.env x = pure x := by intro _; rfl) : XS X (.For tg iter body [] pos) (tFor t1 t2 t3) (wFor wi g b) := by
  obtain ⟨p1, g1⟩ := hi
  obtain ⟨p2, g2⟩ := hg
  obtain ⟨p3, g3⟩ := hb
  refine ⟨ps_for hp hc p1 p2 p3 hs, fun C hK n f Γ σ H D Φ off nb R w F => g1 C hK n f Γ σ H _ _ off R w ?_⟩
  intro ds J Γ1 H1 n' f' Hd φ hn off' low nbh R1 hd hst ok
  have nb' : NoBor f' := fun m i x => by
    by_cases hm : m < n
    · rw [low m hm]; exact nb m i x
    · exact nbh m i x (by omega)
  refine ⟨fun i m σ2 H2 => m = ds.length - i ∧ i ≤ ds.length ∧ ∃ Γ2, Rel C f' Γ2 σ2 H2 ∧ loopW g b (ds.drop i) Γ2 Φ, ⟨_, rfl, Nat.zero_le _, Γ1, R1, by simpa using φ⟩, ?_⟩
  rintro i m σ2 H2 ⟨rfl, hi, Γ2, R2, φ2⟩
  rcases Nat.lt_or_ge i ds.length with lt | ge
  · have hd' : ds[i]? = some ds[i] := List.getElem?_eq_getElem lt
    rw [List.drop_eq_getElem_cons lt] at φ2
    refine .inr ⟨ok.go f' Γ2 σ2 H2 i hd trivial R2 lt, fun σ3 H3 => ∃ Γ3, Rel C f' Γ3 σ3 H3 ∧ loopW g b (ds.drop (i + 1)) Γ3 Φ, fun σ3 H3 z => ⟨ds.length - (i + 1), by omega, rfl, lt, z⟩, fun x H3 y => ?_⟩
    obtain ⟨gr, a⟩ := ok.yld f' Γ2 σ2 H2 i _ x H3 hd trivial R2 hd' y
    have R3 := R2.grow gr
    refine g2 C hK n' f' Γ2 σ2 H3 x _ _ _ off' nb' R3 a φ2 ?_
    intro Γ4 σ4 H4 φ4 R4 _ _
    exact g3 C hK n' f' Γ4 σ4 H4 _ _ off' nb' R4 φ4 ⟨fun Γ5 σ5 H5 z R5 => ⟨Γ5, R5, z⟩, fun r x Γ5 σ5 H5 z R5 => F.rt r x Γ5 σ5 H5 z (R5.down off hn low), fun Γ5 σ5 H5 z R5 => F.nx _ _ _ z (R5.less off low), fun Γ5 σ5 H5 z R5 => ⟨Γ5, R5, z⟩⟩
  · refine .inl ⟨ok.stop f' Γ2 σ2 H2 i hd trivial R2 ge, ?_⟩
    rw [List.drop_eq_nil_of_le ge] at φ2
    exact F.nx _ _ _ φ2 (R2.less off low)
/-- while, by a word and a measure -/
def wWhile (c : PXT) (b : PXS) : PXS := fun Γ Φ => ∃ I : Nat → Env → Prop, (∃ m, I m Γ) ∧ ∀ m Γ1, I m Γ1 → c Γ1 fun k Γ2 => (k = true → b Γ2 { nx := fun Γ3 => ∃ m', m' < m ∧ I m' Γ3, rt := Φ.rt, bk := Φ.nx, ct := fun Γ3 => ∃ m', m' < m ∧ I m' Γ3 }) ∧ (k = false → Φ.nx Γ2)
theorem xs_while {c : Expr} {body : List Stmt} {t1 : TT} {t2 : TS} {wc : PXT} {b : PXS} {pos : Pos} (hp : PassesOwn (model X.prog X.w) X.A X.env X.xe) (hc : XT X c t1 wc) (hb : XSs X body t2 b) : XS X (.While c body [] pos) (tWhile t1 t2) (wWhile wc b) := by
  obtain ⟨p1, g1⟩ := hc
  obtain ⟨p2, g2⟩ := hb
  refine ⟨ps_while hp p1 p2, fun C hK n f Γ σ H D Φ off nb R w F => ?_⟩
  obtain ⟨I, ⟨m0, i0⟩, turn⟩ := w
  refine ⟨fun m σ1 H1 => ∃ Γ1, Rel C f Γ1 σ1 H1 ∧ I m Γ1, ⟨m0, Γ, R, i0⟩, ?_⟩
  rintro m σ1 H1 ⟨Γ1, R1, i1⟩
  refine g1 C hK n f Γ1 σ1 H1 _ _ off R1 (turn m Γ1 i1) ?_
  rintro k Γ2 H2 ⟨φ1, φ2⟩ R2
  cases k with
  | true =>
    rw [if_pos rfl]
    refine ⟨fun σ3 H3 => ∃ Γ3, Rel C f Γ3 σ3 H3 ∧ ∃ m', m' < m ∧ I m' Γ3, fun σ3 H3 ⟨Γ3, R3, m', lt, i3⟩ => ⟨m', lt, Γ3, R3, i3⟩, ?_⟩
    exact g2 C hK n f Γ2 σ1 H2 _ _ off nb R2 (φ1 rfl) ⟨fun Γ3 σ3 H3 z R3 => ⟨Γ3, R3, z⟩, F.rt, F.nx, fun Γ3 σ3 H3 z R3 => ⟨Γ3, R3, z⟩⟩
  | false =>
    rw [if_neg (by decide)]
    exact F.nx _ _ _ (φ2 rfl) R2
end
end Px
end

/-! Px6 -/
section
set_option Elab.async false
set_option linter.all false
set_option maxRecDepth 100000
set_option maxHeartbeats 2000000
set_option autoImplicit false
namespace Px
open PySem PySem.Spec PyProof.Rows L2 Dh

/-! ### iterators over what is held -/
section
variable {C : Cc} {Hd : Fr → Prop} {G : Env → Prop} [IK]
theorem AcL.get {K : PySem.W.Frag} {W : AS} {H : Hp} {xs : List V} {ds : List PyData} (h : AcL K W H xs ds) {i : Nat} {d : PyData} (e : ds[i]? = some d) : ∃ v, xs[i]? = some v ∧ Ac K W H v d := h.at e
theorem itok_list {a : Addr} {ds : List PyData} (h : ∀ g Γ σ H, Hd g → G Γ → Rel C g Γ σ H → ∃ xs, SqL C.K H a xs ∧ AcL C.K (WE C (ent g Γ σ)) H xs ds) : ItOk C Hd G (Itl C.K a) ds where
  go g Γ σ H i hg hG R lt := by
    obtain ⟨xs, hq, ha⟩ := h g Γ σ H hg hG R
    obtain ⟨v, hv, _⟩ := ha.at (List.getElem?_eq_getElem lt)
    exact ⟨xs, v, hq, hv⟩
  stop g Γ σ H i hg hG R ge := by
    obtain ⟨xs, hq, ha⟩ := h g Γ σ H hg hG R
    exact ⟨xs, hq, by rw [ha.len]; exact ge⟩
  yld g Γ σ H i d x H' hg hG R hd y := by
    obtain ⟨xs, hq, ha⟩ := h g Γ σ H hg hG R
    obtain ⟨v, hv, hd⟩ := ha.at hd
    obtain ⟨rfl, y⟩ := y
    have := y xs hq
    rw [hv] at this; cases this
    exact ⟨.inl rfl, hd⟩
theorem itok_tup {a : Addr} {ds : List PyData} (h : ∀ g Γ σ H, Hd g → G Γ → Rel C g Γ σ H → ∃ xs, SqT C.K H a xs ∧ AcL C.K (WE C (ent g Γ σ)) H xs ds) : ItOk C Hd G (Itt C.K a) ds where
  go g Γ σ H i hg hG R lt := by
    obtain ⟨xs, hq, ha⟩ := h g Γ σ H hg hG R
    obtain ⟨v, hv, _⟩ := ha.at (List.getElem?_eq_getElem lt)
    exact ⟨xs, v, hq, hv⟩
  stop g Γ σ H i hg hG R ge := by
    obtain ⟨xs, hq, ha⟩ := h g Γ σ H hg hG R
    exact ⟨xs, hq, by rw [ha.len]; exact ge⟩
  yld g Γ σ H i d x H' hg hG R hd y := by
    obtain ⟨xs, hq, ha⟩ := h g Γ σ H hg hG R
    obtain ⟨v, hv, hd⟩ := ha.at hd
    obtain ⟨rfl, y⟩ := y
    have := y xs hq
    rw [hv] at this; cases this
    exact ⟨.inl rfl, hd⟩
def rangeD (lo : Int) (n : Nat) : List PyData := (List.range n).map fun (i : Nat) => .int (lo + i)
theorem rangeD_len (lo : Int) (n : Nat) : (rangeD lo n).length = n := by unfold rangeD; rw [List.length_map, List.length_range]
theorem itok_range {lo : Int} {n : Nat} : ItOk C Hd G (Itr lo n) (rangeD lo n) where
  go g Γ σ H i hg hG R lt := by rw [rangeD_len] at lt; exact lt
  stop g Γ σ H i hg hG R ge := by rw [rangeD_len] at ge; exact ge
  yld g Γ σ H i d x H' hg hG R hd y := by
    obtain ⟨rfl, rfl⟩ := y
    unfold rangeD at hd
    rw [List.getElem?_map] at hd
    cases e : (List.range n)[i]? with
    | none => rw [e] at hd; cases hd
    | some j =>
      rw [e] at hd
      have : j = i := by
        have := List.getElem?_eq_some_iff.mp e
        obtain ⟨h1, h2⟩ := this
        rw [List.getElem_range] at h2; exact h2.symm
      subst this
      cases hd
      exact ⟨.inl rfl, .int _⟩
def enumFrom : Nat → List PyData → List PyData
  | _, [] => []
  | i, d :: ds => .tuple [.int (i : Int), d] :: enumFrom (i + 1) ds
theorem enum_len : ∀ (i : Nat) (ds : List PyData), (enumFrom i ds).length = ds.length
  | _, [] => rfl
  | i, d :: ds => by simp [enumFrom, enum_len]
theorem enum_get : ∀ (ds : List PyData) (j i : Nat), (enumFrom j ds)[i]? = ds[i]?.map fun d => .tuple [.int ((j + i : Nat) : Int), d]
  | [], _, _ => by simp [enumFrom]
  | d :: ds, j, 0 => by simp [enumFrom]
  | d :: ds, j, i + 1 => by
    simp only [enumFrom, List.getElem?_cons_succ]
    rw [enum_get ds (j + 1) i]
    have : j + 1 + i = j + (i + 1) := by omega
    rw [this]
theorem itok_enum {a : Addr} {ds : List PyData} (h : ∀ g Γ σ H, Hd g → G Γ → Rel C g Γ σ H → ∃ xs, SqL C.K H a xs ∧ AcL C.K (WE C (ent g Γ σ)) H xs ds) : ItOk C Hd G (Ite C.K a) (enumFrom 0 ds) where
  go g Γ σ H i hg hG R lt := by
    obtain ⟨xs, hq, ha⟩ := h g Γ σ H hg hG R
    rw [enum_len] at lt
    obtain ⟨v, hv, _⟩ := ha.at (List.getElem?_eq_getElem lt)
    exact ⟨xs, v, hq, hv⟩
  stop g Γ σ H i hg hG R ge := by
    obtain ⟨xs, hq, ha⟩ := h g Γ σ H hg hG R
    rw [enum_len] at ge
    exact ⟨xs, hq, by rw [ha.len]; exact ge⟩
  yld g Γ σ H i d x H' hg hG R hd y := by
    obtain ⟨xs, hq, ha⟩ := h g Γ σ H hg hG R
    rw [enum_get] at hd
    obtain ⟨T, z, rfl, hT, rfl, y⟩ := y
    cases e : ds[i]? with
    | none => rw [e] at hd; cases hd
    | some d0 =>
      rw [e] at hd; cases hd
      obtain ⟨v, hv, hd⟩ := ha.at e
      have := y xs hq
      rw [hv] at this; cases this
      refine ⟨.inr ⟨_, _, hT, rfl⟩, .tup upd_same (R.e.fresh hT).1 (.cons ?_ (.cons (Ac.tr (Tr.new hT) _ hd) .nil))⟩
      rw [Nat.zero_add]
      exact .int _
def zipD : List PyData → List PyData → List PyData
  | d :: ds, e :: es => .tuple [d, e] :: zipD ds es
  | _, _ => []
theorem zip_get : ∀ (ds es : List PyData) (i : Nat), (zipD ds es)[i]? = (ds[i]?).bind fun d => (es[i]?).map fun e => .tuple [d, e]
  | [], _, i => by simp [zipD]
  | d :: ds, [], i => by
    cases i with
    | zero => simp [zipD]
    | succ i => simp [zipD]
  | d :: ds, e :: es, 0 => by simp [zipD]
  | d :: ds, e :: es, i + 1 => by
    simp only [zipD, List.getElem?_cons_succ]
    exact zip_get ds es i
theorem zip_len : ∀ (ds es : List PyData), (zipD ds es).length = min ds.length es.length
  | [], _ => by simp [zipD]
  | d :: ds, [] => by simp [zipD]
  | d :: ds, e :: es => by simp [zipD, zip_len ds es]
theorem itok_zipT {a b : Addr} {ds es : List PyData} (h : ∀ g Γ σ H, Hd g → G Γ → Rel C g Γ σ H → (∃ xs, SqT C.K H a xs ∧ AcL C.K (WE C (ent g Γ σ)) H xs ds) ∧ ∃ xs, SqT C.K H b xs ∧ AcL C.K (WE C (ent g Γ σ)) H xs es) : ItOk C Hd G (RZ.ItzT C.K a b) (zipD ds es) where
  go g Γ σ H i hg hG R lt := by
    obtain ⟨⟨xs, hq, ha⟩, ys, hr, hb⟩ := h g Γ σ H hg hG R
    rw [zip_len] at lt
    obtain ⟨v, hv, _⟩ := ha.at (i := i) (List.getElem?_eq_getElem (by omega))
    obtain ⟨u, hu, _⟩ := hb.at (i := i) (List.getElem?_eq_getElem (by omega))
    exact ⟨xs, ys, v, u, hq, hr, hv, hu⟩
  stop g Γ σ H i hg hG R ge := by
    obtain ⟨⟨xs, hq, ha⟩, ys, hr, hb⟩ := h g Γ σ H hg hG R
    rw [zip_len] at ge
    refine ⟨xs, ys, hq, hr, ?_⟩
    rw [ha.len, hb.len]; omega
  yld g Γ σ H i d x H' hg hG R hd y := by
    obtain ⟨⟨xs, hq, ha⟩, ys, hr, hb⟩ := h g Γ σ H hg hG R
    rw [zip_get] at hd
    obtain ⟨T, z, z2, rfl, hT, rfl, y, y2⟩ := y
    cases e : ds[i]? with
    | none => rw [e] at hd; cases hd
    | some d0 =>
      cases e2 : es[i]? with
      | none => rw [e, e2] at hd; cases hd
      | some d1 =>
        rw [e, e2] at hd; cases hd
        obtain ⟨v, hv, h1⟩ := ha.at e
        obtain ⟨u, hu, h2⟩ := hb.at e2
        have := y xs hq
        rw [hv] at this; cases this
        have := y2 ys hr
        rw [hu] at this; cases this
        exact ⟨.inr ⟨_, _, hT, rfl⟩, .tup upd_same (R.e.fresh hT).1 (.cons (Ac.tr (Tr.new hT) _ h1) (.cons (Ac.tr (Tr.new hT) _ h2) .nil))⟩
theorem itok_zipL {a b : Addr} {ds es : List PyData} (h : ∀ g Γ σ H, Hd g → G Γ → Rel C g Γ σ H → (∃ xs, SqL C.K H a xs ∧ AcL C.K (WE C (ent g Γ σ)) H xs ds) ∧ ∃ xs, SqL C.K H b xs ∧ AcL C.K (WE C (ent g Γ σ)) H xs es) : ItOk C Hd G (Itz C.K a b) (zipD ds es) where
  go g Γ σ H i hg hG R lt := by
    obtain ⟨⟨xs, hq, ha⟩, ys, hr, hb⟩ := h g Γ σ H hg hG R
    rw [zip_len] at lt
    obtain ⟨v, hv, _⟩ := ha.at (i := i) (List.getElem?_eq_getElem (by omega))
    obtain ⟨u, hu, _⟩ := hb.at (i := i) (List.getElem?_eq_getElem (by omega))
    exact ⟨xs, ys, v, u, hq, hr, hv, hu⟩
  stop g Γ σ H i hg hG R ge := by
    obtain ⟨⟨xs, hq, ha⟩, ys, hr, hb⟩ := h g Γ σ H hg hG R
    rw [zip_len] at ge
    refine ⟨xs, ys, hq, hr, ?_⟩
    rw [ha.len, hb.len]; omega
  yld g Γ σ H i d x H' hg hG R hd y := by
    obtain ⟨⟨xs, hq, ha⟩, ys, hr, hb⟩ := h g Γ σ H hg hG R
    rw [zip_get] at hd
    obtain ⟨T, z, z2, rfl, hT, rfl, y, y2⟩ := y
    cases e : ds[i]? with
    | none => rw [e] at hd; cases hd
    | some d0 =>
      cases e2 : es[i]? with
      | none => rw [e, e2] at hd; cases hd
      | some d1 =>
        rw [e, e2] at hd; cases hd
        obtain ⟨v, hv, h1⟩ := ha.at e
        obtain ⟨u, hu, h2⟩ := hb.at e2
        have := y xs hq
        rw [hv] at this; cases this
        have := y2 ys hr
        rw [hu] at this; cases this
        exact ⟨.inr ⟨_, _, hT, rfl⟩, .tup upd_same (R.e.fresh hT).1 (.cons (Ac.tr (Tr.new hT) _ h1) (.cons (Ac.tr (Tr.new hT) _ h2) .nil))⟩
end
def strD (z : Str) : List PyData := z.cps.toList.map fun c => .str ⟨#[c]⟩
theorem itok_str [IK] {C : Cc} {Hd : Fr → Prop} {G : Env → Prop} {z : Str} : ItOk C Hd G (Its z) (strD z) where
  go g Γ σ H i hg hG R lt := by
    unfold strD at lt; rw [List.length_map, Array.length_toList] at lt; exact lt
  stop g Γ σ H i hg hG R ge := by
    unfold strD at ge; rw [List.length_map, Array.length_toList] at ge; exact ge
  yld g Γ σ H i d x H' hg hG R hd y := by
    obtain ⟨rfl, c, hc, rfl⟩ := y
    unfold strD at hd
    rw [List.getElem?_map] at hd
    have e : z.cps.toList[i]? = some c := by simpa using hc
    rw [e] at hd; cases hd
    exact ⟨.inl rfl, .str _⟩
/-- what is held at n, of that value, is read at any time -/
theorem held_rv [IK] {C : Cc} {n : Nat} {r : D} {x : V} {d : PyData} {g : Fr} {Γ : Env} {σ : SS} {H : Hp} (hg : g n = some (r, x)) (R : Rel C g Γ σ H) (hr : res Γ r = some d) : Rv C.K (WE C (ent g Γ σ)) H x d :=
  R.rv (k := .inl n) hg hr
section
variable {X : Cx} [IK]
/-! ### for over what becomes data -/
def wItS (k : List PyData → PyData) (w : PX) : PI' := fun Γ Φ => w Γ fun r Γ1 => ∃ ds Γ2, frz Γ1 r = some (k ds, Γ2) ∧ Φ ds Γ2
theorem held_nb {f : Fr} {n : Nat} {d : PyData} {x : V} (hf : Off f n) : ∀ m (i : Nat) (y : V), n ≤ m → upF f n (some (.v d, x)) m ≠ some (.bor i, y) := by
  intro m i y hm
  unfold upF
  split
  · intro z; cases z
  · rw [hf m hm]; intro z; cases z
theorem upF_low {f : Fr} {n : Nat} {o : Option (D × V)} : ∀ m, m < n → upF f n o m = f m := fun m hm => by unfold upF; rw [if_neg (by omega)]
theorem xi_listS {tg e : Expr} {t : TE} {w : PX} (h : XE X e t w) : XI X tg e (iList X.K t) (wItS .list w) := by
  obtain ⟨p, g⟩ := h
  refine ⟨pi_list p, fun C hK n f Γ σ H R Φ off Re w k => g C hK n f Γ σ H _ _ off Re w ?_⟩
  rintro r x Γ1 H1 ⟨ds, Γ2, hz, φ⟩ R1
  have R2 := R1.frzR off hz
  obtain ⟨a, xs, rfl, hq, _⟩ := (R2.rv (k := .inl n) (r := .v (.list ds)) ent_held rfl).lst
  refine ⟨a, rfl, ⟨xs, by rw [← hK.k]; exact hq⟩, ?_⟩
  rw [← hK.k]
  refine k ds _ _ _ (n + 1) _ (fun g => g n = some (.v (.list ds), .ref a)) φ (by omega) off.up upF_low (held_nb off) R2 upF_same (fun g g' e z => by rw [e n (Nat.le_refl _) (by omega)]; exact z) ?_
  refine itok_list fun g Γ3 σ3 H3 hg _ R3 => ?_
  obtain ⟨a', xs', e, hq', ha'⟩ := (held_rv hg R3 (d := .list ds) rfl).lst
  cases e
  exact ⟨xs', hq', ha'⟩
theorem xi_tupS {tg e : Expr} {t : TE} {w : PX} (h : XE X e t w) : XI X tg e (iTup X.K t) (wItS .tuple w) := by
  obtain ⟨p, g⟩ := h
  refine ⟨pi_tup p, fun C hK n f Γ σ H R Φ off Re w k => g C hK n f Γ σ H _ _ off Re w ?_⟩
  rintro r x Γ1 H1 ⟨ds, Γ2, hz, φ⟩ R1
  have R2 := R1.frzR off hz
  obtain ⟨a, xs, rfl, hq, _⟩ := (R2.rv (k := .inl n) (r := .v (.tuple ds)) ent_held rfl).tup
  refine ⟨a, rfl, ⟨xs, by rw [← hK.k]; exact hq⟩, ?_⟩
  rw [← hK.k]
  refine k ds _ _ _ (n + 1) _ (fun g => g n = some (.v (.tuple ds), .ref a)) φ (by omega) off.up upF_low (held_nb off) R2 upF_same (fun g g' e z => by rw [e n (Nat.le_refl _) (by omega)]; exact z) ?_
  refine itok_tup fun g Γ3 σ3 H3 hg _ R3 => ?_
  obtain ⟨a', xs', e, hq', ha'⟩ := (held_rv hg R3 (d := .tuple ds) rfl).tup
  cases e
  exact ⟨xs', hq', ha'⟩
def wItR1 (wA : PXR) : PI' := fun Γ Φ => wA Γ fun ds Γ1 => ∃ j : Int, ds = [.int j] ∧ -(2 ^ 62) ≤ j ∧ j < 2 ^ 62 ∧ Φ (rangeD 0 j.toNat) Γ1
def wItR2 (wA : PXR) : PI' := fun Γ Φ => wA Γ fun ds Γ1 => ∃ i j : Int, ds = [.int i, .int j] ∧ (-(2 ^ 62) ≤ i ∧ i < 2 ^ 62 ∧ -(2 ^ 62) ≤ j ∧ j < 2 ^ 62) ∧ Φ (rangeD i (j - i).toNat) Γ1
theorem RvL.one {K : PySem.W.Frag} {W : AS} {H : Hp} {xs : List V} {d : PyData} (h : RvL K W H xs [d]) : ∃ x, xs = [x] ∧ Rv K W H x d := by
  cases h with
  | cons a b => cases b; exact ⟨_, rfl, a⟩
theorem RvL.two {K : PySem.W.Frag} {W : AS} {H : Hp} {xs : List V} {d e : PyData} (h : RvL K W H xs [d, e]) : ∃ x y, xs = [x, y] ∧ Rv K W H x d ∧ Rv K W H y e := by
  cases h with
  | cons a b =>
    obtain ⟨y, rfl, b'⟩ := b.one
    exact ⟨_, y, rfl, a, b'⟩
theorem xi_range1S {tg a : Expr} {t : TA} {wA : PXR} {p pos : Pos} (hg : Gl X "range") (hm : X.mg "range" = none) (h : XR X [a] t wA) (hs : starEach [a] X.env = [(false, eval a X.env)] := by rfl) : XI X tg (.Call (.Name "range" p) [a] [] pos) (iRng1 t) (wItR1 wA) := by
  obtain ⟨pp, g⟩ := h
  refine ⟨pi_range1 hg hm pp hs, fun C hK n f Γ σ H R Φ off Re w k => g C hK n f Γ σ H _ _ off Re w ?_⟩
  rintro ds xs Γ1 H1 ⟨j, rfl, j1, j2, φ⟩ R1 rv
  obtain ⟨x, rfl, rv'⟩ := rv.one
  rw [rv'.int]
  exact ⟨j, rfl, j1, j2, k _ _ _ _ n f (fun _ => True) φ (Nat.le_refl _) off (fun _ _ => rfl) (fun m i y hm z => by rw [off m hm] at z; cases z) R1 trivial (fun _ _ _ _ => trivial) itok_range⟩
theorem xi_range2S {tg a b : Expr} {t : TA} {wA : PXR} {p pos : Pos} (hg : Gl X "range") (hm : X.mg "range" = none) (h : XR X [a, b] t wA) (hs : starEach [a, b] X.env = [(false, eval a X.env), (false, eval b X.env)] := by rfl) (hs2 : starEach [b] X.env = [(false, eval b X.env)] := by rfl) : XI X tg (.Call (.Name "range" p) [a, b] [] pos) (iRng2 t) (wItR2 wA) := by
  obtain ⟨pp, g⟩ := h
  refine ⟨pi_range2 hg hm pp hs hs2, fun C hK n f Γ σ H R Φ off Re w k => g C hK n f Γ σ H _ _ off Re w ?_⟩
  rintro ds xs Γ1 H1 ⟨i, j, rfl, j1, φ⟩ R1 rv
  obtain ⟨x, y, rfl, rv1, rv2⟩ := rv.two
  rw [rv1.int, rv2.int]
  exact ⟨i, j, rfl, j1, k _ _ _ _ n f (fun _ => True) φ (Nat.le_refl _) off (fun _ _ => rfl) (fun m i y hm z => by rw [off m hm] at z; cases z) R1 trivial (fun _ _ _ _ => trivial) itok_range⟩
/-! ### what a comprehension walks -/
abbrev PIc := Env → (List PyData → (Env → Prop) → Env → Prop) → Prop
def DIc (C : Cc) (t : TI) (w : PIc) : Prop := ∀ (n : Nat) (f : Fr) (Γ : Env) (σ : SS) (H : Hp) (R : It → Hp → Prop) (Φ : List PyData → (Env → Prop) → Env → Prop), Off f n → Rel C f Γ σ H → w Γ Φ →
  (∀ ds G J Γ' H' n' f' (Hd : Fr → Prop), Φ ds G Γ' → n ≤ n' → Off f' n' → (∀ m, m < n → f' m = f m) → Rel C f' Γ' σ H' → Hd f' → (∀ g g', (∀ m, n ≤ m → m < n' → g' m = g m) → Hd g → Hd g') → ItOk C Hd G J ds → R J H') → t σ H R
def XIc (X : Cx) (tg iter : Expr) (t : TI) (w : PIc) : Prop := PI X tg iter t ∧ ∀ C : Cc, Cok C X → DIc C t w
def wIt (k : List PyData → PyData) (w : PX) : PIc := fun Γ Φ => w Γ fun r Γ1 => ∃ ds, res Γ1 (hld r) = some (k ds) ∧ Φ ds (fun Γ2 => res Γ2 (hld r) = some (k ds)) Γ1
theorem xc_list {tg e : Expr} {t : TE} {w : PX} (h : XE X e t w) : XIc X tg e (iList X.K t) (wIt .list w) := by
  obtain ⟨p, g⟩ := h
  refine ⟨pi_list p, fun C hK n f Γ σ H R Φ off Re w k => g C hK n f Γ σ H _ _ off Re w ?_⟩
  rintro r x Γ1 H1 ⟨ds, hz, φ⟩ R1
  have R2 := R1.hld
  obtain ⟨a, xs, rfl, hq, _⟩ := (R2.rv (k := .inl n) ent_held hz).lst
  refine ⟨a, rfl, ⟨xs, by rw [← hK.k]; exact hq⟩, ?_⟩
  rw [← hK.k]
  refine k ds _ _ _ _ (n + 1) _ (fun g => g n = some (hld r, .ref a)) φ (by omega) off.up upF_low R2 upF_same (fun g g' e z => by rw [e n (Nat.le_refl _) (by omega)]; exact z) ?_
  refine itok_list fun g Γ3 σ3 H3 hg hG R3 => ?_
  obtain ⟨a', xs', e, hq', ha'⟩ := (held_rv hg R3 hG).lst
  cases e
  exact ⟨xs', hq', ha'⟩
theorem xc_tup {tg e : Expr} {t : TE} {w : PX} (h : XE X e t w) : XIc X tg e (iTup X.K t) (wIt .tuple w) := by
  obtain ⟨p, g⟩ := h
  refine ⟨pi_tup p, fun C hK n f Γ σ H R Φ off Re w k => g C hK n f Γ σ H _ _ off Re w ?_⟩
  rintro r x Γ1 H1 ⟨ds, hz, φ⟩ R1
  have R2 := R1.hld
  obtain ⟨a, xs, rfl, hq, _⟩ := (R2.rv (k := .inl n) ent_held hz).tup
  refine ⟨a, rfl, ⟨xs, by rw [← hK.k]; exact hq⟩, ?_⟩
  rw [← hK.k]
  refine k ds _ _ _ _ (n + 1) _ (fun g => g n = some (hld r, .ref a)) φ (by omega) off.up upF_low R2 upF_same (fun g g' e z => by rw [e n (Nat.le_refl _) (by omega)]; exact z) ?_
  refine itok_tup fun g Γ3 σ3 H3 hg hG R3 => ?_
  obtain ⟨a', xs', e, hq', ha'⟩ := (held_rv hg R3 hG).tup
  cases e
  exact ⟨xs', hq', ha'⟩
theorem xc_of {tg iter : Expr} {t : TI} {w : PI'} (h : XI X tg iter t w) : XIc X tg iter t (fun Γ Φ => w Γ fun ds Γ1 => Φ ds (fun _ => True) Γ1) := by
  obtain ⟨p, g⟩ := h
  refine ⟨p, fun C hK n f Γ σ H R Φ off Re w k => g C hK n f Γ σ H _ _ off Re w ?_⟩
  intro ds J Γ1 H1 n' f' Hd φ hn off' low _ R1 hd st ok
  exact k ds _ J Γ1 H1 n' f' Hd φ hn off' low R1 hd st ok
theorem xc_str {tg e : Expr} {t : TE} {w : PX} (h : XE X e t w) : XIc X tg e (iStr t) (fun Γ Φ => w Γ fun r Γ1 => ∃ z, res Γ1 r = some (.str z) ∧ Φ (strD z) (fun _ => True) Γ1) := by
  obtain ⟨p, g⟩ := h
  refine ⟨pi_str p, fun C hK n f Γ σ H R Φ off Re w k => g C hK n f Γ σ H _ _ off Re w ?_⟩
  rintro r x Γ1 H1 ⟨z, hz, φ⟩ R1
  have e := (R1.rv (k := .inl n) ent_held hz).str
  refine ⟨z, e, ?_⟩
  exact k _ _ _ _ _ n f (fun _ => True) φ (Nat.le_refl _) off (fun _ _ => rfl) (R1.drop off) trivial (fun _ _ _ _ => trivial) itok_str
def wItE (w : PX) : PIc := fun Γ Φ => w Γ fun r Γ1 => ∃ ds, res Γ1 (hld r) = some (.list ds) ∧ Φ (enumFrom 0 ds) (fun Γ2 => res Γ2 (hld r) = some (.list ds)) Γ1
theorem xc_enum {e : Expr} {t : TE} {w : PX} {p pos tpos : Pos} {elts : List Expr} {kk : Nat} (hg : Gl X "enumerate") (hm : X.mg "enumerate" = none) (h : XE X e t w) (hs : starEach [e] X.env = [(false, eval e X.env)] := by rfl) :
    XIc X (.Tuple elts kk tpos) (.Call (.Name "enumerate" p) [e] [] pos) (iEnum X.K (tCons t tNil)) (wItE w) := by
  obtain ⟨pp, g⟩ := h
  refine ⟨pi_enum hg hm (pa_cons pp pa_nil (hs.trans rfl)) hs, fun C hK n f Γ σ H R Φ off Re w k => g C hK n f Γ σ H _ _ off Re w ?_⟩
  rintro r x Γ1 H1 ⟨ds, hz, φ⟩ R1
  have R2 := R1.hld
  obtain ⟨a, xs, rfl, hq, _⟩ := (R2.rv (k := .inl n) ent_held hz).lst
  refine ⟨a, xs, rfl, by rw [← hK.k]; exact hq, ?_⟩
  rw [← hK.k]
  refine k _ _ _ _ _ (n + 1) _ (fun g => g n = some (hld r, .ref a)) φ (by omega) off.up upF_low R2 upF_same (fun g g' e z => by rw [e n (Nat.le_refl _) (by omega)]; exact z) ?_
  refine itok_enum fun g Γ3 σ3 H3 hg hG R3 => ?_
  obtain ⟨a', xs', e, hq', ha'⟩ := (held_rv hg R3 hG).lst
  cases e
  exact ⟨xs', hq', ha'⟩
def wItZ (k : List PyData → PyData) (w u : PX) : PIc := fun Γ Φ => w Γ fun r Γ1 => u Γ1 fun s Γ2 => ∃ ds es, res Γ2 (hld r) = some (k ds) ∧ res Γ2 (hld s) = some (k es) ∧ Φ (zipD ds es) (fun Γ3 => res Γ3 (hld r) = some (k ds) ∧ res Γ3 (hld s) = some (k es)) Γ2
theorem xc_zipT {e e2 : Expr} {t t2 : TE} {w u : PX} {p pos tpos : Pos} {elts : List Expr} {kk : Nat} (hg : Gl X "zip") (hm : X.mg "zip" = none) (h : XE X e t w) (h2 : XE X e2 t2 u)
    (hs : starEach [e, e2] X.env = (false, eval e X.env) :: starEach [e2] X.env := by rfl) (hs2 : starEach [e2] X.env = (false, eval e2 X.env) :: starEach [] X.env := by rfl) (hpl : (backTo pos (starEach [e2] X.env)).any (·.1) = false := by rfl) :
    XIc X (.Tuple elts kk tpos) (.Call (.Name "zip" p) [e, e2] [] pos) (RZ.iZipA X.K (tCons t (tCons t2 tNil))) (wItZ .tuple w u) := by
  obtain ⟨pp, g⟩ := h
  obtain ⟨pp2, g2⟩ := h2
  refine ⟨RZ.pi_zipA hg hm (pa_cons pp (pa_cons pp2 pa_nil hs2) hs) hs hpl, fun C hK n f Γ σ H R Φ off Re w k => g C hK n f Γ σ H _ _ off Re w ?_⟩
  intro r x Γ1 H1 φ1 R1
  refine g2 C hK (n + 1) _ Γ1 σ H1 _ _ off.up R1.hld φ1 ?_
  rintro s y Γ2 H2 ⟨ds, es, hz, hz2, φ⟩ R2
  have R3 := R2.hld
  have e1 : upF (upF f n (some (hld r, x))) (n + 1) (some (hld s, y)) n = some (hld r, x) := by
    unfold upF; rw [if_neg (by omega), if_pos rfl]
  obtain ⟨a, xs, rfl, hq, _⟩ := (held_rv e1 R3 hz).tup
  obtain ⟨b, ys, rfl, hq2, _⟩ := (R3.rv (k := .inl (n + 1)) ent_held hz2).tup
  refine ⟨a, b, xs, ys, rfl, .inr ⟨by rw [← hK.k]; exact hq, by rw [← hK.k]; exact hq2, ?_⟩⟩
  rw [← hK.k]
  refine k _ _ _ _ _ (n + 2) _ (fun g => g n = some (hld r, .ref a) ∧ g (n + 1) = some (hld s, .ref b)) φ (by omega) off.up.up (fun m hm => by unfold upF; rw [if_neg (by omega), if_neg (by omega)]) R3 ⟨e1, upF_same⟩ (fun g g' e z => ⟨by rw [e n (Nat.le_refl _) (by omega)]; exact z.1, by rw [e (n + 1) (by omega) (by omega)]; exact z.2⟩) ?_
  refine itok_zipT fun g Γ3 σ3 H3 hg hG R3 => ?_
  obtain ⟨a', xs', e, hq', ha'⟩ := (held_rv hg.1 R3 hG.1).tup
  obtain ⟨b', ys', e2, hq2', hb'⟩ := (held_rv hg.2 R3 hG.2).tup
  cases e; cases e2
  exact ⟨⟨xs', hq', ha'⟩, ys', hq2', hb'⟩
theorem xc_zipL {e e2 : Expr} {t t2 : TE} {w u : PX} {p pos tpos : Pos} {elts : List Expr} {kk : Nat} (hg : Gl X "zip") (hm : X.mg "zip" = none) (h : XE X e t w) (h2 : XE X e2 t2 u)
    (hs : starEach [e, e2] X.env = (false, eval e X.env) :: starEach [e2] X.env := by rfl) (hs2 : starEach [e2] X.env = (false, eval e2 X.env) :: starEach [] X.env := by rfl) (hpl : (backTo pos (starEach [e2] X.env)).any (·.1) = false := by rfl) :
    XIc X (.Tuple elts kk tpos) (.Call (.Name "zip" p) [e, e2] [] pos) (RZ.iZipA X.K (tCons t (tCons t2 tNil))) (wItZ .list w u) := by
  obtain ⟨pp, g⟩ := h
  obtain ⟨pp2, g2⟩ := h2
  refine ⟨RZ.pi_zipA hg hm (pa_cons pp (pa_cons pp2 pa_nil hs2) hs) hs hpl, fun C hK n f Γ σ H R Φ off Re w k => g C hK n f Γ σ H _ _ off Re w ?_⟩
  intro r x Γ1 H1 φ1 R1
  refine g2 C hK (n + 1) _ Γ1 σ H1 _ _ off.up R1.hld φ1 ?_
  rintro s y Γ2 H2 ⟨ds, es, hz, hz2, φ⟩ R2
  have R3 := R2.hld
  have e1 : upF (upF f n (some (hld r, x))) (n + 1) (some (hld s, y)) n = some (hld r, x) := by
    unfold upF; rw [if_neg (by omega), if_pos rfl]
  obtain ⟨a, xs, rfl, hq, _⟩ := (held_rv e1 R3 hz).lst
  obtain ⟨b, ys, rfl, hq2, _⟩ := (R3.rv (k := .inl (n + 1)) ent_held hz2).lst
  refine ⟨a, b, xs, ys, rfl, .inl ⟨by rw [← hK.k]; exact hq, by rw [← hK.k]; exact hq2, ?_⟩⟩
  rw [← hK.k]
  refine k _ _ _ _ _ (n + 2) _ (fun g => g n = some (hld r, .ref a) ∧ g (n + 1) = some (hld s, .ref b)) φ (by omega) off.up.up (fun m hm => by unfold upF; rw [if_neg (by omega), if_neg (by omega)]) R3 ⟨e1, upF_same⟩ (fun g g' e z => ⟨by rw [e n (Nat.le_refl _) (by omega)]; exact z.1, by rw [e (n + 1) (by omega) (by omega)]; exact z.2⟩) ?_
  refine itok_zipL fun g Γ3 σ3 H3 hg hG R3 => ?_
  obtain ⟨a', xs', e, hq', ha'⟩ := (held_rv hg.1 R3 hG.1).lst
  obtain ⟨b', ys', e2, hq2', hb'⟩ := (held_rv hg.2 R3 hG.2).lst
  cases e; cases e2
  exact ⟨⟨xs', hq', ha'⟩, ys', hq2', hb'⟩
end
end Px
end

/-! Px7 -/
section
set_option Elab.async false
set_option linter.all false
set_option maxRecDepth 100000
set_option maxHeartbeats 2000000
set_option autoImplicit false
namespace Px
open PySem PySem.Spec PyProof.Rows L2 Dh

/-! ### comprehensions -/
def wipeG (Γ : Env) : List Nat → Env
  | [] => Γ
  | v :: vs => (wipeG Γ vs).set v none
def hide (f : Fr) : Fr := fun m => match f m with
  | some (.bor _, _) => none
  | o => o
section
variable {C : Cc} {f f' : Fr} {Γ Γ' : Env} {σ σ' : SS} {H H' : Hp} {n n' : Nat}
theorem hide_nb (f : Fr) : NoBor (hide f) := by
  intro m i x h
  unfold hide at h
  split at h
  · cases h
  · rename_i o hno
    exact hno _ _ h
theorem hide_some {m : Nat} {o : D × V} (h : hide f m = some o) : f m = some o := by
  unfold hide at h
  split at h
  · cases h
  · exact h
theorem hide_keep {m : Nat} {d : D} {x : V} (hd : ∀ i, d ≠ .bor i) (h : f m = some (d, x)) : hide f m = some (d, x) := by
  unfold hide
  split
  · rename_i i y hb
    rw [h] at hb
    exact absurd (Prod.mk.inj (Option.some.inj hb)).1 (hd i)
  · exact h
theorem hide_off (h : Off f n) : Off (hide f) n := fun m hm => by
  unfold hide; rw [h m hm]
theorem Rel.hide (R : Rel C f Γ σ H) : Rel C (hide f) Γ σ H :=
  ⟨R.e.sub fun k o q => by
    cases k with
    | inl m => exact hide_some q
    | inr i => exact q, R.len, R.full, R.nb⟩
theorem Rel.wipes (R : Rel C f Γ σ H) (nb : NoBor f) : ∀ vs : List Nat, Rel C f (wipeG Γ vs) (L2.wipe σ vs) H
  | [] => R
  | v :: vs => (Rel.wipes R nb vs).wipe nb v
theorem wipeG_out {i : Nat} : ∀ {vs : List Nat}, i ∉ vs → (wipeG Γ vs)[i]? = Γ[i]?
  | [], _ => rfl
  | v :: vs, h => by
    have h1 : v ≠ i := fun e => h (by rw [e]; exact List.mem_cons_self)
    have h2 : i ∉ vs := fun e => h (List.mem_cons_of_mem _ e)
    show ((wipeG Γ vs).set v none)[i]? = _
    rw [List.getElem?_set_ne h1, wipeG_out h2]
theorem wipeG_len : ∀ {vs : List Nat}, (wipeG Γ vs).length = Γ.length
  | [] => rfl
  | v :: vs => by
    show ((wipeG Γ vs).set v none).length = _
    rw [List.length_set, wipeG_len]
theorem wipeG_some {i : Nat} {d : D} : ∀ {vs : List Nat}, (wipeG Γ vs)[i]? = some (some d) → Γ[i]? = some (some d) ∧ i ∉ vs
  | [], h => ⟨h, by simp⟩
  | v :: vs, h => by
    have h' : ((wipeG Γ vs).set v none)[i]? = some (some d) := h
    by_cases e : v = i
    · subst e
      by_cases hl : v < (wipeG Γ vs).length
      · rw [List.getElem?_set_self hl] at h'; cases h'
      · rw [List.getElem?_eq_none (by simpa using hl)] at h'; cases h'
    · rw [List.getElem?_set_ne e] at h'
      obtain ⟨a, b⟩ := wipeG_some h'
      exact ⟨a, fun z => by
        rcases List.mem_cons.mp z with z | z
        · exact e z.symm
        · exact b z⟩
theorem out_same {vs : List Nat} (hw : L2.wipe σ' vs = L2.wipe σ vs) {i : Nat} (hi : i ∉ vs) : σ'[i]? = σ[i]? := by
  rw [← wipe_out (σ := σ') hi, hw, wipe_out hi]
/-- names of slots' values come to what is held -/
theorem RelE.bors {e e' : Ent} (R : RelE C e σ H) (h : ∀ k d x, e' k = some (d, x) → e k = some (d, x) ∨ ∃ i, d = .bor i ∧ σ[i]? = some (some x)) : RelE C e' σ H := by
  have own : ∀ k d a, e' k = some (.own d, .ref a) → e k = some (.own d, .ref a) := by
    intro k d a q
    rcases h _ _ _ q with z | ⟨i, z, _⟩
    · exact z
    · cases z
  have w : ∀ a, WE C e' a → WE C e a := by
    rintro a (z | ⟨k, d, z⟩)
    · exact .inl z
    · exact .inr ⟨_, _, own _ _ _ z⟩
  refine ⟨fun k d x q => ?_, fun _ _ _ _ _ q q' => R.inj _ _ _ _ _ (own _ _ _ q) (own _ _ _ q'), fun _ _ _ q => R.ap _ _ _ (own _ _ _ q), R.kp, R.tr, R.uM, R.dk⟩
  rcases h _ _ _ q with z | ⟨i, rfl, z⟩
  · exact (R.ok _ _ _ z).tr (Tr.less w) (fun _ _ => rfl) (fun _ z => z) (fun _ _ z => z)
  · exact .bor z
/-- behind a turn of a comprehension: its names are gone, the slots are what they were -/
theorem Rel.unhide {vs : List Nat} (R : Rel C (Px.hide f) Γ σ' H) (R0 : Rel C f' Γ' σ H') (hb : ∀ m i x, f m = some (.bor i, x) → f' m = some (.bor i, x)) (hw : L2.wipe σ' vs = L2.wipe σ vs) : Rel C f (wipeG Γ vs) σ H := by
  have hlen : σ'.length = σ.length := by
    have := congrArg List.length hw
    rwa [wipe_length, wipe_length] at this
  refine ⟨?_, by rw [wipeG_len, ← hlen]; exact R.len, fun i d h => ?_, fun i j h => R.nb i j (wipeG_some h).1⟩
  · have R1 : RelE C (fun k => match k with
        | .inl m => Px.hide f m
        | .inr i => slotE (wipeG Γ vs)[i]? σ'[i]?) σ H := by
      refine RelE.sig (σ := σ') (R.e.sub fun k o q => ?_) fun k i x q => ?_
      · cases k with
        | inl m => exact q
        | inr i =>
          obtain ⟨d, x⟩ := o
          obtain ⟨q1, q2⟩ := slotE_some q
          show slotE Γ[i]? σ'[i]? = _
          rw [(wipeG_some q1).1, q2]; rfl
      · cases k with
        | inl m => exact hide_nb f m i x q
        | inr m => exact R.nb m i (wipeG_some (slotE_some q).1).1
    refine R1.bors fun k d x q => ?_
    cases k with
    | inr i =>
      obtain ⟨q1, q2⟩ := slotE_some q
      refine .inl ?_
      show slotE (wipeG Γ vs)[i]? σ'[i]? = _
      rw [q1, out_same hw (wipeG_some q1).2, q2]; rfl
    | inl m =>
      have q' : f m = some (d, x) := q
      by_cases hd : ∃ i, d = .bor i
      · obtain ⟨i, rfl⟩ := hd
        refine .inr ⟨i, rfl, ?_⟩
        cases R0.e.ok (.inl m) _ _ (hb m i x q') with
        | bor z => exact z
      · exact .inl (hide_keep (fun i z => hd ⟨i, z⟩) q')
  · obtain ⟨h1, h2⟩ := wipeG_some h
    obtain ⟨x, hx⟩ := R.full i d h1
    exact ⟨x, by rw [← out_same hw h2]; exact hx⟩
/-- what is held of one's own is changed -/
theorem Rel.putHeld {m : Nat} {a : Addr} {d d' : PyData} {o : HO} (R : Rel C f Γ σ H) (h : f m = some (.own d, .ref a)) (k : ∀ W H', Tr (WE C (ent f Γ σ)) H W H' → H' a = some o → Ow C.K W H' a d') : Rel C (upF f m (some (.own d', .ref a))) Γ σ (upd H a o) :=
  ⟨by rw [ent_up]; exact R.e.put (k := .inl m) h k, R.len, R.full, R.nb⟩
end
def compW (vs : List Nat) (g : PG') (tt : PXT) (te : PX) (G : Env → Prop) : List PyData → List PyData → Env → (List PyData → Env → Prop) → Prop
  | [], acc, Γ, Φ => G Γ ∧ Φ acc Γ
  | d :: ds, acc, Γ, Φ => G Γ ∧ acc.length < sizeLine ∧ g d (wipeG Γ vs) fun Γ1 => tt Γ1 fun b Γ2 =>
      (b = true → te Γ2 fun r Γ3 => ∃ y Γ4, frz Γ3 r = some (y, Γ4) ∧ compW vs g tt te G ds (acc ++ [y]) (wipeG Γ4 vs) Φ) ∧ (b = false → compW vs g tt te G ds acc (wipeG Γ2 vs) Φ)
def wLc (vs : List Nat) (wi : PIc) (g : PG') (tt : PXT) (te : PX) : PX := fun Γ Φ => wi Γ fun ds G Γ1 => compW vs g tt te G ds [] Γ1 fun acc Γ2 => Φ (.own (.list acc)) Γ2
def wYes : PXT := fun Γ Φ => Φ true Γ
section
variable {X : Cx} [IK]
def XTs (X : Cx) (ifs : List Expr) (t : L2.TT) (w : PXT) : Prop := PTs X ifs t ∧ ∀ C : Cc, Cok C X → DT C t w
theorem xts_nil : XTs X [] tYes wYes := ⟨pts_nil, fun C hK n f Γ σ H Q Φ off R w k => k _ _ _ w R⟩
theorem xts_one {c : Expr} {t : L2.TT} {w : PXT} (h : XT X c t w) : XTs X [c] t w := ⟨pts_one h.1, h.2⟩
theorem xe_lc {elt tg iter : Expr} {ifs : List Expr} {scope : Scope} {own : List (Str × Nat)} {pos : Pos} {wi : TI} {g : TG} {tt : L2.TT} {te : TE} {wI : PIc} {wG : PG'} {wT : PXT} {wE : PX} {ts : List Nat} (hc : X.calm = true) (hN : X.N.Nodup) (hi : XIc X tg iter wi wI) (ok : BlkOk X.N X.env.scope scope own)
    (hg : ∀ (s : Shared) (H : Hp) (C : Addr) (cl : List (Str × Addr)) (fp : List Addr), XG (X.blk s H scope (compEnvC scope cl C X.env) fp) tg g wG ts) (ht : ∀ (s : Shared) (H : Hp) (C : Addr) (cl : List (Str × Addr)) (fp : List Addr), XTs (X.blk s H scope (compEnvC scope cl C X.env) fp) ifs tt wT)
    (he : ∀ (s : Shared) (H : Hp) (C : Addr) (cl : List (Str × Addr)) (fp : List Addr), XE (X.blk s H scope (compEnvC scope cl C X.env) fp) elt te wE) (hts : ∀ i ∈ ts, i ∈ own.map (·.2) := by decide) (hs : ∀ x, foldedSetIterable iter X.env x = pure x := by intro _; rfl) :
    XE X (.ListComp elt [⟨tg, iter, ifs, 0⟩] scope pos) (tLc wi g tt te (own.map (·.2))) (wLc (own.map (·.2)) wI wG wT wE) := by
  refine ⟨pe_lc hc hN hi.1 ok (fun s H C cl fp => (hg s H C cl fp).1) (fun s H C cl fp => (ht s H C cl fp).1) (fun s H C cl fp => (he s H C cl fp).1) hs, fun C hK n f Γ σ H Q Φ off R w k => ?_⟩
  generalize own.map (·.2) = vs at hts w ⊢
  have dG := (hg X.s_0 (fun _ => none) 0 [] []).2 C ⟨hK.k, hK.i⟩
  have dT := (ht X.s_0 (fun _ => none) 0 [] []).2 C ⟨hK.k, hK.i⟩
  have dE := (he X.s_0 (fun _ => none) 0 [] []).2 C ⟨hK.k, hK.i⟩
  refine hi.2 C hK n f Γ σ H _ _ off R w ?_
  intro ds G J Γ1 H1 n' f' Hd φ hn off' low R1 hd st okJ D hD
  have hdl : ∀ o, Hd (upF f' n' o) := fun o => st f' _ (fun m _ hm => upF_low m hm) hd
  refine ⟨fun i m H2 => m = ds.length - i ∧ i ≤ ds.length ∧ ∃ acc Γ2, Rel C (upF f' n' (some (.own (.list acc), .ref D))) Γ2 σ H2 ∧ compW vs wG wT wE G (ds.drop i) acc Γ2 fun acc Γ2 => Φ (.own (.list acc)) Γ2,
    ⟨_, rfl, Nat.zero_le _, [], Γ1, R1.mineL off' hD .nil, by simpa using φ⟩, ?_⟩
  rintro i m H2 ⟨rfl, hi2, acc, Γ2, R2, φ2⟩
  rcases Nat.lt_or_ge i ds.length with lt | ge
  · have hd' : ds[i]? = some ds[i] := List.getElem?_eq_getElem lt
    rw [List.drop_eq_getElem_cons lt] at φ2
    obtain ⟨hG, hz, φ2⟩ := φ2
    refine .inr ⟨okJ.go _ Γ2 σ H2 i (hdl _) hG R2 lt, fun H3 => ∃ acc Γ3, Rel C (upF f' n' (some (.own (.list acc), .ref D))) Γ3 σ H3 ∧ compW vs wG wT wE G (ds.drop (i + 1)) acc Γ3 fun acc Γ2 => Φ (.own (.list acc)) Γ2, fun H3 z => ⟨ds.length - (i + 1), by omega, rfl, lt, z⟩, fun x H3 y => ?_⟩
    obtain ⟨gr, a⟩ := okJ.yld _ Γ2 σ H2 i _ x H3 (hdl _) hG R2 hd' y
    have R3 := R2.grow gr
    have R4 := R3.hide.wipes (hide_nb _) vs
    have offh : Off (hide (upF f' n' (some (.own (.list acc), .ref D)))) (n' + 1) := hide_off off'.up
    have fn : hide (upF f' n' (some (.own (.list acc), .ref D))) n' = some (.own (.list acc), .ref D) := hide_keep (fun i z => by cases z) upF_same
    have bors : ∀ (acc' : List PyData) m i x, upF f' n' (some (.own (.list acc'), .ref D)) m = some (.bor i, x) → upF f' n' (some (.own (.list acc), .ref D)) m = some (.bor i, x) := by
      intro acc' m i x z
      unfold upF at z ⊢
      by_cases e : m = n'
      · rw [if_pos e] at z; cases z
      · rw [if_neg e] at z ⊢; exact z
    have aw : Ac C.K (WE C (ent (hide (upF f' n' (some (.own (.list acc), .ref D)))) (wipeG Γ2 vs) (L2.wipe σ vs))) H3 x ds[i] := by
      refine Ac.tr (Tr.less ?_) _ a
      rintro b (z | ⟨k, d, z⟩)
      · exact .inl z
      · cases k with
        | inl m => exact .inr ⟨.inl m, d, hide_some z⟩
        | inr j =>
          obtain ⟨z1, z2⟩ := slotE_some z
          obtain ⟨z1, zo⟩ := wipeG_some z1
          refine .inr ⟨.inr j, d, ?_⟩
          show slotE Γ2[j]? σ[j]? = _
          rw [z1, (wipe_some z2).1]; rfl
    refine dG (n' + 1) _ _ _ H3 x _ _ _ offh (hide_nb _) R4 aw φ2 ?_
    intro Γ5 σ5 H5 φ5 R5 _ hw5
    have hw : L2.wipe σ5 vs = L2.wipe σ vs := by
      rw [hw5 vs hts]
      have : ∀ us : List Nat, (∀ u ∈ us, u ∈ vs) → L2.wipe (L2.wipe σ us) vs = L2.wipe σ vs := by
        intro us
        induction us with
        | nil => intro _; rfl
        | cons u us ih =>
          intro h
          show L2.wipe ((L2.wipe σ us).set u none) vs = _
          rw [wipe_in (h u (by simp))]
          exact ih fun v hv => h v (List.mem_cons_of_mem _ hv)
      exact this vs fun _ z => z
    have hw' : L2.wipe σ5 vs = L2.wipe (L2.wipe σ vs) vs := by rw [hw5 vs hts]
    refine ⟨by rw [hw5 vs hts]; exact (hw5 vs hts).symm.trans hw, ?_⟩
    refine dT (n' + 1) _ Γ5 σ5 H5 _ _ offh R5 φ5 ?_
    rintro b Γ6 H6 ⟨φt, φf⟩ R6
    cases b with
    | false =>
      rw [if_neg (by decide)]
      exact ⟨acc, _, R6.unhide R3 (bors acc) hw, φf rfl⟩
    | true =>
      rw [if_pos rfl]
      refine dE (n' + 1) _ Γ6 σ5 H6 _ _ offh R6 (φt rfl) ?_
      rintro r y Γ7 H7 ⟨yd, Γ8, hz8, φ8⟩ R7
      have R8 := R7.frzR offh hz8
      have fn8 : upF (hide (upF f' n' (some (.own (.list acc), .ref D)))) (n' + 1) (some (.v yd, y)) n' = some (.own (.list acc), .ref D) := by
        unfold upF
        rw [if_neg (by omega)]
        exact fn
      have ay := R8.heldV
      cases R8.e.ok (.inl n') _ _ fn8 with
      | own ow =>
        cases ow with
        | @lst xs _ h1 h2 =>
          refine ⟨xs, h1, by rw [h2.len]; exact hz, ?_⟩
          have R9 := R8.putHeld (d' := .list (acc ++ [yd])) (o := .lst (xs ++ [y])) fn8 fun W H' t e => .lst e (AcL.tr t _ (h2.snoc ay))
          have e9 : upF (upF (hide (upF f' n' (some (.own (.list acc), .ref D)))) (n' + 1) (some (.v yd, y))) n' (some (.own (.list (acc ++ [yd])), .ref D)) = upF (hide (upF f' n' (some (.own (.list (acc ++ [yd])), .ref D)))) (n' + 1) (some (.v yd, y)) := by
            funext m
            by_cases q : m = n'
            · subst q
              rw [upF_same]
              unfold upF
              rw [if_neg (by omega)]
              exact (hide_keep (fun i z => by cases z) upF_same).symm
            · by_cases q2 : m = n' + 1
              · subst q2
                unfold upF
                rw [if_neg (by omega), if_pos rfl, if_pos rfl]
              · unfold upF hide
                rw [if_neg q, if_neg q2, if_neg q2]
                simp only [if_neg q]
          rw [e9] at R9
          have R10 := R9.drop (hide_off off'.up)
          exact ⟨acc ++ [yd], _, R10.unhide R3 (bors _) hw, φ8⟩
  · refine .inl ⟨okJ.stop _ Γ2 σ H2 i (hdl _) ?_ R2 ge, ?_⟩
    · rw [List.drop_eq_nil_of_le ge] at φ2
      exact φ2.1
    · rw [List.drop_eq_nil_of_le ge] at φ2
      exact k _ _ _ _ φ2.2 (R2.down off hn low)
/-- name = [..] -/
theorem xs_setLc {i : Nat} {y : Str} {py : Pos} {elt tg iter : Expr} {ifs : List Expr} {scope : Scope} {own : List (Str × Nat)} {pos spos : Pos} {wi : TI} {g : TG} {tt : L2.TT} {te : TE} {wI : PIc} {wG : PG'} {wT : PXT} {wE : PX} {ts : List Nat} (hc : X.calm = true) (hN : X.N.Nodup) (hy : X.N[i]? = some y) (hyl : X.env.scope.names.lookup y = some .local)
    (hsw : swapsWith (.ListComp elt [⟨tg, iter, ifs, 0⟩] scope pos) (some (.Name y py)) spos.line X.env = pure true) (hi : XIc X tg iter wi wI) (ok : BlkOk X.N X.env.scope scope own)
    (hg : ∀ (s : Shared) (H : Hp) (C : Addr) (cl : List (Str × Addr)) (fp : List Addr), XG (X.blk s H scope (compEnvC scope cl C X.env) fp) tg g wG ts) (ht : ∀ (s : Shared) (H : Hp) (C : Addr) (cl : List (Str × Addr)) (fp : List Addr), XTs (X.blk s H scope (compEnvC scope cl C X.env) fp) ifs tt wT)
    (he : ∀ (s : Shared) (H : Hp) (C : Addr) (cl : List (Str × Addr)) (fp : List Addr), XE (X.blk s H scope (compEnvC scope cl C X.env) fp) elt te wE) (hts : ∀ i ∈ ts, i ∈ own.map (·.2) := by decide) (hs : ∀ x, foldedSetIterable iter X.env x = pure x := by intro _; rfl) :
    XS X (.Assign [.Name y py] (.ListComp elt [⟨tg, iter, ifs, 0⟩] scope pos) spos) (tAsg (tLc wi g tt te (own.map (·.2))) (gName i)) (wSet i (wLc (own.map (·.2)) wI wG wT wE)) :=
  ⟨ps_setLc hc hN hy hyl hsw hi.1 ok (fun s H C cl fp => (hg s H C cl fp).1) (fun s H C cl fp => (ht s H C cl fp).1) (fun s H C cl fp => (he s H C cl fp).1) hs,
    fun C hK => ds_set ((xe_lc (pos := pos) hc hN hi ok hg ht he hts hs).2 C hK)⟩
end
end Px
end

/-! DiA -/
section
set_option Elab.async false
set_option linter.all false
set_option maxRecDepth 100000
set_option maxHeartbeats 4000000
namespace Dh
open PySem PySem.Spec PyProof.Rows L2

/-! ### isinstance(v, T), v data, T one of four -/
def tyD : PyData → Value
  | .none => .type "NoneType"
  | .bool _ => .type "bool"
  | .int _ => .type "int"
  | .str _ => .type "str"
  | .list _ => .type "list"
  | .tuple _ => .type "tuple"
  | .dict _ => .type "dict"
inductive Four : String → Prop
  | int : Four "int"
  | bool : Four "bool"
  | str : Four "str"
  | tuple : Four "tuple"
def isInt : PyData → Bool
  | .int _ => true
  | .bool _ => true
  | _ => false
def isBool : PyData → Bool
  | .bool _ => true
  | _ => false
def isStr : PyData → Bool
  | .str _ => true
  | _ => false
def isTup : PyData → Bool
  | .tuple _ => true
  | _ => false
inductive IsT : String → PyData → Bool → Prop
  | int (d : PyData) : IsT "int" d (isInt d)
  | bool (d : PyData) : IsT "bool" d (isBool d)
  | str (d : PyData) : IsT "str" d (isStr d)
  | tuple (d : PyData) : IsT "tuple" d (isTup d)
theorem At.tyx {K : PySem.W.Frag} {M : List Addr} {H : Hp} {v : V} {d : PyData} (h : At K M H v d) : TyX K H v (tyD d) := by
  cases h with
  | non => exact .base .non
  | bl b => exact .base (.bl b)
  | int i => exact .base (.int i)
  | str x => exact .base (.str x)
  | lst s _ _ =>
    rcases s with (e | ⟨o, e⟩) | ⟨o, its, n, hk, hc, _⟩
    · exact .base (.lst e)
    · exact .base (.frz e)
    · exact .kList hk hc
  | tup s _ _ =>
    rcases s with (e | ⟨o, e⟩) | ⟨o, its, n, hk, hc, _⟩
    · exact .base (.tup e)
    · exact .fTuple e
    · exact .kTuple hk hc
  | dic e _ _ => exact .base (.dK e)
theorem IsT.kit {K : PySem.W.Frag} {T : String} {d : PyData} {b : Bool} (h : IsT T d b) : PySem.W.kitOne K (tyD d) (.type T) = some b := by
  cases h <;> cases d <;> kernel_rfl
def rIsA (K : PySem.W.Frag) : List V → Hp → VK → Prop := fun xs H Q => ∃ (M : List Addr) (v : V) (d : PyData) (T : String) (b : Bool), xs = [v, .ty T] ∧ At K M H v d ∧ IsT T d b ∧ Q (.bl b) H
theorem call_isA {X : Cx} : CallR X (.builtin "isinstance") (rIsA X.K) := by
  intro pins s σ H xs us Q I r h
  obtain ⟨M, v, d, T, b, e, a, t, q⟩ := h
  exact call_isi pins s σ H xs us Q I r ⟨v, .ty T, _, _, b, e, .ty T, a.tyx, t.kit, q⟩
theorem Kp.at {H H1 : Hp} {b : Addr} {o : HO} (k : Kp [] H H1) (e : H b = some o) : H1 b = some o := k b o e (by simp)
theorem At.newT {K : PySem.W.Frag} {M : List Addr} {H1 : Hp} {a : Addr} {vs : List V} {ds : List PyData} (e : H1 a = some (.tup vs)) (n : a ∉ M) (h : AtL K M H1 vs ds) : At K M H1 (.ref a) (.tuple ds) := .tup (SqT.of e) n h
theorem At.ext {K : PySem.W.Frag} {M : List Addr} {H H1 : Hp} {v : V} {d : PyData} (k : Kp [] H H1) (h : At K M H v d) : At K M H1 v d := At.kp (k.more fun _ z => nomatch z) d h
theorem AtL.ext {K : PySem.W.Frag} {M : List Addr} {H H1 : Hp} {v : List V} {d : List PyData} (k : Kp [] H H1) (h : AtL K M H v d) : AtL K M H1 v d := AtL.kp (k.more fun _ z => nomatch z) d h
end Dh
end

/-! Px8 -/
section
set_option Elab.async false
set_option linter.all false
set_option maxRecDepth 100000
set_option maxHeartbeats 2000000
set_option autoImplicit false
namespace Px
open PySem PySem.Spec PyProof.Rows L2 Dh

/-! ### operators -/
section
variable {K : PySem.W.Frag} {W : AS} {H : Hp}
theorem PureR2.ints {C : Int → Int → Prop} {g : Int → Int → Int} (φ : PO') (h : ∀ d e Ψ, φ [d, e] Ψ → ∃ i j, d = .int i ∧ e = .int j ∧ C i j ∧ Ψ (.v (.int (g i j)))) : PureR2 K (rI C fun i j => .int (g i j)) φ := by
  intro W H x y d e Q Ψ hx hy hφ P
  obtain ⟨i, j, rfl, rfl, c, q⟩ := h _ _ _ hφ
  exact ⟨i, j, hx.int, hy.int, c, P.val _ _ q (.int _)⟩
theorem PureR2.ints0 {g : Int → Int → Int} (φ : PO') (h : ∀ d e Ψ, φ [d, e] Ψ → ∃ i j, d = .int i ∧ e = .int j ∧ Ψ (.v (.int (g i j)))) : PureR2 K (rI0 fun i j => .int (g i j)) φ := by
  intro W H x y d e Q Ψ hx hy hφ P
  obtain ⟨i, j, rfl, rfl, q⟩ := h _ _ _ hφ
  exact ⟨i, j, hx.int, hy.int, P.val _ _ q (.int _)⟩
theorem PureR2.cmps {g : Int → Int → Bool} (φ : PO') (h : ∀ d e Ψ, φ [d, e] Ψ → ∃ i j, d = .int i ∧ e = .int j ∧ Ψ (.v (.bool (g i j)))) : PureR2 K (rI0 fun i j => .bl (g i j)) φ := by
  intro W H x y d e Q Ψ hx hy hφ P
  obtain ⟨i, j, rfl, rfl, q⟩ := h _ _ _ hφ
  exact ⟨i, j, hx.int, hy.int, P.val _ _ q (.bl _)⟩
end
def pAdd : PO' | [.int i, .int j], Ψ => Ψ (.v (.int (i + j))) | _, _ => False
def pSub : PO' | [.int i, .int j], Ψ => Ψ (.v (.int (i - j))) | _, _ => False
def pMul : PO' | [.int i, .int j], Ψ => CMul i j ∧ Ψ (.v (.int (i * j))) | _, _ => False
def pMod : PO' | [.int i, .int j], Ψ => 0 < j ∧ Ψ (.v (.int (i % j))) | _, _ => False
def pFdiv : PO' | [.int i, .int j], Ψ => CDiv i j ∧ Ψ (.v (.int (i / j))) | _, _ => False
def pPow : PO' | [.int i, .int j], Ψ => CPow i j ∧ Ψ (.v (.int (i ^ j.toNat))) | _, _ => False
def pLt : PO' | [.int i, .int j], Ψ => Ψ (.v (.bool (decide (i < j)))) | _, _ => False
def pLe : PO' | [.int i, .int j], Ψ => Ψ (.v (.bool (decide (i ≤ j)))) | _, _ => False
def pGt : PO' | [.int i, .int j], Ψ => Ψ (.v (.bool (decide (j < i)))) | _, _ => False
def pGe : PO' | [.int i, .int j], Ψ => Ψ (.v (.bool (decide (j ≤ i)))) | _, _ => False
theorem two_ints {φ : Int → Int → (D → Prop) → Prop} {p : PO'} (hp : ∀ i j Ψ, p [.int i, .int j] Ψ = φ i j Ψ) (h0 : ∀ d e Ψ, p [d, e] Ψ → ∃ i j, d = .int i ∧ e = .int j) : ∀ d e Ψ, p [d, e] Ψ → ∃ i j, d = .int i ∧ e = .int j ∧ φ i j Ψ := by
  intro d e Ψ h
  obtain ⟨i, j, rfl, rfl⟩ := h0 _ _ _ h
  exact ⟨i, j, rfl, rfl, by rw [← hp]; exact h⟩
theorem PAdd {K} : PureR2 K (rI0 fun i j => .int (i + j)) pAdd := PureR2.ints0 pAdd fun d e Ψ h => by cases d <;> cases e <;> first | exact ⟨_, _, rfl, rfl, h⟩ | exact h.elim
theorem PSub {K} : PureR2 K (rI0 fun i j => .int (i - j)) pSub := PureR2.ints0 pSub fun d e Ψ h => by cases d <;> cases e <;> first | exact ⟨_, _, rfl, rfl, h⟩ | exact h.elim
theorem PMul {K} : PureR2 K (rI CMul fun i j => .int (i * j)) pMul := PureR2.ints pMul fun d e Ψ h => by cases d <;> cases e <;> first | exact ⟨_, _, rfl, rfl, h.1, h.2⟩ | exact h.elim
theorem PMod {K} : PureR2 K (rI (fun _ j => 0 < j) fun i j => .int (i % j)) pMod := PureR2.ints pMod fun d e Ψ h => by cases d <;> cases e <;> first | exact ⟨_, _, rfl, rfl, h.1, h.2⟩ | exact h.elim
theorem PFdiv {K} : PureR2 K (rI CDiv fun i j => .int (i / j)) pFdiv := PureR2.ints pFdiv fun d e Ψ h => by cases d <;> cases e <;> first | exact ⟨_, _, rfl, rfl, h.1, h.2⟩ | exact h.elim
theorem PPow {K} : PureR2 K (rI CPow fun i j => .int (i ^ j.toNat)) pPow := PureR2.ints pPow fun d e Ψ h => by cases d <;> cases e <;> first | exact ⟨_, _, rfl, rfl, h.1, h.2⟩ | exact h.elim
theorem PLt {K} : PureR2 K (rI0 fun i j => .bl (decide (i < j))) pLt := PureR2.cmps pLt fun d e Ψ h => by cases d <;> cases e <;> first | exact ⟨_, _, rfl, rfl, h⟩ | exact h.elim
theorem PLe {K} : PureR2 K (rI0 fun i j => .bl (decide (i ≤ j))) pLe := PureR2.cmps pLe fun d e Ψ h => by cases d <;> cases e <;> first | exact ⟨_, _, rfl, rfl, h⟩ | exact h.elim
theorem PGt {K} : PureR2 K (rI0 fun i j => .bl (decide (j < i))) pGt := PureR2.cmps pGt fun d e Ψ h => by cases d <;> cases e <;> first | exact ⟨_, _, rfl, rfl, h⟩ | exact h.elim
theorem PGe {K} : PureR2 K (rI0 fun i j => .bl (decide (j ≤ i))) pGe := PureR2.cmps pGe fun d e Ψ h => by cases d <;> cases e <;> first | exact ⟨_, _, rfl, rfl, h⟩ | exact h.elim
/-- texts, lists, tuples put together -/
def pAddS : PO' | [.str i, .str j], Ψ => i.length + j.length ≤ sizeLine ∧ Ψ (.v (.str (i ++ j))) | _, _ => False
theorem PAddS {K} : PureR2 K (fun x y H Q => ∃ i j, x = .str i ∧ y = .str j ∧ i.length + j.length ≤ sizeLine ∧ Q (.str (i ++ j)) H) pAddS := by
  intro W H x y d e Q Ψ hx hy hφ P
  cases d <;> cases e <;> first | exact hφ.elim | skip
  exact ⟨_, _, hx.str, hy.str, hφ.1, P.val _ _ hφ.2 (.str _)⟩
def pCat : PO' | [.list ds, .list es], Ψ => ds.length + es.length ≤ sizeLine ∧ Ψ (.own (.list (ds ++ es))) | _, _ => False
theorem PCat {K} : PureR2 K rCat pCat := by
  intro W H x y d e Q Ψ hx hy hφ P
  cases d <;> cases e <;> first | exact hφ.elim | skip
  obtain ⟨a, xs, rfl, ha, h1⟩ := hx.lst0
  obtain ⟨b, ys, rfl, hb, h2⟩ := hy.lst0
  exact ⟨a, b, xs, ys, rfl, rfl, ha, hb, by rw [h1.len, h2.len]; exact hφ.1, fun p hp => P.lst _ _ _ hφ.2 hp (h1.app h2)⟩
theorem Rv.tupAc {K : PySem.W.Frag} {W : AS} {H : Hp} {x : V} {ds : List PyData} (h : Rv K W H x (.tuple ds)) : Ac K W H x (.tuple ds) := by
  rcases h with h | ⟨a, rfl, h⟩
  · exact h
  · cases h
def pCatT : PO' | [.tuple ds, .tuple es], Ψ => ds.length + es.length ≤ sizeLine ∧ Ψ (.v (.tuple (ds ++ es))) | _, _ => False
theorem PCatT {K} : PureR2 K (rCatA K) pCatT := by
  intro W H x y d e Q Ψ hx hy hφ P
  cases d <;> cases e <;> first | exact hφ.elim | skip
  rename_i ds es
  have ax := hx.tupAc
  have ay := hy.tupAc
  obtain ⟨a, xs, rfl, ha, h1⟩ := hx.tup
  obtain ⟨b, ys, rfl, hb, h2⟩ := hy.tup
  refine ⟨a, b, xs, ys, rfl, rfl, ha, hb, by rw [h1.len, h2.len]; exact hφ.1, fun e => ?_, fun _ e => ?_, fun _ _ p hp => P.tup _ _ _ hφ.2 hp (h1.app h2)⟩
  · subst e
    cases h1
    exact P.val _ _ hφ.2 ay
  · subst e
    cases h2
    have e : ds ++ [] = ds := List.append_nil _
    exact P.val _ _ hφ.2 (by rw [e]; exact ax)
/-- [..] * k -/
def repD (ds : List PyData) : Nat → List PyData
  | 0 => []
  | k + 1 => ds ++ repD ds k
/-! ### items -/
def pIx : PO'
  | [.list ds, .int i], Ψ => ∃ c, atI ds i = some c ∧ Ψ (.v c)
  | [.tuple ds, .int i], Ψ => ∃ c, atI ds i = some c ∧ Ψ (.v c)
  | [.str z, .int i], Ψ => z.length ≤ sizeLine ∧ ∃ c, atI z.cps.toList i = some c ∧ Ψ (.v (.str ⟨#[c]⟩))
  | _, _ => False
theorem AcL.atI' {K : PySem.W.Frag} {W : AS} {H : Hp} {vs : List V} {ds : List PyData} (h : AcL K W H vs ds) {i : Int} {c : PyData} (e : atI ds i = some c) : ∃ v, atI vs i = some v ∧ Ac K W H v c := by
  unfold atI at e ⊢
  rw [h.len]
  cases q : ixN ds.length i with
  | none => rw [q] at e; cases e
  | some j =>
    rw [q] at e
    exact h.at e
theorem PIx {K} : PureR2 K (rIx K) pIx := by
  intro W H x y d e Q Ψ hx hy hφ P
  cases d <;> cases e <;> first | exact hφ.elim | skip
  · obtain ⟨hz, c, hc, q⟩ := hφ
    exact .inr (.inr ⟨_, _, c, hx.str, hy.int, hz, hc, P.val _ _ q (.str _)⟩)
  · obtain ⟨c, hc, q⟩ := hφ
    obtain ⟨a, xs, rfl, ha, h1⟩ := hx.lst
    obtain ⟨v, hv, av⟩ := h1.atI' hc
    exact .inl ⟨a, xs, _, v, rfl, hy.int, ha, hv, P.val _ _ q av⟩
  · obtain ⟨c, hc, q⟩ := hφ
    obtain ⟨a, xs, rfl, ha, h1⟩ := hx.tup
    obtain ⟨v, hv, av⟩ := h1.atI' hc
    exact .inr (.inl ⟨a, xs, _, v, rfl, hy.int, ha, hv, P.val _ _ q av⟩)
section
variable {X : Cx} [IK]
theorem xe_ix {a b : Expr} {pos : Pos} {ta tb : TE} {wa wb : PX} (ha : XE X a ta wa) (hb : XE X b tb wb) (hs : PlainIx b) : XE X (.Subscript a b pos) (tOp (rIx X.K) ta tb) (wO pIx wa wb) :=
  xe_O ha hb (fun _ _ pa pb => pe_ix ix_seq pa pb hs) PIx
/-! ### slices -/
def cutD (ds : List PyData) (lo hi : Option Int) : List PyData := (ds.drop (HT.sIx ds.length 0 lo)).take (HT.sIx ds.length ds.length hi - HT.sIx ds.length 0 lo)
abbrev PXO := Env → (Option Int → Env → Prop) → Prop
def DO (C : Cc) (t : TO) (w : PXO) : Prop := ∀ (n : Nat) (f : Fr) (Γ : Env) (σ : SS) (H : Hp) (Q : Option Int → Hp → Prop) (Φ : Option Int → Env → Prop), Off f n → Rel C f Γ σ H → w Γ Φ → (∀ i Γ' H', Φ i Γ' → Rel C f Γ' σ H' → Q i H') → t σ H Q
def XO (X : Cx) (e : Option Expr) (t : TO) (w : PXO) : Prop := L2.PO X e t ∧ ∀ C : Cc, Cok C X → DO C t w
theorem xo_none : XO X none tNoPart (fun Γ Φ => Φ none Γ) := ⟨po_none, fun C hK n f Γ σ H Q Φ off R w k => k _ _ _ w R⟩
theorem xo_some {e : Expr} {t : TE} {w : PX} (h : XE X e t w) : XO X (some e) (tPart t) (fun Γ Φ => w Γ fun r Γ1 => ∃ i, r = .v (.int i) ∧ Φ (some i) Γ1) := by
  refine ⟨po_some h.1, fun C hK n f Γ σ H Q Φ off R w k => h.2 C hK n f Γ σ H _ _ off R w ?_⟩
  rintro r x Γ1 H1 ⟨i, rfl, φ⟩ R1
  have := R1.heldV
  cases this
  exact ⟨i, rfl, k _ _ _ φ (R1.drop off)⟩
abbrev PS' := PyData → Option Int → Option Int → (D → Prop) → Prop
def PureS (K : PySem.W.Frag) (r : V → Option Int → Option Int → Hp → VK → Prop) (φ : PS') : Prop := ∀ W H x d lo hi Q Ψ, Rv K W H x d → φ d lo hi Ψ → Post K W H Q Ψ → r x lo hi H Q
def wSl (φ : PS') (w : PX) (wl wh : PXO) : PX := fun Γ Φ => w Γ fun r Γ1 => wl Γ1 fun lo Γ2 => wh Γ2 fun hi Γ3 => ∃ d, res Γ3 r = some d ∧ φ d lo hi fun c => Φ c Γ3
theorem xe_slice {e : Expr} {lo hi : Option Expr} {p2 pos : Pos} {r : V → Option Int → Option Int → Hp → VK → Prop} {φ : PS'} {t : TE} {tl th : TO} {w : PX} {wl wh : PXO} (hr : SlR X r) (hp : PureS X.K r φ) (he : XE X e t w) (hl : XO X lo tl wl) (hh : XO X hi th wh) :
    XE X (.Subscript e (.Slice lo hi none p2) pos) (tSl r t tl th) (wSl φ w wl wh) := by
  refine ⟨pe_slice hr he.1 hl.1 hh.1, fun C hK n f Γ σ H Q Φ off R w k => he.2 C hK n f Γ σ H _ _ off R w ?_⟩
  intro r x Γ1 H1 φ1 R1
  refine hl.2 C hK (n + 1) _ Γ1 σ H1 _ _ off.up R1 φ1 ?_
  intro lo Γ2 H2 φ2 R2
  refine hh.2 C hK (n + 1) _ Γ2 σ H2 _ _ off.up R2 φ2 ?_
  rintro hi Γ3 H3 ⟨d, hd, φ3⟩ R3
  refine hp _ _ _ _ _ _ _ _ (by rw [← hK.k]; exact (R3.rv ent_held hd).tr (Tr.drop off)) φ3 (by rw [← hK.k]; exact (R3.drop off).post off k)
def pSlT : PS' | .tuple ds, lo, hi, Ψ => Ψ (.v (.tuple (cutD ds lo hi))) | _, _, _, _ => False
theorem AcL.cut {K : PySem.W.Frag} {W : AS} {H : Hp} {xs : List V} {ds : List PyData} (h : AcL K W H xs ds) (lo hi : Option Int) : AcL K W H (cutV xs lo hi) (cutD ds lo hi) := by
  unfold cutV cutD
  rw [h.len]
  exact AcL.tk _ (AcL.dr _ h)
theorem PSlT {K} : PureS K (rSlA K) pSlT := by
  intro W H x d lo hi Q Ψ hx hφ P
  cases d <;> first | exact hφ.elim | skip
  rename_i ds
  have ax := hx.tupAc
  obtain ⟨a, xs, rfl, ha, h1⟩ := hx.tup
  refine ⟨a, xs, rfl, ha, fun hw => ?_, fun _ p hp => P.tup _ _ _ hφ hp (h1.cut lo hi)⟩
  have e : cutD ds lo hi = ds := by
    unfold cutD
    rw [h1.len] at hw
    rw [hw.1, hw.2]
    simp
  exact P.val _ _ hφ (by rw [e]; exact ax)
def pSlL : PS' | .list ds, lo, hi, Ψ => Ψ (.own (.list (cutD ds lo hi))) | _, _, _, _ => False
theorem PSlL {K} : PureS K (rSlL K) pSlL := by
  intro W H x d lo hi Q Ψ hx hφ P
  cases d <;> first | exact hφ.elim | skip
  obtain ⟨a, xs, rfl, ha, h1⟩ := hx.lst
  exact ⟨a, xs, rfl, ha, fun p hp => P.lst _ _ _ hφ hp (h1.cut lo hi)⟩
/-! ### built-ins -/
def pLen : PO'
  | [.list ds], Ψ => Ψ (.v (.int ds.length))
  | [.tuple ds], Ψ => Ψ (.v (.int ds.length))
  | [.str z], Ψ => z.length ≤ sizeLine ∧ Ψ (.v (.int z.length))
  | _, _ => False
theorem PLen : PureR X.K (fun xs H Q => ∃ x n, xs = [x] ∧ LenV X.K x H n ∧ Q (.int n) H) pLen := by
  intro W H xs ds Q Ψ rv hφ P
  cases rv with
  | nil => exact hφ.elim
  | cons a b =>
    rename_i d _
    cases b with
    | cons _ _ => cases d <;> exact hφ.elim
    | nil =>
      cases d <;> first | exact hφ.elim | skip
      · rw [a.str]; exact ⟨_, _, rfl, ⟨hφ.1, rfl⟩, P.val _ _ hφ.2 (.int _)⟩
      · obtain ⟨a, xs, rfl, ha, h1⟩ := a.lst
        exact ⟨_, _, rfl, .inl ⟨xs, ha, rfl⟩, by rw [h1.len]; exact P.val _ _ hφ (.int _)⟩
      · obtain ⟨a, xs, rfl, ha, h1⟩ := a.tup
        exact ⟨_, _, rfl, .inr ⟨xs, ha, rfl⟩, by rw [h1.len]; exact P.val _ _ hφ (.int _)⟩
def pTupOf : PO'
  | [.list ds], Ψ => Ψ (.v (.tuple ds))
  | [.tuple ds], Ψ => Ψ (.v (.tuple ds))
  | _, _ => False
theorem PTupOf : PureR X.K (fun xs H Q => ∃ p ys, xs = [.ref p] ∧ ((SqL X.K H p ys ∧ ∀ l, H l = none → Q (.ref l) (upd H l (.tup ys))) ∨ (SqT X.K H p ys ∧ Q (.ref p) H))) pTupOf := by
  intro W H xs ds Q Ψ rv hφ P
  cases rv with
  | nil => exact hφ.elim
  | cons a b =>
    rename_i d _
    cases b with
    | cons _ _ => cases d <;> exact hφ.elim
    | nil =>
      cases d <;> first | exact hφ.elim | skip
      · obtain ⟨a, xs, rfl, ha, h1⟩ := a.lst
        exact ⟨_, _, rfl, .inl ⟨ha, fun l hl => P.tup _ _ _ hφ hl h1⟩⟩
      · have ax := a.tupAc
        obtain ⟨a, xs, rfl, ha, h1⟩ := a.tup
        exact ⟨_, _, rfl, .inr ⟨ha, P.val _ _ hφ ax⟩⟩
def pLstOf : PO'
  | [.list ds], Ψ => Ψ (.own (.list ds))
  | [.tuple ds], Ψ => Ψ (.own (.list ds))
  | _, _ => False
theorem PLstOf : PureR X.K (fun xs H Q => ∃ p ys, xs = [.ref p] ∧ (SqL X.K H p ys ∨ SqT X.K H p ys) ∧ ∀ l, H l = none → Q (.ref l) (upd H l (.lst ys))) pLstOf := by
  intro W H xs ds Q Ψ rv hφ P
  cases rv with
  | nil => exact hφ.elim
  | cons a b =>
    rename_i d _
    cases b with
    | cons _ _ => cases d <;> exact hφ.elim
    | nil =>
      cases d <;> first | exact hφ.elim | skip
      · obtain ⟨a, xs, rfl, ha, h1⟩ := a.lst
        exact ⟨_, _, rfl, .inl ha, fun l hl => P.lst _ _ _ hφ hl h1⟩
      · obtain ⟨a, xs, rfl, ha, h1⟩ := a.tup
        exact ⟨_, _, rfl, .inr ha, fun l hl => P.lst _ _ _ hφ hl h1⟩
/-- a list of bools -/
def boolsOf : List PyData → Option (List Bool)
  | [] => some []
  | .bool b :: r => (boolsOf r).map (b :: ·)
  | _ :: _ => none
theorem boolsOf_map : ∀ {ds : List PyData} {bs : List Bool}, boolsOf ds = some bs → ds = bs.map PyData.bool
  | [], _, h => by cases h; rfl
  | d :: r, bs, h => by
    cases d with
    | bool b =>
      simp only [boolsOf, Option.map_eq_some_iff] at h
      obtain ⟨cs, h1, rfl⟩ := h
      rw [boolsOf_map h1]; rfl
    | none => cases h
    | int _ => cases h
    | str _ => cases h
    | list _ => cases h
    | tuple _ => cases h
    | dict _ => cases h
def pAll : PO' | [.list ds], Ψ => ∃ bs, boolsOf ds = some bs ∧ Ψ (.v (.bool (bs.all id))) | _, _ => False
def pAny : PO' | [.list ds], Ψ => ∃ bs, boolsOf ds = some bs ∧ Ψ (.v (.bool (bs.any id))) | _, _ => False
theorem PAll : PureR X.K (rAll X.K) pAll := by
  intro W H xs ds Q Ψ rv hφ P
  cases rv with
  | nil => exact hφ.elim
  | cons a b =>
    rename_i d _
    cases b with
    | cons _ _ => cases d <;> exact hφ.elim
    | nil =>
      cases d <;> first | exact hφ.elim | skip
      obtain ⟨bs, hb, q⟩ := hφ
      obtain ⟨a, xs, rfl, ha, h1⟩ := a.lst
      rw [boolsOf_map hb] at h1
      rw [AcL.bools _ h1] at ha
      exact ⟨_, bs, rfl, ha, P.val _ _ q (.bl _)⟩
theorem PAny : PureR X.K (rAny X.K) pAny := by
  intro W H xs ds Q Ψ rv hφ P
  cases rv with
  | nil => exact hφ.elim
  | cons a b =>
    rename_i d _
    cases b with
    | cons _ _ => cases d <;> exact hφ.elim
    | nil =>
      cases d <;> first | exact hφ.elim | skip
      obtain ⟨bs, hb, q⟩ := hφ
      obtain ⟨a, xs, rfl, ha, h1⟩ := a.lst
      rw [boolsOf_map hb] at h1
      rw [AcL.bools _ h1] at ha
      exact ⟨_, bs, rfl, ha, P.val _ _ q (.bl _)⟩
/-! ### repr, isinstance, equality -/
mutual
theorem Ac.at0 {K : PySem.W.Frag} {W : AS} {H : Hp} : ∀ (d : PyData) {x : V}, Ac K W H x d → At K [] H x d
  | .none, _, h => by cases h; exact .non
  | .bool b, _, h => by cases h; exact .bl b
  | .int i, _, h => by cases h; exact .int i
  | .str x, _, h => by cases h; exact .str x
  | .list ds, _, h => by
    cases h with
    | lst h1 h2 h3 => exact .lst (.inl (.inl h1)) (by simp) (AcL.at0 ds h3)
  | .tuple ds, _, h => by
    cases h with
    | tup h1 h2 h3 => exact .tup (.inl (.inl h1)) (by simp) (AcL.at0 ds h3)
    | tupK h1 h3 => exact .tup (.inr h1) (by simp) (AcL.at0 ds h3)
  | .dict es, _, h => by
    cases h with
    | dic h1 h2 h3 => exact .dic h1 (by simp) (AcK.at0 es h3)
theorem AcL.at0 {K : PySem.W.Frag} {W : AS} {H : Hp} : ∀ (ds : List PyData) {xs : List V}, AcL K W H xs ds → AtL K [] H xs ds
  | [], _, h => by cases h; exact .nil
  | d :: ds, _, h => by
    cases h with
    | cons h1 h2 => exact .cons (Ac.at0 d h1) (AcL.at0 ds h2)
theorem AcK.at0 {K : PySem.W.Frag} {W : AS} {H : Hp} : ∀ (es : List (PyData × PyData)) {kvs : List (Key × V)}, AcK K W H kvs es → AtK K [] H kvs es
  | [], _, h => by cases h; exact .nil
  | (_, d) :: es, _, h => by
    cases h with
    | cons h1 h2 => exact .cons (Ac.at0 d h1) (AcK.at0 es h2)
end
theorem Rv.at0 {K : PySem.W.Frag} {W : AS} {H : Hp} {x : V} {d : PyData} (h : Rv K W H x d) : At K [] H x d := by
  rcases h with h | ⟨a, rfl, h⟩
  · exact Ac.at0 d h
  · cases h with
    | lst h1 h2 => exact .lst (.inl (.inl h1)) (by simp) (AcL.at0 _ h2)
    | dic h1 h2 => exact .dic h1 (by simp) (AcK.at0 _ h2)
def pRepr : PO' | [d], Ψ => d.showable = true ∧ d.depth ≤ 60 ∧ d.shown.length ≤ sizeLine ∧ Ψ (.v (.str d.shown)) | _, _ => False
theorem PRepr : PureR X.K (fun xs H Q => ∃ (M : List Addr) (v : V) (d : PyData), xs = [v] ∧ At X.K M H v d ∧ d.showable = true ∧ d.depth ≤ 60 ∧ d.shown.length ≤ sizeLine ∧ Q (.str d.shown) H) pRepr := by
  intro W H xs ds Q Ψ rv hφ P
  cases rv with
  | nil => exact hφ.elim
  | cons a b =>
    cases b with
    | cons _ _ => exact hφ.elim
    | nil => exact ⟨[], _, _, rfl, a.at0, hφ.1, hφ.2.1, hφ.2.2.1, P.val _ _ hφ.2.2.2 (.str _)⟩
mutual
theorem At.dp0 {K : PySem.W.Frag} {M : List Addr} {H : Hp} : ∀ (d : PyData) {x : V}, d.canLay0 = true → At K M H x d → Dp K H x d
  | .none, _, _, h => by cases h; exact .non
  | .bool b, _, _, h => by cases h; exact .bl b
  | .int i, _, _, h => by cases h; exact .int i
  | .str x, _, _, h => by cases h; exact .str x
  | .list ds, _, c, h => by
    cases h with
    | lst h1 h2 h3 => exact .lst h1 (AtL.dp0 ds (by simpa [PyData.canLay0] using c) h3)
  | .tuple ds, _, c, h => by
    cases h with
    | tup h1 h2 h3 => exact .tup h1 (AtL.dp0 ds (by simpa [PyData.canLay0] using c) h3)
  | .dict es, _, c, h => by simp [PyData.canLay0] at c
theorem AtL.dp0 {K : PySem.W.Frag} {M : List Addr} {H : Hp} : ∀ (ds : List PyData) {xs : List V}, PyData.canLayAll0 ds = true → AtL K M H xs ds → DpAll K H xs ds
  | [], _, _, h => by cases h; exact .nil
  | d :: ds, _, c, h => by
    have c' : d.canLay0 = true ∧ PyData.canLayAll0 ds = true := by simpa [PyData.canLayAll0] using c
    cases h with
    | cons h1 h2 => exact .cons (At.dp0 d c'.1 h1) (AtL.dp0 ds c'.2 h2)
end
def pEqD : PO' | [d, e], Ψ => SeqAt.shaped d = true ∧ SeqAt.shaped e = true ∧ Ψ (.v (.bool (PyData.eqv d e))) | _, _ => False
def pNeD : PO' | [d, e], Ψ => SeqAt.shaped d = true ∧ SeqAt.shaped e = true ∧ Ψ (.v (.bool (!PyData.eqv d e))) | _, _ => False
theorem PEqD {K} : PureR2 K (rEqD K) pEqD := by
  intro W H x y d e Q Ψ hx hy hφ P
  exact ⟨d, e, At.dp0 d (SeqAt.canLay_of_shaped hφ.1) hx.at0, At.dp0 e (SeqAt.canLay_of_shaped hφ.2.1) hy.at0, hφ.1, hφ.2.1, P.val _ _ hφ.2.2 (.bl _)⟩
theorem PNeD {K} : PureR2 K (rNeD K) pNeD := by
  intro W H x y d e Q Ψ hx hy hφ P
  exact ⟨d, e, At.dp0 d (SeqAt.canLay_of_shaped hφ.1) hx.at0, At.dp0 e (SeqAt.canLay_of_shaped hφ.2.1) hy.at0, hφ.1, hφ.2.1, P.val _ _ hφ.2.2 (.bl _)⟩
/-- of scalars -/
def eqS : PyData → PyData → Option Bool
  | .int i, .int j => some (decide (i = j))
  | .str i, .str j => some (decide (i = j))
  | .bool i, .bool j => some (decide (i = j))
  | .none, .none => some true
  | .none, .int _ => some false
  | .int _, .none => some false
  | .none, .str _ => some false
  | .str _, .none => some false
  | _, _ => none
def pEq : PO' | [d, e], Ψ => ∃ b, eqS d e = some b ∧ Ψ (.v (.bool b)) | _, _ => False
def pNe : PO' | [d, e], Ψ => ∃ b, eqS d e = some b ∧ Ψ (.v (.bool (!b))) | _, _ => False
theorem eqS_ok {K : PySem.W.Frag} {W : AS} {H : Hp} {x y : V} {d e : PyData} {b : Bool} (hx : Rv K W H x d) (hy : Rv K W H y e) (h : eqS d e = some b) : scal x y = true ∧ decide (x = y) = b := by
  cases d <;> cases e <;> first | (cases h; done) | skip
  · rw [hx.none, hy.none]; cases h; exact ⟨rfl, by simp⟩
  · rw [hx.none, hy.int]; cases h; exact ⟨rfl, by simp⟩
  · rw [hx.none, hy.str]; cases h; exact ⟨rfl, by simp⟩
  · rw [hx.bool, hy.bool]; cases h; exact ⟨rfl, by simp⟩
  · rw [hx.int, hy.none]; cases h; exact ⟨rfl, by simp⟩
  · rw [hx.int, hy.int]; cases h; exact ⟨rfl, by simp⟩
  · rw [hx.str, hy.none]; cases h; exact ⟨rfl, by simp⟩
  · rw [hx.str, hy.str]; cases h; exact ⟨rfl, by simp⟩
theorem PEq {K} : PureR2 K rEq pEq := by
  intro W H x y d e Q Ψ hx hy hφ P
  obtain ⟨b, hb, q⟩ := hφ
  obtain ⟨h1, h2⟩ := eqS_ok hx hy hb
  exact ⟨h1, by rw [h2]; exact P.val _ _ q (.bl _)⟩
theorem PNe {K} : PureR2 K rNe pNe := by
  intro W H x y d e Q Ψ hx hy hφ P
  obtain ⟨b, hb, q⟩ := hφ
  obtain ⟨h1, h2⟩ := eqS_ok hx hy hb
  exact ⟨h1, by rw [h2]; exact P.val _ _ q (.bl _)⟩
/-- is None -/
def isNone : PyData → Bool
  | .none => true
  | _ => false
def pIsN : PO' | [d, .none], Ψ => Ψ (.v (.bool (isNone d))) | _, _ => False
def pNotN : PO' | [d, .none], Ψ => Ψ (.v (.bool (!isNone d))) | _, _ => False
theorem isNone_ok {K : PySem.W.Frag} {W : AS} {H : Hp} {x : V} {d : PyData} (h : Rv K W H x d) : decide (x = .non) = isNone d := by
  rcases h with h | ⟨a, rfl, h⟩
  · cases h <;> simp [isNone]
  · cases h <;> simp [isNone]
theorem PIsN {K} : PureR2 K (fun x y H Q => y = .non ∧ Q (.bl (decide (x = .non))) H) pIsN := by
  intro W H x y d e Q Ψ hx hy hφ P
  cases e <;> first | exact hφ.elim | skip
  exact ⟨hy.none, by rw [isNone_ok hx]; exact P.val _ _ hφ (.bl _)⟩
theorem PNotN {K} : PureR2 K (fun x y H Q => y = .non ∧ Q (.bl (!decide (x = .non))) H) pNotN := by
  intro W H x y d e Q Ψ hx hy hφ P
  cases e <;> first | exact hφ.elim | skip
  exact ⟨hy.none, by rw [isNone_ok hx]; exact P.val _ _ hφ (.bl _)⟩
/-- in, of scalars in a row of scalars -/
def flatD : PyData → Bool
  | .list _ => false
  | .tuple _ => false
  | .dict _ => false
  | _ => true
def toV : PyData → V
  | .none => .non
  | .bool b => .bl b
  | .int i => .int i
  | .str x => .str x
  | _ => .non
theorem toV_ok {K : PySem.W.Frag} {W : AS} {H : Hp} {x : V} {d : PyData} (h : Ac K W H x d) (f : flatD d = true) : x = toV d := by
  cases h <;> first | rfl | cases f
theorem toV_all {K : PySem.W.Frag} {W : AS} {H : Hp} : ∀ {xs : List V} {ds : List PyData}, AcL K W H xs ds → ds.all flatD = true → xs = ds.map toV
  | [], [], .nil, _ => rfl
  | _ :: _, d :: ds, .cons a b, f => by
    have f' : flatD d = true ∧ ds.all flatD = true := by
      rw [List.all_cons] at f
      exact Bool.and_eq_true_iff.mp f
    rw [toV_ok a f'.1, toV_all b f'.2]; rfl
theorem toV_flat {d : PyData} (f : flatD d = true) : flatV (toV d) = true := by
  cases d <;> first | rfl | cases f
def seqOf : PyData → Option (List PyData)
  | .list ds => some ds
  | .tuple ds => some ds
  | _ => none
def pIn : PO' | [d, e], Ψ => flatD d = true ∧ ∃ es, seqOf e = some es ∧ es.all flatD = true ∧ Ψ (.v (.bool (inV (toV d) (es.map toV)))) | _, _ => False
def pNotIn : PO' | [d, e], Ψ => flatD d = true ∧ ∃ es, seqOf e = some es ∧ es.all flatD = true ∧ Ψ (.v (.bool (!inV (toV d) (es.map toV)))) | _, _ => False
theorem flat_all {es : List PyData} (f : es.all flatD = true) : (es.map toV).all flatV = true := by
  rw [List.all_map, List.all_eq_true]
  rw [List.all_eq_true] at f
  exact fun d hd => toV_flat (f d hd)
theorem Rv.flat {K : PySem.W.Frag} {W : AS} {H : Hp} {x : V} {d : PyData} (h : Rv K W H x d) (f : flatD d = true) : x = toV d := by
  rcases h with h | ⟨a, rfl, h⟩
  · exact toV_ok h f
  · cases h <;> cases f
theorem PIn {K} : PureR2 K (rIn K false) pIn := by
  intro W H x y d e Q Ψ hx hy hφ P
  obtain ⟨f, es, he, fs, q⟩ := hφ
  rw [hx.flat f]
  cases e <;> first | (cases he; done) | skip
  · cases he
    obtain ⟨a, xs, rfl, ha, h1⟩ := hy.lst
    rw [toV_all h1 fs] at ha
    exact ⟨a, _, rfl, .inl ha, toV_flat f, flat_all fs, by rw [if_neg (by decide)]; exact P.val _ _ q (.bl _)⟩
  · cases he
    obtain ⟨a, xs, rfl, ha, h1⟩ := hy.tup
    rw [toV_all h1 fs] at ha
    exact ⟨a, _, rfl, .inr ha, toV_flat f, flat_all fs, by rw [if_neg (by decide)]; exact P.val _ _ q (.bl _)⟩
theorem PNotIn {K} : PureR2 K (rIn K true) pNotIn := by
  intro W H x y d e Q Ψ hx hy hφ P
  obtain ⟨f, es, he, fs, q⟩ := hφ
  rw [hx.flat f]
  cases e <;> first | (cases he; done) | skip
  · cases he
    obtain ⟨a, xs, rfl, ha, h1⟩ := hy.lst
    rw [toV_all h1 fs] at ha
    exact ⟨a, _, rfl, .inl ha, toV_flat f, flat_all fs, by rw [if_pos rfl]; exact P.val _ _ q (.bl _)⟩
  · cases he
    obtain ⟨a, xs, rfl, ha, h1⟩ := hy.tup
    rw [toV_all h1 fs] at ha
    exact ⟨a, _, rfl, .inr ha, toV_flat f, flat_all fs, by rw [if_pos rfl]; exact P.val _ _ q (.bl _)⟩
/-- a sign in a text -/
def pInS : PO' | [.str s, .str z], Ψ => ∃ c, s = ⟨#[c]⟩ ∧ Ψ (.v (.bool (decide (c ∈ z.cps.toList)))) | _, _ => False
def pNotInS : PO' | [.str s, .str z], Ψ => ∃ c, s = ⟨#[c]⟩ ∧ Ψ (.v (.bool (!decide (c ∈ z.cps.toList)))) | _, _ => False
theorem PInS {K} : PureR2 K (fun x y H Q => ∃ (c : Nat) (z : Str), x = .str ⟨#[c]⟩ ∧ y = .str z ∧ Q (.bl (decide (c ∈ z.cps.toList))) H) pInS := by
  intro W H x y d e Q Ψ hx hy hφ P
  cases d <;> cases e <;> first | exact hφ.elim | skip
  obtain ⟨c, rfl, q⟩ := hφ
  exact ⟨c, _, hx.str, hy.str, P.val _ _ q (.bl _)⟩
theorem PNotInS {K} : PureR2 K (fun x y H Q => ∃ (c : Nat) (z : Str), x = .str ⟨#[c]⟩ ∧ y = .str z ∧ Q (.bl (!decide (c ∈ z.cps.toList))) H) pNotInS := by
  intro W H x y d e Q Ψ hx hy hφ P
  cases d <;> cases e <;> first | exact hφ.elim | skip
  obtain ⟨c, rfl, q⟩ := hφ
  exact ⟨c, _, hx.str, hy.str, P.val _ _ q (.bl _)⟩
/-- isinstance(v, T) -/
theorem Rv.tyx {K : PySem.W.Frag} {W : AS} {H : Hp} {x : V} {d : PyData} (h : Rv K W H x d) : TyX K H x (tyD d) := h.at0.tyx
def wIsi (T : String) (w : PX) : PX := fun Γ Φ => w Γ fun r Γ1 => ∃ d b, res Γ1 r = some d ∧ (∀ K : PySem.W.Frag, PySem.W.kitOne K (tyD d) (.type T) = some b) ∧ Φ (.v (.bool b)) Γ1
theorem xe_isi {a c : Expr} {T : String} {p pos : Pos} {t : TE} {w : PX} (hg : Gl X "isinstance") (hm : X.mg "isinstance" = none) (h : XE X a t w) (hc : PE X c (tC (.ty T)))
    (h1 : starEach [c] X.env = (false, eval c X.env) :: starEach [] X.env := by rfl) (h2 : starEach [a, c] X.env = (false, eval a X.env) :: starEach [c] X.env := by rfl) (hpl : (backTo pos (starEach [c] X.env)).any (·.1) = false := by rfl) :
    XE X (.Call (.Name "isinstance" p) [a, c] [] pos) (tCB (rIsi X.K) (tCons t (tCons (tC (.ty T)) tNil))) (wIsi T w) := by
  refine ⟨pe_callB call_isi hg hm (by decide +kernel) (pa_cons h.1 (pa_cons hc pa_nil h1) h2) (by decide) (by decide) h2 hpl, fun C hK n f Γ σ H Q Φ off R w k => h.2 C hK n f Γ σ H _ _ off R w ?_⟩
  rintro r x Γ1 H1 ⟨d, b, hd, hb, φ⟩ R1
  have rv := R1.rv (k := .inl n) ent_held hd
  refine ⟨x, .ty T, tyD d, .type T, b, rfl, .ty T, by rw [← hK.k]; exact rv.tyx, hb _, ?_⟩
  exact k _ _ _ _ φ ((R1.drop off).holdV off (.bl _))
/-! ### lists that are changed -/
def wAppend (i : Nat) (w : PX) : PX := fun Γ Φ => w Γ fun r Γ1 => ∃ d Γ2 ds, frz Γ1 r = some (d, Γ2) ∧ Γ2[i]? = some (some (.own (.list ds))) ∧ ds.length < sizeLine ∧ Φ (.v .none) (Γ2.set i (some (.own (.list (ds ++ [d])))))
section
variable {C : Cc} {f : Fr} {Γ : Env} {σ : SS} {H : Hp} {n : Nat}
/-- the list of a slot -/
theorem Rel.slotL {i : Nat} {ds : List PyData} (R : Rel C f Γ σ H) (h : Γ[i]? = some (some (.own (.list ds)))) : ∃ a xs, σ[i]? = some (some (.ref a)) ∧ H a = some (.lst xs) ∧ AcL C.K (WE C (ent f Γ σ)) H xs ds := by
  obtain ⟨x, hx, he⟩ := R.at h
  cases R.e.ok _ _ _ he with
  | own w =>
    cases w with
    | lst h1 h2 => exact ⟨_, _, hx, h1, h2⟩
end
theorem xe_append {e o : Expr} {t : TE} {i : Nat} {w : PX} (h : XE X e t w) (hp : ∀ t, PA X [e] t → PE X o (tBM X.K "list" rAppend (tVar i) t)) (h0 : starEach [e] X.env = (false, eval e X.env) :: starEach [] X.env := by rfl) :
    XE X o (tBM X.K "list" rAppend (tVar i) (tCons t tNil)) (fun Γ Φ => (∃ ds, Γ[i]? = some (some (.own (.list ds)))) ∧ wAppend i w Γ Φ) := by
  refine ⟨hp _ (pa_cons h.1 pa_nil h0), fun C hK n f Γ σ H Q Φ off R w k => ?_⟩
  obtain ⟨⟨ds0, hds0⟩, w⟩ := w
  obtain ⟨a, xs, hσ, hH, _⟩ := R.slotL hds0
  refine ⟨_, hσ, .inl ⟨rfl, xs, .inl (.inl hH)⟩, ?_⟩
  refine h.2 C hK n f Γ σ H _ _ off R w ?_
  rintro r x Γ1 H1 ⟨d, Γ2, ds, hz, hds, hl, φ⟩ R1
  have R2 := R1.frzR off hz
  obtain ⟨a', xs', hσ', hH', ha'⟩ := R2.slotL hds
  rw [hσ] at hσ'; cases hσ'
  refine ⟨a, xs', x, rfl, rfl, hH', by rw [ha'.len]; exact hl, ?_⟩
  have ax := R2.heldV
  have R3 := R2.put (d' := .list (ds ++ [d])) (o := .lst (xs' ++ [x])) hds hσ fun W H' t e => .lst e (AcL.tr t _ (ha'.snoc ax))
  exact k _ _ _ _ φ ((R3.drop off).holdV off .non)
def wExtend (i : Nat) (w : PX) : PX := fun Γ Φ => w Γ fun r Γ1 => ∃ es ds, res Γ1 r = some (.list es) ∧ Γ1[i]? = some (some (.own (.list ds))) ∧ ds.length + es.length ≤ sizeLine ∧ Φ (.v .none) (Γ1.set i (some (.own (.list (ds ++ es)))))
theorem xe_extend {e o : Expr} {t : TE} {i : Nat} {w : PX} (h : XE X e t w) (hp : ∀ t, PA X [e] t → PE X o (tBM X.K "list" rExtend (tVar i) t)) (h0 : starEach [e] X.env = (false, eval e X.env) :: starEach [] X.env := by rfl) :
    XE X o (tBM X.K "list" rExtend (tVar i) (tCons t tNil)) (fun Γ Φ => (∃ ds, Γ[i]? = some (some (.own (.list ds)))) ∧ wExtend i w Γ Φ) := by
  refine ⟨hp _ (pa_cons h.1 pa_nil h0), fun C hK n f Γ σ H Q Φ off R w k => ?_⟩
  obtain ⟨⟨ds0, hds0⟩, w⟩ := w
  obtain ⟨a, xs, hσ, hH, _⟩ := R.slotL hds0
  refine ⟨_, hσ, .inl ⟨rfl, xs, .inl (.inl hH)⟩, ?_⟩
  refine h.2 C hK n f Γ σ H _ _ off R w ?_
  rintro r x Γ1 H1 ⟨es, ds, hz, hds, hl, φ⟩ R1
  obtain ⟨b, ys, rfl, hB, hb⟩ := (R1.rv (k := .inl n) ent_held hz).lst0
  obtain ⟨a', xs', hσ', hH', ha'⟩ := R1.slotL hds
  rw [hσ] at hσ'; cases hσ'
  refine ⟨a, b, xs', ys, rfl, rfl, hH', hB, by rw [ha'.len, hb.len]; exact hl, ?_⟩
  have R3 := R1.put (d' := .list (ds ++ es)) (o := .lst (xs' ++ ys)) hds hσ fun W H' t e => .lst e (AcL.tr t _ (ha'.app hb))
  exact k _ _ _ _ φ ((R3.drop off).holdV off .non)
def wPop (i : Nat) : PX := fun Γ Φ => ∃ ds d, Γ[i]? = some (some (.own (.list (ds ++ [d])))) ∧ Φ (.v d) (Γ.set i (some (.own (.list ds))))
theorem xe_pop {o : Expr} {i : Nat} (hp : PE X o (tBM0 X.K "list" rPop (tVar i))) : XE X o (tBM0 X.K "list" rPop (tVar i)) (wPop i) := by
  refine ⟨hp, fun C hK n f Γ σ H Q Φ off R w k => ?_⟩
  obtain ⟨ds, d, hds, φ⟩ := w
  obtain ⟨a, xs, hσ, hH, ha⟩ := R.slotL hds
  have hl := ha.len
  have hl' : xs.length = ds.length + 1 := by rw [hl]; simp
  obtain ⟨v, hv, av⟩ := ha.at (i := ds.length) (d := d) (by simp)
  refine ⟨_, hσ, .inl ⟨rfl, xs, .inl (.inl hH)⟩, a, xs, v, rfl, rfl, hH, by rw [hl']; exact hv, ?_⟩
  have hd : AcL C.K (WE C (ent f Γ σ)) H xs.dropLast ds := by
    have := AcL.tk ds.length ha
    rw [List.take_left] at this
    rw [List.dropLast_eq_take, hl']
    exact this
  have R1 := R.holdV off av
  have R3 := R1.put (d' := .list ds) (o := .lst xs.dropLast) hds hσ fun W H' t e => .lst e (AcL.tr t _ (AcL.tr (Tr.less fun b hb => WE.keep off (fun _ z => by cases z) b hb) _ hd))
  exact k _ _ _ _ φ R3
end
end Px
end

/-! Px9 -/
section
set_option Elab.async false
set_option linter.all false
set_option maxRecDepth 100000
set_option maxHeartbeats 2000000
set_option autoImplicit false
namespace Px
open PySem PySem.Spec PyProof.Rows L2 Dh

/-! ### several values held -/
def upFs (f : Fr) (n : Nat) : List (PyData × V) → Fr
  | [] => f
  | p :: r => upFs (upF f n (some (.v p.1, p.2))) (n + 1) r
section
variable {C : Cc} {Γ : Env} {σ : SS} {H : Hp} [IK]
theorem Rel.holds : ∀ (ps : List (PyData × V)) {f : Fr} {n : Nat}, Rel C f Γ σ H → Off f n → (∀ p ∈ ps, Ac C.K (WE C (ent f Γ σ)) H p.2 p.1) → Rel C (upFs f n ps) Γ σ H ∧ Off (upFs f n ps) (n + ps.length)
  | [], _, _, R, off, _ => ⟨R, off⟩
  | p :: r, f, n, R, off, h => by
    have R1 := R.holdV off (h p List.mem_cons_self)
    have := Rel.holds r R1 off.up fun q hq => Ac.tr (Tr.less fun a z => WE.keep off (fun _ y => by cases y) a z) _ (h q (List.mem_cons_of_mem _ hq))
    refine ⟨this.1, ?_⟩
    have e : n + (p :: r).length = n + 1 + r.length := by simp; omega
    rw [e]; exact this.2
theorem Rel.unhold : ∀ (ps : List (PyData × V)) {f : Fr} {n : Nat}, Rel C (upFs f n ps) Γ σ H → Off f n → Rel C f Γ σ H ∧ ∀ p ∈ ps, Ac C.K (WE C (ent f Γ σ)) H p.2 p.1
  | [], _, _, R, _ => ⟨R, fun _ h => by cases h⟩
  | p :: r, f, n, R, off => by
    obtain ⟨R1, h⟩ := Rel.unhold r (f := upF f n (some (.v p.1, p.2))) (n := n + 1) R off.up
    refine ⟨R1.drop off, fun q hq => ?_⟩
    rcases List.mem_cons.mp hq with rfl | hq
    · exact Ac.tr (Tr.drop off) _ R1.heldV
    · exact Ac.tr (Tr.drop off) _ (h q hq)
end
theorem AcL.zips {K : PySem.W.Frag} {W : AS} {H : Hp} : ∀ {xs : List V} {ds : List PyData}, AcL K W H xs ds → ∃ ps : List (PyData × V), ps.map (·.1) = ds ∧ ps.map (·.2) = xs ∧ ∀ p ∈ ps, Ac K W H p.2 p.1
  | _, _, .nil => ⟨[], rfl, rfl, fun _ h => by cases h⟩
  | _, _, .cons a b => by
    obtain ⟨ps, h1, h2, h3⟩ := AcL.zips b
    exact ⟨(_, _) :: ps, by rw [List.map_cons, h1], by rw [List.map_cons, h2], fun p hp => by
      rcases List.mem_cons.mp hp with rfl | hp
      · exact a
      · exact h3 p hp⟩
theorem AcL.unzip {K : PySem.W.Frag} {W : AS} {H : Hp} : ∀ {ps : List (PyData × V)}, (∀ p ∈ ps, Ac K W H p.2 p.1) → AcL K W H (ps.map (·.2)) (ps.map (·.1))
  | [], _ => .nil
  | p :: r, h => .cons (h p List.mem_cons_self) (AcL.unzip fun q hq => h q (List.mem_cons_of_mem _ hq))
section
variable {X : Cx} [IK]
def wVs (wa : PX) (wr : PXR) : PXR := fun Γ Φ => wa Γ fun r Γ1 => ∃ d ds, res Γ1 r = some d ∧ seqOf d = some ds ∧ wr Γ1 fun es Γ2 => Φ (ds ++ es) Γ2
theorem xv_star {e : Expr} {es : List Expr} {p : Pos} {ta : TE} {tr : TA} {wa : PX} {wr : PXR} (ha : XE X e ta wa) (hr : XV X es tr wr) (hs : starEach (.Starred e p :: es) X.env = (true, eval e X.env) :: starEach es X.env := by rfl) :
    XV X (.Starred e p :: es) (StX.tStar X.K ta tr) (wVs wa wr) := by
  refine ⟨StX.pa_star ha.1 hr.1 hs, fun C hK n f Γ σ H Q Φ off R w k => ha.2 C hK n f Γ σ H _ _ off R w ?_⟩
  rintro r x Γ1 H1 ⟨d, ds, hd, hds, φ⟩ R1
  have rv := R1.rv (k := .inl n) ent_held hd
  have R0 := R1.drop off
  have go : ∀ a xs, x = V.ref a → (SqT X.K H1 a xs ∨ SqL X.K H1 a xs) → AcL C.K (WE C (ent f Γ1 σ)) H1 xs ds → ∃ p xs, x = V.ref p ∧ (SqT X.K H1 p xs ∨ SqL X.K H1 p xs) ∧ tr σ H1 fun ys H2 => Q (xs ++ ys) H2 := by
    intro a xs ex hq ha'
    refine ⟨a, xs, ex, hq, ?_⟩
    obtain ⟨ps, e1, e2, hps⟩ := ha'.zips
    obtain ⟨R2, off2⟩ := R0.holds ps off hps
    refine hr.2 C hK _ _ Γ1 σ H1 _ _ off2 R2 φ ?_
    intro es ys Γ2 H2 φ2 R3 ays
    obtain ⟨R4, hps2⟩ := R3.unhold ps off
    have a1 := AcL.unzip hps2
    rw [e1, e2] at a1
    refine k _ _ _ _ φ2 R4 (a1.app ?_)
    refine AcL.tr (Tr.less ?_) _ ays
    have : ∀ (ps : List (PyData × V)) (g : Fr) (m : Nat), Off g m → ∀ b, WE C (ent g Γ2 σ) b → WE C (ent (upFs g m ps) Γ2 σ) b := by
      intro ps
      induction ps with
      | nil => exact fun _ _ _ _ z => z
      | cons p r ih => exact fun g m hg b z => ih _ _ hg.up b (WE.drop hg z)
    exact this ps f n off
  cases d <;> first | (cases hds; done) | skip
  · cases hds
    obtain ⟨a, xs, ex, hq, hl⟩ := rv.lst
    exact go a xs ex (.inr (by rw [← hK.k]; exact hq)) (AcL.tr (Tr.drop off) _ hl)
  · cases hds
    obtain ⟨a, xs, ex, hq, hl⟩ := rv.tup
    exact go a xs ex (.inl (by rw [← hK.k]; exact hq)) (AcL.tr (Tr.drop off) _ hl)
/-- g(*y), g a name of one's own that holds a def -/
def tStarV (i : Nat) (f : Addr) (sp : Sp) (te : TE) : TE := fun σ H Q => σ[i]? = some (some (.ref f)) ∧ te σ H fun y H1 => ∃ a xs, y = V.ref a ∧ SqL X.K H1 a xs ∧ sp xs H1 Q fun _ _ _ => False
def wStarV (i : Nat) (f : Addr) (φ : PF) (w : PX) : PX := fun Γ Φ => Γ[i]? = some (some (.raw (.ref f))) ∧ w Γ fun r Γ1 => ∃ ds, res Γ1 (hld r) = some (.list ds) ∧ φ (ds.map D.v) fun r => Φ r Γ1
theorem xe_starV {e : Expr} {x : Str} {p sp_ pos : Pos} {i k : Nat} {f : Addr} {fd : FuncData} {ps : List Str} {φ : PF} {t : TE} {w : PX} (F : FnG X.prog X.w X.K X.mg X.base CX0 k f fd ps (spD X.K IK.ks φ)) (noG : X.A.guards = some []) (room : Room k X.A) (hk : PySem.W.keepIn X.K (.ref f) = true)
    (hb : Binds X.K fd ps []) (hN : X.N[i]? = some x) (hv : Vis X.env.scope x) (he : XE X e t w) (hd : (x == ("__debug__" : Str)) = false := by decide) (hcd : (x == ("__classdict__" : Str)) = false := by decide)
    (hst : starEach [.Starred e sp_] X.env = [(true, eval e X.env)] := by rfl) : XE X (.Call (.Name x p) [.Starred e sp_] [] pos) (tStarV (X := X) i f (spD X.K IK.ks φ) t) (wStarV i f φ w) := by
  refine ⟨⟨fun pins s σ H Q I h => ?_⟩, fun C hK n f' Γ σ H Q Φ off R w k => ?_⟩
  · obtain ⟨hs, h⟩ := h
    refine wpAny_Call_Name_kw (thn ((pe_var (pos := p) (i := i) hN hv hd hcd).run pins s σ H (fun v H1 => v = .ref f ∧ H1 = H) I ⟨.ref f, hs, rfl, rfl⟩) fun u s1 ⟨v, H1, I1, r1, ev, eH⟩ => ?_)
    subst ev
    rw [eH] at I1
    cases r1
    refine PySem.W.callWith_S (h₀ := X.base) I.ok.mod.kin hk (thn (he.1.run pins s1 σ H _ I1 h) fun v s2 ⟨y, H2, I2, ry, a, xs, ey, hxs, q⟩ => ?_) hst
    subst ey
    obtain rfl : v = Value.ref a := ry
    refine StX.star_any I2 (.inr hxs) fun us s3 I3 rv => ⟨I3.kIn, wpAny_call ?_⟩
    have hl : (us ++ []).length = ps.length := by rw [List.append_nil, ← rv.length]; exact F.ln _ _ _ _ q
    have bd := hb s3 us I3.kIn hl
    rw [List.append_nil] at bd
    refine codeAny_mono (F.go X.A X.stack s3 H2 ⟨us, []⟩ us xs _ _ noG room I3.env0 bd rv q) ?_
    intro z s' hz
    cases z with
    | error err => exact hz.elim
    | ok fl =>
      cases fl with
      | ret u => exact I3.after hz
      | next => exact hz.elim
      | brk => exact hz.elim
      | cont => exact hz.elim
  · obtain ⟨hi, w⟩ := w
    obtain ⟨x', hx', he'⟩ := R.at hi
    have : x' = .ref f := by cases R.e.ok _ _ _ he'; rfl
    subst this
    refine ⟨hx', he.2 C hK n f' Γ σ H _ _ off R w ?_⟩
    rintro r y Γ1 H1 ⟨ds, hr, φ1⟩ R1
    obtain ⟨a, xs, ey, hq, ha⟩ := (R1.hld.rv (k := .inl n) ent_held hr).lst
    have R0 := R1.drop off
    have ha' : AcL C.K (WE C (ent f' Γ1 σ)) H1 xs ds := AcL.tr (Tr.less fun b z => WE.drop off z) _ ha
    refine ⟨a, xs, ey, by rw [← hK.k]; exact hq, ?_⟩
    have pl : ∀ {xs : List V} {ds : List PyData}, AcL C.K (WE C (ent f' Γ1 σ)) H1 xs ds → PassL C.K C.U C.ik (WE C (ent f' Γ1 σ)) H1 (ds.map D.v) xs := by
      intro xs ds h
      induction ds generalizing xs with
      | nil => cases h; exact .nil
      | cons d ds ih =>
        cases h with
        | cons a b => exact .cons (.v a) (ih b)
    refine ⟨WE C (ent f' Γ1 σ), C.U, ds.map D.v, fun r => Φ r Γ1, fun b hb => ?_, fun b hb => .inl (R0.e.uM b hb), by rw [← hK.k, ← hK.i]; exact pl ha', φ1, fun r x H' φ2 B => k _ _ _ _ φ2 (R0.back off hK.k hK.i B)⟩
    rcases hb with hb | ⟨j, d, hb⟩
    · exact R0.e.tr _ hb
    · cases R0.e.ok _ _ _ hb with
      | own h => exact h.there
/-! ### a dict of the module, with text keys -/
def wKd (T : Str → Option D) (w : PX) : PX := fun Γ Φ => w Γ fun r Γ1 => ∃ z c, res Γ1 r = some (.str z) ∧ T z = some c ∧ Φ c Γ1
structure Tab (K : PySem.W.Frag) (w : World) (da : Addr) (T : Str → Option D) : Prop where
  get : ∀ z c, T z = some c → ∃ v, KDct K w da z v ∧ ((∃ d, c = .v d ∧ ∀ W H, Ac K W H v d) ∨ c = .raw v)
theorem xe_kd {a b : Expr} {pos : Pos} {da : Addr} {T : Str → Option D} {t : TE} {w : PX} (h : Tab X.K X.w da T) (ha : PE X a (tC (.ref da))) (hb : XE X b t w) (hs : PlainIx b) : XE X (.Subscript a b pos) (tOp (rIxD X.K X.w) (tC (.ref da)) t) (wKd T w) := by
  refine ⟨pe_ix ix_kdict ha hb.1 hs, fun C hK n f Γ σ H Q Φ off R w k => hb.2 C hK n f Γ σ H _ _ off R w ?_⟩
  rintro r x Γ1 H1 ⟨z, c, hz, hc, φ⟩ R1
  have e := (R1.rv (k := .inl n) ent_held hz).str
  subst e
  obtain ⟨v, kd, hv⟩ := h.get z c hc
  refine ⟨da, z, v, rfl, rfl, kd, ?_⟩
  rcases hv with ⟨d, rfl, hd⟩ | rfl
  · exact k _ _ _ _ φ ((R1.drop off).holdV off (by rw [hK.k]; exact hd _ _))
  · exact k _ _ _ _ φ ((R1.drop off).hold off (fun _ z => by cases z) .raw)
structure TabIn (K : PySem.W.Frag) (w : World) (da : Addr) (es : Array DictEntry) (n : Nat) (B : Str → Option Bool) : Prop where
  kd : KDict K w da es n
  ns : ∀ z b, B z = some b → ∃ r, PySem.W.nsIn K da z = some r ∧ r.isSome = b
def wInD (B : Str → Option Bool) (neg : Bool) (w : PX) : PX := fun Γ Φ => w Γ fun r Γ1 => ∃ z b, res Γ1 r = some (.str z) ∧ B z = some b ∧ Φ (.v (.bool (if neg then !b else b))) Γ1
def rNK (K : PySem.W.Frag) (da : Addr) (neg : Bool) : R2 := fun x y H Q => ∃ (z : Str) (r : Option Value), x = .str z ∧ y = .ref da ∧ PySem.W.nsIn K da z = some r ∧ Q (.bl (if neg then !r.isSome else r.isSome)) H
theorem de_inD {C : Cc} {da : Addr} {B : Str → Option Bool} {neg : Bool} {t : TE} {w : PX} {K : PySem.W.Frag} (h : ∀ z b, B z = some b → ∃ r : Option Value, PySem.W.nsIn K da z = some r ∧ r.isSome = b) (hb : DE C t w) :
    DE C (tOp (rNK K da neg) t (tC (.ref da))) (wInD B neg w) := by
  intro n f Γ σ H Q Φ off R w k
  refine hb n f Γ σ H _ _ off R w ?_
  rintro r x Γ1 H1 ⟨z, b, hz, hb', φ⟩ R1
  have e := (R1.rv (k := .inl n) ent_held hz).str
  obtain ⟨ro, h1, h2⟩ := h z b hb'
  refine ⟨z, ro, e, rfl, h1, k _ _ _ _ φ ((R1.drop off).holdV off ?_)⟩
  rw [h2]; exact .bl _
theorem op_nk {da : Addr} {es : Array DictEntry} {n : Nat} (h : KDict X.K X.w da es n) : OpR X (compareOp .NotIn) (rNK X.K da true) := op_notIn_kd h
theorem op_ik {da : Addr} {es : Array DictEntry} {n : Nat} (h : KDict X.K X.w da es n) : OpR X (compareOp .In) (rNK X.K da false) := op_in_kd h
theorem xt_notInKd {a b : Expr} {pos : Pos} {da : Addr} {es : Array DictEntry} {n : Nat} {B : Str → Option Bool} {t : TE} {w : PX} (h : TabIn X.K X.w da es n B) (hb : PE X b (tC (.ref da))) (ha : XE X a t w) (hm : behindInMarks .NotIn b = false) :
    XT X (.Compare a [.NotIn] [b] pos) (tTest (tOp (rNK X.K da true) t (tC (.ref da)))) (wB (wInD B true w)) :=
  ⟨pt_cmpR (op_nk h.kd) ha.1 hb hm, fun C hK => dt_B (de_inD (C := C) (neg := true) (K := X.K) h.ns (ha.2 C hK))⟩
end
end Px
end

/-! Px10 -/
section
set_option Elab.async false
set_option linter.all false
set_option maxRecDepth 100000
set_option maxHeartbeats 2000000
set_option autoImplicit false
namespace Px
open PySem PySem.Spec PyProof.Rows L2 Dh

theorem yT {A B : Prop} (h : A) : (true = true → A) ∧ (true = false → B) := ⟨fun _ => h, fun e => (nomatch e)⟩
theorem yF {A B : Prop} (h : B) : (false = true → A) ∧ (false = false → B) := ⟨fun e => (nomatch e), fun _ => h⟩
theorem isi {T : String} {d : PyData} {b : Bool} (h : IsT T d b) : ∀ K : PySem.W.Frag, PySem.W.kitOne K (tyD d) (.type T) = some b := fun K => h.kit
/-! ### dicts with int and text keys -/
abbrev KD := List (Key × PyData)
def dkD (kds : KD) : PyData := .dict (kds.map fun p => (keyD p.1, p.2))
def valD (kds : KD) (k : Key) : Option PyData := (kds.find? fun p => decide (p.1 = k)).map (·.2)
def putD (kds : KD) (k : Key) (d : PyData) : KD := if (kds.any fun p => decide (p.1 = k)) = true then kds.map (fun p => if p.1 = k then (p.1, d) else p) else kds ++ [(k, d)]
inductive AcP (K : PySem.W.Frag) (W : AS) (H : Hp) : List (Key × V) → KD → Prop
  | nil : AcP K W H [] []
  | cons {k : Key} {v : V} {d : PyData} {kvs : List (Key × V)} {kds : KD} : Ac K W H v d → AcP K W H kvs kds → AcP K W H ((k, v) :: kvs) ((k, d) :: kds)
theorem keyD_inj {a b : Key} (h : keyD a = keyD b) : a = b := by
  cases a <;> cases b <;> cases h <;> rfl
section
variable {K : PySem.W.Frag} {W W' : AS} {H H' : Hp}
theorem AcP.of : ∀ {kds : KD} {kvs : List (Key × V)}, AcK K W H kvs (kds.map fun p => (keyD p.1, p.2)) → AcP K W H kvs kds
  | [], _, h => by cases h; exact .nil
  | (k, d) :: r, kvs, h => by
    have h' : AcK K W H kvs ((keyD k, d) :: r.map fun p => (keyD p.1, p.2)) := h
    generalize e : keyD k = kk at h'
    cases h' with
    | cons a b =>
      rw [keyD_inj e]
      exact .cons a (AcP.of b)
theorem AcP.ack : ∀ {kds : KD} {kvs : List (Key × V)}, AcP K W H kvs kds → AcK K W H kvs (kds.map fun p => (keyD p.1, p.2))
  | _, _, .nil => .nil
  | _, _, .cons a b => .cons a (AcP.ack b)
theorem AcP.tr (t : Tr W H W' H') {kds : KD} {kvs : List (Key × V)} (h : AcP K W H kvs kds) : AcP K W' H' kvs kds := AcP.of (AcK.tr t _ h.ack)
theorem AcP.len : ∀ {kds : KD} {kvs : List (Key × V)}, AcP K W H kvs kds → kvs.length = kds.length
  | _, _, .nil => rfl
  | _, _, .cons _ b => by simp [AcP.len b]
theorem AcP.keys : ∀ {kds : KD} {kvs : List (Key × V)}, AcP K W H kvs kds → kvs.map (·.1) = kds.map (·.1)
  | _, _, .nil => rfl
  | _, _, .cons _ b => by simp [AcP.keys b]
theorem AcP.val : ∀ {kds : KD} {kvs : List (Key × V)}, AcP K W H kvs kds → ∀ (k : Key) (d : PyData), valD kds k = some d → ∃ v, valV kvs k = some v ∧ Ac K W H v d
  | _, _, .nil, _, _, e => by cases e
  | _, _, @AcP.cons _ _ _ j v d0 kvs kds a b, k, d, e => by
    unfold valD at e
    unfold valV
    by_cases q : j = k
    · simp [List.find?_cons, q] at e ⊢
      subst e; exact a
    · simp only [List.find?_cons, q, decide_false] at e ⊢
      exact AcP.val b k d e
theorem AcP.valN : ∀ {kds : KD} {kvs : List (Key × V)}, AcP K W H kvs kds → ∀ (k : Key), valD kds k = none → valV kvs k = none
  | _, _, .nil, _, _ => rfl
  | _, _, @AcP.cons _ _ _ j v d0 kvs kds a b, k, e => by
    unfold valD at e
    unfold valV
    by_cases q : j = k
    · simp [List.find?_cons, q] at e
    · simp only [List.find?_cons, q, decide_false] at e ⊢
      exact AcP.valN b k e
theorem AcP.any : ∀ {kds : KD} {kvs : List (Key × V)}, AcP K W H kvs kds → ∀ k : Key, (kvs.any fun p => decide (p.1 = k)) = kds.any fun p => decide (p.1 = k)
  | _, _, .nil, _ => rfl
  | _, _, .cons _ b, k => by simp only [List.any_cons, AcP.any b k]
theorem AcP.app : ∀ {kds es : KD} {kvs vs : List (Key × V)}, AcP K W H kvs kds → AcP K W H vs es → AcP K W H (kvs ++ vs) (kds ++ es)
  | _, _, _, _, .nil, h => h
  | _, _, _, _, .cons a b, h => .cons a (AcP.app b h)
theorem AcP.map : ∀ {kds : KD} {kvs : List (Key × V)}, AcP K W H kvs kds → ∀ {k : Key} {v : V} {d : PyData}, Ac K W H v d → AcP K W H (kvs.map fun p => if p.1 = k then (p.1, v) else p) (kds.map fun p => if p.1 = k then (p.1, d) else p)
  | _, _, .nil, _, _, _, _ => .nil
  | _, _, @AcP.cons _ _ _ j _ _ kvs kds a b, k, v, d, h => by
    by_cases q : j = k
    · simp only [List.map_cons, q, if_true]; exact .cons h (AcP.map b h)
    · simp only [List.map_cons, q, if_false]; exact .cons a (AcP.map b h)
theorem AcP.put {kds : KD} {kvs : List (Key × V)} (h : AcP K W H kvs kds) {k : Key} {v : V} {d : PyData} (a : Ac K W H v d) : AcP K W H (putK kvs k v) (putD kds k d) := by
  unfold putK putD
  rw [h.any k]
  split
  · exact h.map a
  · exact h.app (.cons a .nil)
theorem Rv.dk {x : V} {kds : KD} (h : Rv K W H x (dkD kds)) : ∃ a kvs, x = .ref a ∧ H a = some (.dK kvs) ∧ AcP K W H kvs kds := by
  obtain ⟨a, kvs, e, h1, h2⟩ := h.dic
  exact ⟨a, kvs, e, h1, AcP.of h2⟩
theorem Ow.dk {a : Addr} {kvs : List (Key × V)} {kds : KD} (e : H a = some (.dK kvs)) (h : AcP K W H kvs kds) : Ow K W H a (dkD kds) := .dic e h.ack
theorem Ow.isDk {a : Addr} {kds : KD} (h : Ow K W H a (dkD kds)) : ∃ kvs, H a = some (.dK kvs) ∧ AcP K W H kvs kds := by
  cases h with
  | dic h1 h2 => exact ⟨_, h1, AcP.of h2⟩
theorem keyV {k : Key} {x : V} (h : Rv K W H x (keyD k)) : x = kV k := by
  cases k with
  | inl i => exact h.int
  | inr s => exact h.str
end
section
variable {X : Cx} [IK]
def wDget (wd wk : PX) : PX := fun Γ Φ => wd Γ fun r Γ1 => wk Γ1 fun s Γ2 => ∃ kds k d, res Γ2 (hld r) = some (dkD kds) ∧ res Γ2 s = some (keyD k) ∧ valD kds k = some d ∧ Φ (.v d) Γ2
theorem xe_dget {o i : Expr} {pos : Pos} {td tk : TE} {wd wk : PX} (hu : X.A.units + 1 < cLine) (ho : XE X o td wd) (hi : XE X i tk wk) (hs : NoSl i := by intro _ _; rfl) : XE X (.Subscript o i pos) (tDGet td tk) (wDget wd wk) := by
  refine ⟨pe_dget hu ho.1 hi.1 hs, fun C hK n f Γ σ H Q Φ off R w k => ho.2 C hK n f Γ σ H _ _ off R w ?_⟩
  intro r x Γ1 H1 φ1 R1
  refine hi.2 C hK (n + 1) _ Γ1 σ H1 _ _ off.up R1.hld φ1 ?_
  rintro s y Γ2 H2 ⟨kds, kk, d, h1, h2, h3, φ⟩ R2
  have ey := keyV (R2.rv (k := .inl (n + 1)) ent_held h2)
  have R3 := R2.drop off.up
  obtain ⟨a, kvs, rfl, ha, hp⟩ := (R3.rv (k := .inl n) ent_held h1).dk
  obtain ⟨v, hv, av⟩ := hp.val kk d h3
  refine ⟨a, v, rfl, ?_, k _ _ _ _ φ ((R3.drop off).holdV off (Ac.tr (Tr.drop off) _ av))⟩
  rw [ey, ← hv]
  exact DGet.k ha
/-! ### a dict display -/
abbrev PXD := Env → (KD → Env → Prop) → Prop
def DPs (C : Cc) (trs : List (TE × TE)) (w : PXD) : Prop := ∀ (n : Nat) (f : Fr) (Γ : Env) (σ : SS) (H : Hp) (Q : List (V × V) → Hp → Prop) (Φ : KD → Env → Prop), Off f n → Rel C f Γ σ H → w Γ Φ →
  (∀ kds (kvs : List (Key × V)) Γ' H', Φ kds Γ' → Rel C f Γ' σ H' → AcP C.K (WE C (ent f Γ' σ)) H' kvs kds → Q (kvs.map fun kv => (kV kv.1, kv.2)) H') → tPairs trs σ H Q
def XPs (X : Cx) (pos : Pos) (ks : List (Option Expr)) (vs : List Expr) (trs : List (TE × TE)) (w : PXD) : Prop := PPs X pos ks vs trs ∧ ∀ C : Cc, Cok C X → DPs C trs w
def wDn : PXD := fun Γ Φ => Φ [] Γ
theorem xps_nil {pos : Pos} : XPs X pos [] [] [] wDn := ⟨pps_nil, fun C hK n f Γ σ H Q Φ off R w k => k [] [] _ _ w R .nil⟩
def wDc (wk wv : PX) (wr : PXD) : PXD := fun Γ Φ => wk Γ fun r Γ1 => ∃ k, r = .v (keyD k) ∧ wv Γ1 fun s Γ2 => ∃ d Γ3, frz Γ2 s = some (d, Γ3) ∧ wr Γ3 fun kds Γ4 => Φ ((k, d) :: kds) Γ4
theorem xps_cons {pos : Pos} {k v : Expr} {ks : List (Option Expr)} {vs : List Expr} {tk tv : TE} {trs : List (TE × TE)} {wk wv : PX} {wr : PXD} (hk : XE X k tk wk) (hv : XE X v tv wv) (hr : XPs X pos ks vs trs wr) : XPs X pos (some k :: ks) (v :: vs) ((tk, tv) :: trs) (wDc wk wv wr) := by
  refine ⟨pps_cons hk.1 hv.1 hr.1, fun C hK n f Γ σ H Q Φ off R w kk => hk.2 C hK n f Γ σ H _ _ off R w ?_⟩
  rintro r x Γ1 H1 ⟨key, rfl, φ1⟩ R1
  have ex : x = kV key := keyV (.inl R1.heldV)
  refine hv.2 C hK n f Γ1 σ H1 _ _ off (R1.drop off) φ1 ?_
  rintro s y Γ2 H2 ⟨d, Γ3, hz, φ2⟩ R2
  have R3 := R2.frzR off hz
  refine hr.2 C hK (n + 1) _ Γ3 σ H2 _ _ off.up R3 φ2 ?_
  intro kds kvs Γ4 H4 φ4 R4 ap
  have := kk _ ((key, y) :: kvs) _ _ φ4 (R4.drop off) (.cons (Ac.tr (Tr.drop off) _ R4.heldV) (ap.tr (Tr.drop off)))
  rw [ex]
  exact this
def mergeD (kds more : KD) : KD := more.foldl (fun acc p => putD acc p.1 p.2) kds
theorem AcP.merge {K : PySem.W.Frag} {W : AS} {H : Hp} : ∀ {more : KD} {ms : List (Key × V)} {kds : KD} {kvs : List (Key × V)}, AcP K W H ms more → AcP K W H kvs kds → AcP K W H (mergeK kvs ms) (mergeD kds more)
  | _, _, _, _, .nil, h => h
  | (k, d) :: _, (_, v) :: _, kds, kvs, .cons a b, h => (AcP.merge b (h.put a) : AcP K W H (mergeK (putK kvs k v) _) (mergeD (putD kds k d) _))
def wDict (wA : PXD) : PX := fun Γ Φ => wA Γ fun kds Γ1 => kds.length ≤ 15 ∧ Φ (.own (dkD (mergeD [] kds))) Γ1
theorem xe_dict {pos : Pos} {keys : List (Option Expr)} {values : List Expr} {trs : List (TE × TE)} {wA : PXD} (h : XPs X pos keys values trs wA) (hall : keys.all (·.isSome) = true := by rfl) (hl : keys.length = values.length := by rfl) (h0 : keys ≠ [] := by (intro z; cases z)) (h15 : keys.length ≤ 15 := by decide) :
    XE X (.Dict keys values pos) (tDisp trs) (wDict wA) := by
  refine ⟨pe_disp h.1 hall hl h0 h15, fun C hK n f Γ σ H Q Φ off R w k => ?_⟩
  intro p hp
  have R0 := R.mine (n := n) (o := .dK []) (d := dkD []) off hp fun W H' t e => Ow.dk e .nil
  refine h.2 C hK (n + 1) _ Γ σ _ _ _ off.up R0 w ?_
  rintro kds kvs Γ1 H1 ⟨hl, φ⟩ R1 ap
  cases R1.e.ok (.inl n) _ _ ent_held with
  | own ow =>
    obtain ⟨kvs0, h1, h2⟩ := ow.isDk
    cases h2
    refine ⟨h1, kvs, rfl, by rw [ap.len]; exact hl, ?_⟩
    have R2 := R1.putHeld (m := n) (d' := dkD (mergeD [] kds)) (o := .dK (mergeK [] kvs)) upF_same fun W H' t e => Ow.dk e ((ap.tr t).merge .nil)
    rw [upF_upF] at R2
    exact k _ _ _ _ φ R2
theorem xe_dict0 {pos : Pos} : XE X (.Dict [] [] pos) tDNewK (fun Γ Φ => Φ (.own (dkD [])) Γ) :=
  ⟨pe_dnewK, fun C hK n f Γ σ H Q Φ off R w k p hp => k _ _ _ _ w (R.mine off hp fun W H' t e => Ow.dk e .nil)⟩
/-! ### d[k] as a target -/
theorem Rel.slotD {C : Cc} {f : Fr} {Γ : Env} {σ : SS} {H : Hp} {i : Nat} {kds : KD} (R : Rel C f Γ σ H) (h : Γ[i]? = some (some (.own (dkD kds)))) : ∃ a kvs, σ[i]? = some (some (.ref a)) ∧ H a = some (.dK kvs) ∧ AcP C.K (WE C (ent f Γ σ)) H kvs kds := by
  obtain ⟨x, hx, he⟩ := R.at h
  cases R.e.ok _ _ _ he with
  | own w =>
    obtain ⟨kvs, h1, h2⟩ := w.isDk
    exact ⟨_, _, hx, h1, h2⟩
def gDput (i : Nat) (k : Key) : PG' := fun d Γ Φ => ∃ kds, Γ[i]? = some (some (.own (dkD kds))) ∧ kds.length < sizeLine ∧ Φ (Γ.set i (some (.own (dkD (putD kds k d)))))
theorem xg_dput {o e : Expr} {pos : Pos} {i : Nat} {k : Key} (hu : X.A.units + 1 < cLine) (ho : PE X o (tVar i)) (hk : PE X e (tC (kV k))) (ha : ∀ v, assign (.Subscript o e pos) X.env v = (do
      let ov ← holding [v] (eval o X.env)
      let iv ← holding [v, ov] (eval e X.env)
      standAt pos
      holding [v, ov, iv] (setItem ov iv v)
      release [v, ov, iv] []) := by intro _; rfl) : XG X (.Subscript o e pos) (gSub (tVar i) (tC (kV k)) rSetD) (gDput i k) [] := by
  refine ⟨pg_sub ho hk (set_dict hu) ha, fun C hK n f Γ σ H x d Q Φ off nb R a φ kk => ?_⟩
  obtain ⟨kds, hg, hl, φ⟩ := φ
  obtain ⟨p, kvs, hσ, hH, ap⟩ := R.slotD hg
  refine ⟨.ref p, hσ, p, _, rfl, DPut.k hH (by rw [ap.len]; exact hl), ?_⟩
  have he : ent f Γ σ (.inr i) = some (.own (dkD kds), .ref p) := by
    show slotE Γ[i]? σ[i]? = _
    rw [hg, hσ]; rfl
  have R1 := R.put (d' := dkD (putD kds k d)) (o := .dK (putK kvs k x)) hg hσ fun W H' t e => Ow.dk e ((ap.tr t).put (Ac.tr t _ a))
  refine kk _ _ _ φ R1 ?_ (fun _ _ => rfl)
  intro b u hb nb'
  have ne : b ≠ p := fun z => nb' (.inr ⟨.inr i, _, by rw [z]; exact he⟩)
  refine ⟨by rw [upd_ne ne]; exact hb, ?_⟩
  rintro (z | ⟨j, d', z⟩)
  · exact nb' (.inl z)
  · have hi : i < Γ.length := (List.getElem?_eq_some_iff.mp hg).1
    rw [ent_tell hi hσ] at z
    by_cases q : j = .inr i
    · subst q; rw [upE_same] at z; cases z; exact ne rfl
    · rw [upE_ne q] at z; exact nb' (.inr ⟨_, _, z⟩)
/-! ### a < b < c -/
def wChain (φ ψ : PO') (wa wb wc : PX) : PX := fun Γ Φ => wa Γ fun r Γ1 => wb Γ1 fun s Γ2 => ∃ d e, res Γ2 r = some d ∧ res Γ2 s = some e ∧ φ [d, e] fun c => ∃ b, c = .v (.bool b) ∧
  (b = true → wc Γ2 fun u Γ3 => ∃ e' g, res Γ3 s = some e' ∧ res Γ3 u = some g ∧ ψ [e', g] fun c => Φ c Γ3) ∧ (b = false → Φ (.v (.bool false)) Γ2)
theorem xe_chain {a b c : Expr} {op op' : CmpOp} {pos : Pos} {r r' : R2} {φ ψ : PO'} {ta tb tc : TE} {wa wb wc : PX} (ho : OpR X (compareOp op) r) (hr : PureR2 X.K r φ) (ho' : OpR X (compareOp op') r') (hr' : PureR2 X.K r' ψ) (ha : XE X a ta wa) (hb : XE X b tb wb) (hc : XE X c tc wc)
    (hm : lastMarks [op, op'] [b, c] = false := by with_unfolding_all rfl) : XE X (.Compare a [op, op'] [b, c] pos) (tChain r r' ta tb tc) (wChain φ ψ wa wb wc) := by
  refine ⟨pe_chain ho ho' ha.1 hb.1 hc.1 hm, fun C hK n f Γ σ H Q Φ off R w k => ha.2 C hK n f Γ σ H _ _ off R w ?_⟩
  intro r1 x Γ1 H1 φ1 R1
  refine hb.2 C hK (n + 1) _ Γ1 σ H1 _ _ off.up R1 φ1 ?_
  rintro r2 y Γ2 H2 ⟨d, e, hd, he, φ2⟩ R2
  have h2 := (R2.rv ent_held he).tr (Tr.drop off.up)
  have h1 := ((R2.drop off.up).rv ent_held hd).tr (Tr.drop off)
  have h2 := h2.tr (Tr.drop off)
  rw [hK.k] at h1 h2
  refine hr _ _ _ _ _ _ _ _ h1 h2 φ2 ⟨fun z cc hz ac => ?_, fun _ _ _ hz => ?_, fun _ _ _ hz => ?_, fun _ _ _ hz => ?_, fun _ hz => ?_⟩
  · obtain ⟨b, e1, f1, f2⟩ := hz
    cases e1
    cases ac
    refine ⟨b, rfl, ?_⟩
    cases b with
    | true =>
      rw [if_pos rfl]
      refine hc.2 C hK (n + 2) _ Γ2 σ H2 _ _ off.up.up R2 (f1 rfl) ?_
      rintro r3 z Γ3 H3 ⟨e', g, he', hg, φ3⟩ R3
      have h3 := (R3.rv ent_held hg).tr (Tr.drop off.up.up)
      have R4 := R3.drop off.up.up
      have h2 := (R4.rv (k := .inl (n + 1)) ent_held he').tr (Tr.drop off.up)
      have R5 := R4.drop off.up
      have h2 := h2.tr (Tr.drop off)
      have h3 := (h3.tr (Tr.drop off.up)).tr (Tr.drop off)
      exact hr' _ _ _ _ _ _ _ _ (by rw [← hK.k]; exact h2) (by rw [← hK.k]; exact h3) φ3 (by rw [← hK.k]; exact (R5.drop off).post off k)
    | false =>
      rw [if_neg (by decide)]
      exact k _ _ _ _ (f2 rfl) (((R2.drop off.up).drop off).holdV off (.bl _))
  · obtain ⟨b, e1, _⟩ := hz; cases e1
  · obtain ⟨b, e1, _⟩ := hz; cases e1
  · obtain ⟨b, e1, _⟩ := hz; cases e1
  · obtain ⟨b, e1, _⟩ := hz; cases e1
/-- a chain as a test -/
theorem xt_chain {e : Expr} {r r' : R2} {ta tb tc : TE} {w : PX} (h : XE X e (tChain r r' ta tb tc) w) (p : PT X e (tTest (tChain r r' ta tb tc))) : XT X e (tTest (tChain r r' ta tb tc)) (wB w) :=
  ⟨p, fun C hK => dt_B (h.2 C hK)⟩
/-! ### a, b = x, y -/
def wPar (i j : Nat) (wa wb : PX) : PXS := fun Γ Φ => wa Γ fun r Γ1 => ∃ r' Γ2, sto Γ1 r = some (r', Γ2) ∧ wb Γ2 fun s Γ3 => ∃ s' Γ4, sto Γ3 s = some (s', Γ4) ∧ Φ.nx ((Γ4.set j (some s')).set i (some r'))
theorem xs_par {i j : Nat} {x y : Str} {a b : Expr} {ta tb : TE} {wa wb : PX} {px py pt pos : Pos} {kt k2 pt2} (hc : X.calm = true) (hN : X.N.Nodup) (hi : X.N[i]? = some x) (hj : X.N[j]? = some y) (hij : i ≠ j)
    (hx : X.env.scope.names.lookup x = some .local) (hy : X.env.scope.names.lookup y = some .local) (ha : XE X a ta wa) (hb : XE X b tb wb)
    (hw : swappedStores [.Tuple [.Name x px, .Name y py] kt pt] (.Tuple [a, b] k2 pt2) X.env = pure (some [x, y]))
    (hs : swapsWithSole [.Tuple [.Name x px, .Name y py] kt pt] (.Tuple [a, b] k2 pt2) pos.line X.env = pure false := by rfl)
    (h1 : starEach [a, b] X.env = (false, eval a X.env) :: starEach [b] X.env := by rfl) (h2 : starEach [b] X.env = (false, eval b X.env) :: starEach [] X.env := by rfl) :
    XS X (.Assign [.Tuple [.Name x px, .Name y py] kt pt] (.Tuple [a, b] k2 pt2) pos) (tPar i j (tCons ta (tCons tb tNil))) (wPar i j wa wb) := by
  refine ⟨ps_par hc hN hi hj hij hx hy (pa_cons ha.1 (pa_cons hb.1 pa_nil h2) h1) hw hs, fun C hK n f Γ σ H D Φ off nb R w F => ha.2 C hK n f Γ σ H _ _ off R w ?_⟩
  rintro r v Γ1 H1 ⟨r', Γ2, hz, φ1⟩ R1
  obtain ⟨R2, nr⟩ := R1.sto off hz
  refine hb.2 C hK (n + 1) _ Γ2 σ H1 _ _ off.up R2 φ1 ?_
  rintro s u Γ3 H3 ⟨s', Γ4, hz2, φ2⟩ R3
  obtain ⟨R4, ns⟩ := R3.sto off.up hz2
  have nb2 : NoBor (upF f n (some (r', v))) := fun m i y => by
    unfold upF; split
    · intro z; cases z; exact nr _ rfl
    · exact nb m i y
  have R5 := R4.toSlot' off.up nb2 ns j
  have R6 := R5.toSlot' off nb nr i
  refine ⟨v, u, rfl, F.nx _ _ _ φ2 ?_⟩
  rw [List.set_comm _ _ hij]
  exact R6
/-! ### more operations -/
def wUn (φ : PyData → (D → Prop) → Prop) (w : PX) : PX := fun Γ Φ => w Γ fun r Γ1 => ∃ d, res Γ1 r = some d ∧ φ d fun c => Φ c Γ1
theorem xe_neg {a : Expr} {pos : Pos} {t : TE} {w : PX} (h : XE X a t w) : XE X (.UnaryOp .USub a pos) (tUn (rU fun i => .int (-i)) t) (fun Γ Φ => w Γ fun r Γ1 => ∃ i, r = .v (.int i) ∧ Φ (.v (.int (-i))) Γ1) := by
  refine ⟨pe_un un_neg h.1, fun C hK n f Γ σ H Q Φ off R w k => h.2 C hK n f Γ σ H _ _ off R w ?_⟩
  rintro r x Γ1 H1 ⟨i, rfl, φ⟩ R1
  have := R1.heldV
  cases this
  exact ⟨i, rfl, k _ _ _ _ φ ((R1.drop off).holdV off (.int _))⟩
/-- truth of a row -/
def wTru (w : PX) : PXT := fun Γ Φ => w Γ fun r Γ1 => ∃ d ds, res Γ1 r = some d ∧ seqOf d = some ds ∧ Φ (!ds.isEmpty) Γ1
def pMin2 : PO' | [.int i, .int j], Ψ => Ψ (.v (.int (if j < i then j else i))) | _, _ => False
theorem PMin2 : PureR X.K (fun xs H Q => ∃ i j, xs = [.int i, .int j] ∧ Q (.int (if j < i then j else i)) H) pMin2 := by
  intro W H xs ds Q Ψ rv hφ P
  match ds, rv, hφ with
  | [d, e], rv, hφ =>
    obtain ⟨x, y, rfl, h1, h2⟩ := rv.two
    cases d <;> cases e <;> first | exact hφ.elim | skip
    rw [h1.int, h2.int]
    exact ⟨_, _, rfl, P.val _ _ hφ (.int _)⟩
  | [], _, h => exact h.elim
  | [_], _, h => exact absurd h (by simp [pMin2])
  | _ :: _ :: _ :: _, _, h => exact absurd h (by simp [pMin2])
def pSortI : PO' | [.list ds], Ψ => ∃ ns : List Int, ds = ns.map .int ∧ ∀ ns' : List Int, ns'.Perm ns → ns'.Pairwise (· ≤ ·) → Ψ (.own (.list (ns'.map .int))) | _, _ => False
theorem PSortI : PureR X.K (rSortedI X.K) pSortI := by
  intro W H xs ds Q Ψ rv hφ P
  match ds, rv, hφ with
  | [d], rv, hφ =>
    obtain ⟨x, rfl, h1⟩ := rv.one
    cases d <;> first | exact hφ.elim | skip
    obtain ⟨ns, rfl, q⟩ := hφ
    obtain ⟨a, ys, rfl, ha, h2⟩ := h1.lst
    rw [AcL.ints _ h2] at ha
    exact ⟨a, ns, rfl, ha, fun ns' p hp hs hn => P.lst _ _ _ (q ns' hp hs) hn (AcL.ofInts _)⟩
  | [], _, h => exact h.elim
  | _ :: _ :: _, _, h => exact absurd h (by simp [pSortI])
def pSortS : PO' | [.list ds], Ψ => ∃ zs : List Str, ds = zs.map .str ∧ zs.length < 64 ∧ ∀ ys : List Str, ys.Perm zs → sortedS ys = true → Ψ (.own (.list (ys.map .str))) | _, _ => False
theorem PSortS : PureR X.K (rSortedS X.K) pSortS := by
  intro W H xs ds Q Ψ rv hφ P
  match ds, rv, hφ with
  | [d], rv, hφ =>
    obtain ⟨x, rfl, h1⟩ := rv.one
    cases d <;> first | exact hφ.elim | skip
    obtain ⟨ns, rfl, h64, q⟩ := hφ
    obtain ⟨a, ys, rfl, ha, h2⟩ := h1.lst
    rw [AcL.strs _ h2] at ha
    exact ⟨a, ns, rfl, ha, h64, fun ns' p hp hs hn => P.lst _ _ _ (q ns' hp hs) hn (AcL.ofStrs _)⟩
  | [], _, h => exact h.elim
  | _ :: _ :: _, _, h => exact absurd h (by simp [pSortS])
/-- list(d): its keys -/
def pKeys : PO' | [d], Ψ => ∃ kds, d = dkD kds ∧ Ψ (.own (.list (kds.map fun p => keyD p.1))) | _, _ => False
theorem AcP.keysL {K : PySem.W.Frag} {W : AS} {H : Hp} : ∀ {kds : KD} {kvs : List (Key × V)}, AcP K W H kvs kds → AcL K W H (kvs.map fun kv => kV kv.1) (kds.map fun p => keyD p.1)
  | _, _, .nil => .nil
  | _, _, @AcP.cons _ _ _ k _ _ _ _ _ b => .cons (by cases k; exact .int _; exact .str _) (AcP.keysL b)
theorem PKeys : PureR X.K rListD pKeys := by
  intro W H xs ds Q Ψ rv hφ P
  match ds, rv, hφ with
  | [d], rv, hφ =>
    obtain ⟨x, rfl, h1⟩ := rv.one
    obtain ⟨kds, rfl, q⟩ := hφ
    obtain ⟨a, kvs, rfl, ha, h2⟩ := h1.dk
    exact ⟨a, kvs, rfl, ha, fun p hn => P.lst _ _ _ q hn h2.keysL⟩
  | [], _, h => exact h.elim
  | _ :: _ :: _, _, h => exact absurd h (by simp [pKeys])
/-- [..] * k -/
theorem rep_ok {K : PySem.W.Frag} {W : AS} {H : Hp} {xs : List V} {ds : List PyData} (h : AcL K W H xs ds) : ∀ k : Nat, AcL K W H (List.replicate k xs).flatten (List.replicate k ds).flatten
  | 0 => .nil
  | k + 1 => by
    rw [List.replicate_succ, List.replicate_succ, List.flatten_cons, List.flatten_cons]
    exact h.app (rep_ok h k)
def pRep : PO' | [.list ds, .int k], Ψ => -(2 ^ 63) ≤ k ∧ k < 2 ^ 63 ∧ ds.length * k.toNat ≤ sizeLine ∧ Ψ (.own (.list (List.replicate k.toNat ds).flatten)) | _, _ => False
theorem PRep {K} : PureR2 K rRep pRep := by
  intro W H x y d e Q Ψ hx hy hφ P
  cases d <;> cases e <;> first | exact hφ.elim | skip
  obtain ⟨h1, h2, h3, q⟩ := hφ
  obtain ⟨a, xs, rfl, ha, al⟩ := hx.lst0
  exact ⟨a, _, xs, rfl, hy.int, ha, h1, h2, by rw [al.len]; exact h3, fun p hp => P.lst _ _ _ q hp (rep_ok al _)⟩
theorem xt_tru {a : Expr} {t : TE} {w : PX} (h : XE X a t w) (p : ∀ t, PE X a t → PT X a (fun σ H Q => t σ H fun x H' => ∃ k, TruV X.K x H' k ∧ Q k H')) : XT X a (fun σ H Q => t σ H fun x H' => ∃ k, TruV X.K x H' k ∧ Q k H') (wTru w) := by
  refine ⟨p _ h.1, fun C hK n f Γ σ H Q Φ off R w k => h.2 C hK n f Γ σ H _ _ off R w ?_⟩
  rintro r x Γ1 H1 ⟨d, ds, hd, hs, φ⟩ R1
  have rv := R1.rv (k := .inl n) ent_held hd
  have e : ∀ xs : List V, xs.length = ds.length → (!xs.isEmpty) = !ds.isEmpty := fun xs hl => by
    cases xs <;> cases ds <;> first | rfl | (simp at hl)
  cases d <;> first | (cases hs; done) | skip
  · cases hs
    obtain ⟨a, xs, rfl, hq, hl⟩ := rv.lst
    exact ⟨_, .inl ⟨xs, by rw [← hK.k]; exact hq, rfl⟩, by rw [e xs hl.len]; exact k _ _ _ φ (R1.drop off)⟩
  · cases hs
    obtain ⟨a, xs, rfl, hq, hl⟩ := rv.tup
    exact ⟨_, .inr (.inl ⟨xs, by rw [← hK.k]; exact hq, rfl⟩), by rw [e xs hl.len]; exact k _ _ _ φ (R1.drop off)⟩
end
end Px
end

/-! PxD -/
section
set_option Elab.async false
set_option linter.all false
set_option maxRecDepth 100000
set_option maxHeartbeats 4000000
set_option autoImplicit false
namespace Px
open PySem PySem.Spec PyProof.Rows L2 Dh

/-! ### the deck -/
abbrev kMixed : Key := .inr "mixed"
abbrev kDraws : Key := .inr "draws"
structure Deck (ik : List Key) (H : Hp) (dk lf : Addr) : Prop where
  d : ∃ kvs : List (Key × V), H dk = some (.dK kvs) ∧ kvs.length ≤ 10 ∧ valV kvs kLeft = some (.ref lf) ∧ ∀ k ∈ ik, ∃ m, valV kvs k = some (.int m)
  l : ∃ ls : List Int, H lf = some (.lst (ls.map V.int)) ∧ ls.length ≤ 63
section
variable {ik : List Key} {H : Hp} {dk lf : Addr}
theorem Dck.deck {U : List Addr} (D : Dck ik U H dk) : ∃ lf, U = [dk, lf] ∧ Deck ik H dk lf := by
  obtain ⟨lf, kvs, ls, h1, h2, h3, h4, h5, h6, h7, h8⟩ := D
  exact ⟨lf, h1, ⟨kvs, h3, h4, h5, h6⟩, ls, h7, h8⟩
theorem Deck.ne (D : Deck ik H dk lf) : dk ≠ lf := by
  obtain ⟨kvs, h1, _⟩ := D.d
  obtain ⟨ls, h2, _⟩ := D.l
  exact ne_of h1 h2 (by intro z; cases z)
theorem Deck.dck (D : Deck ik H dk lf) : Dck ik [dk, lf] H dk := by
  obtain ⟨kvs, h1, h2, h3, h4⟩ := D.d
  obtain ⟨ls, h5, h6⟩ := D.l
  exact ⟨lf, kvs, ls, rfl, D.ne, h1, h2, h3, h4, h5, h6⟩
theorem putK_len {kvs : List (Key × V)} {k : Key} {v : V} (h : (valV kvs k).isSome = true) : (putK kvs k v).length = kvs.length := by
  unfold putK
  rw [valV_any, h, if_pos rfl, List.length_map]
theorem Deck.putInt {kvs : List (Key × V)} (D : Deck ik H dk lf) (h : H dk = some (.dK kvs)) {k : Key} {i : Int} (hk : k ∈ ik) (hl : k ≠ kLeft) : Deck ik (upd H dk (.dK (putK kvs k (.int i)))) dk lf := by
  obtain ⟨kvs', h1, h2, h3, h4⟩ := D.d
  rw [h] at h1; cases h1
  obtain ⟨ls, h5, h6⟩ := D.l
  obtain ⟨m, hm⟩ := h4 k hk
  refine ⟨⟨_, upd_same, by rw [putK_len (by rw [hm]; rfl)]; exact h2, ?_, fun j hj => ?_⟩, ls, by rw [upd_ne D.ne.symm]; exact h5, h6⟩
  · rw [valV_put, if_neg hl.symm]; exact h3
  · rw [valV_put]
    by_cases q : j = k
    · rw [if_pos q]; exact ⟨_, rfl⟩
    · rw [if_neg q]; exact h4 j hj
theorem Deck.left (D : Deck ik H dk lf) {ls : List Int} (h : ls.length ≤ 63) : Deck ik (upd H lf (.lst (ls.map V.int))) dk lf := by
  obtain ⟨kvs, h1, r⟩ := D.d
  exact ⟨⟨kvs, by rw [upd_ne D.ne]; exact h1, r⟩, ⟨ls, upd_same, h⟩⟩
theorem Deck.new {p : Addr} {o : HO} (D : Deck ik H dk lf) (h : H p = none) : Deck ik (upd H p o) dk lf := by
  obtain ⟨kvs, h1, r⟩ := D.d
  obtain ⟨ls, h2, r2⟩ := D.l
  exact ⟨⟨kvs, by rw [upd_ne (ne_of_none h1 h)]; exact h1, r⟩, ⟨ls, by rw [upd_ne (ne_of_none h2 h)]; exact h2, r2⟩⟩
end
def fDraw : PF := fun Δ Ψ => ∃ m : Int, Δ = [.deck, .v (.int m)] ∧ 1 ≤ m ∧ m ≤ 100000 ∧ ∀ i : Int, 0 ≤ i → i < m → Ψ (.v (.int i))
/-- the promise of the hand layer that gives the one over data -/
def spDraw' (ik : List Key) : Sp := fun vs H Q _ => ∃ (dk lf : Addr) (m : Int), vs = [.ref dk, .int m] ∧ Deck ik H dk lf ∧ 1 ≤ m ∧ m ≤ 100000 ∧
  ∀ (H' : Hp) (i : Int), Deck ik H' dk lf → Dh.Kp [dk, lf] H H' → 0 ≤ i → i < m → Q (.int i) H'
theorem draw_data {K : PySem.W.Frag} {ik : List Key} {vs : List V} {H : Hp} {Q : VK} {E : XK} (h : spD K ik fDraw vs H Q E) : spDraw' ik vs H Q E := by
  obtain ⟨M, U, Δ, Ψ, tr, uM, ps, ⟨m, rfl, m1, m2, φ⟩, k⟩ := h
  cases ps with
  | cons a b =>
    cases b with
    | cons b c =>
      cases c
      cases a with
      | @deck dk D =>
        cases b with
        | v ac =>
          cases ac
          obtain ⟨lf, rfl, D'⟩ := D.deck
          refine ⟨dk, lf, m, rfl, D', m1, m2, fun H' i D' K' i0 i1 => k _ _ H' (φ i i0 i1) ⟨K', fun a Da => ?_, fun b hb => ?_, .v (.int i)⟩⟩
          · obtain ⟨_, e, _⟩ := Da.deck
            cases e
            exact D'.dck
          · obtain ⟨kvs, h1, _⟩ := D'.d
            obtain ⟨ls, h2, _⟩ := D'.l
            rcases List.mem_cons.mp hb with rfl | hb
            · exact ⟨_, h1, fun _ z => by cases z⟩
            · rw [List.mem_singleton.mp hb]; exact ⟨_, h2, fun _ z => by cases z⟩
theorem FnG.weaken {P : Program} {w : World} {K : PySem.W.Frag} {mg : Str → Option Value} {base : Heap} {cx : CXT} {k : Nat} {f : Addr} {fd : FuncData} {ps : List Str} {sp sp' : Sp} (F : FnG P w K mg base cx k f fd ps sp) (h : ∀ vs H Q E, sp' vs H Q E → sp vs H Q E) : FnG P w K mg base cx k f fd ps sp' :=
  ⟨fun vs H Q E z => F.ln vs H Q E (h _ _ _ _ z), fun A outer s H args us vs Q E a b c d e f => F.go A outer s H args us vs Q E a b c d e (h _ _ _ _ f)⟩
end Px
end

/-! Px11 -/
section
set_option Elab.async false
set_option linter.all false
set_option maxRecDepth 100000
set_option maxHeartbeats 2000000
set_option autoImplicit false
namespace Px
open PySem PySem.Spec PyProof.Rows L2 Dh

/-! ### loops over data, by a word -/
theorem loop_inv {g : PG'} {b : PXS} {Φ : PEnds} (I : List PyData → Env → Prop) (step : ∀ d ds Γ (N : Env → Prop), I (d :: ds) Γ → (∀ Γ', I ds Γ' → N Γ') → g d Γ fun Γ1 => b Γ1 { nx := N, rt := Φ.rt, bk := Φ.nx, ct := N }) (fin : ∀ Γ, I [] Γ → Φ.nx Γ) :
    ∀ (ds : List PyData) (Γ : Env), I ds Γ → loopW g b ds Γ Φ
  | [], Γ, h => fin Γ h
  | d :: ds, Γ, h => step d ds Γ _ h fun Γ' h' => loop_inv I step fin ds Γ' h'
theorem comp_inv {vs : List Nat} {g : PG'} {tt : PXT} {te : PX} {G : Env → Prop} {Φ : List PyData → Env → Prop} (I : List PyData → List PyData → Env → Prop)
    (step : ∀ d ds acc Γ (N : List PyData → Env → Prop), I (d :: ds) acc Γ → (∀ acc' Γ', I ds acc' Γ' → N acc' Γ') → G Γ ∧ acc.length < sizeLine ∧ g d (wipeG Γ vs) fun Γ1 => tt Γ1 fun b Γ2 =>
      (b = true → te Γ2 fun r Γ3 => ∃ y Γ4, frz Γ3 r = some (y, Γ4) ∧ N (acc ++ [y]) (wipeG Γ4 vs)) ∧ (b = false → N acc (wipeG Γ2 vs)))
    (fin : ∀ acc Γ, I [] acc Γ → G Γ ∧ Φ acc Γ) : ∀ (ds acc : List PyData) (Γ : Env), I ds acc Γ → compW vs g tt te G ds acc Γ Φ
  | [], acc, Γ, h => fin acc Γ h
  | d :: ds, acc, Γ, h => by
    have := step d ds acc Γ (fun acc' Γ' => compW vs g tt te G ds acc' Γ' Φ) h fun acc' Γ' h' => comp_inv I step fin ds acc' Γ' h'
    exact this
/-- every item is made to one -/
theorem comp_map {vs : List Nat} {g : PG'} {te : PX} {G : Env → Prop} {Φ : List PyData → Env → Prop} {Γ : Env} {ds : List PyData} (F : PyData → PyData) (hw : wipeG Γ vs = Γ) (hG : G Γ) (hl : ds.length ≤ sizeLine)
    (step : ∀ d ∈ ds, ∀ N : PyData → Env → Prop, (∀ Γ4, wipeG Γ4 vs = Γ → N (F d) Γ4) → g d Γ fun Γ1 => te Γ1 fun r Γ3 => ∃ y Γ4, frz Γ3 r = some (y, Γ4) ∧ N y Γ4) (fin : Φ (ds.map F) Γ) : compW vs g wYes te G ds [] Γ Φ := by
  refine comp_inv (fun r acc Γ1 => Γ1 = Γ ∧ ∃ p, ds = p ++ r ∧ acc = p.map F) ?_ ?_ ds [] Γ ⟨rfl, [], rfl, rfl⟩
  · rintro d r acc Γ' N ⟨e, p, rfl, rfl⟩ h
    rw [e]
    have hlen : (p ++ d :: r).length = p.length + r.length + 1 := by simp; omega
    refine ⟨hG, by rw [List.length_map]; omega, ?_⟩
    rw [hw]
    have := step d (by simp) (fun y Γ4 => N (p.map F ++ [y]) (wipeG Γ4 vs)) fun Γ4 h4 => h _ _ ⟨h4, p ++ [d], by simp, by simp⟩
    refine Eq.mp (congrArg (g d Γ) ?_) this
    funext Γ1
    show _ = ((true = true → _) ∧ (true = false → _))
    simp
  · rintro acc _ ⟨rfl, p, e, rfl⟩
    rw [List.append_nil] at e
    subst e
    exact ⟨hG, fin⟩
section
variable {X : Cx} [IK]
theorem xs_never {st : Stmt} : XS X st tNever fun _ _ => False := ⟨ps_never, fun C hK n f Γ σ H D Φ off nb R w F => w.elim⟩
theorem xss_never {sts : List Stmt} : XSs X sts tNever fun _ _ => False := ⟨pss_never, fun C hK n f Γ σ H D Φ off nb R w F => w.elim⟩
end
end Px
namespace Px
open PySem PySem.Spec PyProof.Rows L2 Dh
abbrev rLen (K : PySem.W.Frag) : List V → Hp → VK → Prop := fun xs H Q => ∃ x n, xs = [x] ∧ LenV K x H n ∧ Q (.int n) H
abbrev rLstOf (K : PySem.W.Frag) : List V → Hp → VK → Prop := fun xs H Q => ∃ p ys, xs = [.ref p] ∧ (SqL K H p ys ∨ SqT K H p ys) ∧ ∀ l, H l = none → Q (.ref l) (upd H l (.lst ys))
abbrev rTupOf (K : PySem.W.Frag) : List V → Hp → VK → Prop := fun xs H Q => ∃ p ys, xs = [.ref p] ∧ ((SqL K H p ys ∧ ∀ l, H l = none → Q (.ref l) (upd H l (.tup ys))) ∨ (SqT K H p ys ∧ Q (.ref p) H))
abbrev rRepr (K : PySem.W.Frag) : List V → Hp → VK → Prop := fun xs H Q => ∃ (M : List Addr) (v : V) (d : PyData), xs = [v] ∧ At K M H v d ∧ d.showable = true ∧ d.depth ≤ 60 ∧ d.shown.length ≤ sizeLine ∧ Q (.str d.shown) H
end Px
end

/-! Px12 -/
section
set_option Elab.async false
set_option linter.all false
set_option maxRecDepth 100000
set_option maxHeartbeats 4000000
set_option autoImplicit false
/-! ### enumerate of a tuple -/
namespace Px
open PySem PySem.Spec PyProof.Rows L2 Dh
def IteT (K : PySem.W.Frag) (a : Addr) : It :=
  ⟨fun i H => ∃ (xs : List V) (x : V), SqT K H a xs ∧ xs[i]? = some x, fun i H v H' => ∃ T x, v = .ref T ∧ H T = none ∧ H' = upd H T (.tup [.int (i : Nat), x]) ∧ ∀ xs, SqT K H a xs → xs[i]? = some x, fun i H => ∃ xs : List V, SqT K H a xs ∧ xs.length ≤ i⟩
theorem enumT_end {prog : Program} {w : World} {A : Around} {E : Value → Shared → Prop} {s : Shared} {e it l : Addr} {i : Nat} {k : Int} {items : Array Value} {old : Value} {Q : Option Value → Shared → Prop} (hh : A.handled = none)
    (he : IsEnum s.heap e it k old) (hit : s.heap.IsTupleIter it l i) (hl : s.heap.IsTuple l items) (hx : items[i]? = none)
    (hQ : ∀ h', Heap.ExtBut it s.heap h' → Q none { s with heap := h' }) : wpAny (model prog w) A (pyNext (.ref e)) Q E s := by
  have hT : s.TypeIs (.ref e) "enumerate" := ⟨_, he, rfl⟩
  unfold pyNext
  refine wpAny_bind (wpAny_attempt (wpAny_callSpecial?_slot (name := Str.ofString "__next__") hT F.slot_enumerate_next
    (wpAny_call_entry F.slot_enumerate_next hT F.entry_enumerate_next ?_ (F.args_enumerate_next_1 _))))
  show wpAny _ _ (field (.ref e) 2 >>= _) _ _ _
  refine wpAny_bind (wpAny_field he rfl (x := .ref it) rfl ?_)
  refine wpAny_bind (wpAny_nextOf_tuple_end hh hit hl hx fun h' x he' hx' => ?_)
  obtain ⟨o, ho, hc⟩ := hx'
  refine wpAny_bind (wpAny_isInstance (T := "StopIteration") (b := true) ⟨o, ho, hc⟩ isSubtype_stop ?_)
  exact wpAny_pure (hQ _ he')
theorem turn_enumT {P : Program} {w : World} {K : PySem.W.Frag} {elts : List Expr} {kk : Nat} {tpos : Pos} (a e it : Addr) :
    Turn P w K (.Tuple elts kk tpos) (IteT K a) [e, it] e (fun i h => (∃ old, IsEnum h e it ((i : Nat) : Int) old) ∧ h.IsTupleIter it a i ∧ e ≠ it ∧ a ≠ e ∧ a ≠ it) where
  mem := by simp
  obj := fun i h st b hb => by
    obtain ⟨⟨old, he⟩, ⟨o, ho, hc, hd⟩, _⟩ := st
    have e' : b = e ∨ b = it := by simpa using hb
    rcases e' with z | z
    · rw [z]; exact ⟨_, he, fun v q => nomatch q⟩
    · rw [z]; exact ⟨o, ho, fun v q => by rw [hd] at q; cases q⟩
  keep := fun i h h' st k => let ⟨⟨old, he⟩, hi, hne⟩ := st; ⟨⟨old, k e (by simp) _ he⟩, hi.at fun o q => k it (by simp) o q, hne⟩
  item := by
    intro X hP hw hK hc i pins s σ H E I hf st hg
    subst hP hw hK
    obtain ⟨⟨old, he⟩, hit, hne, hae, hai⟩ := st
    obtain ⟨xs, x, hq, hx⟩ := hg
    obtain ⟨its, rv, p, hz⟩ := I.tuple hq
    obtain ⟨u, hu, ru⟩ := rv.get hx
    have hel : e < s.heap.objs.size := Heap.lt_size he
    have hil : it < s.heap.objs.size := by obtain ⟨_, q, _⟩ := hit; exact Heap.lt_size q
    have ilt : i < its.toArray.size := by
      have := (List.getElem?_eq_some_iff.mp hu).1
      simpa using this
    have D : Draws X.prog X.w X.A.in1 it [it, a] its.toArray.size (fun i v => its.toArray[i]? = some v) (fun i h => h.IsTupleIter it a i ∧ h.IsTuple a its.toArray) := Draws.tuple (A := X.A.in1) (show X.A.in1.handled = none from I.ok.hd hc) it a hai its.toArray
    refine wpAny_pyNext_enum_itemC D he ⟨hit, p⟩ ilt hne (by simp [hne, Ne.symm hae]) fun v h' tk hP ho hs' hT hsz hk => ?_
    have ev : v = u := by
      have : its[i]? = some v := by simpa using hP
      rw [hu] at this; exact (Option.some.inj this).symm
    subst ev
    refine ⟨_, rfl, wpAny_letOwnedTupleGo_enum (s := { s with heap := h', toks := tk + 1 }) ho fun h'' he' sb => ?_⟩
    have hT2 : h''.get? s.heap.objs.size = some { cls := .type "tuple", data := .seq #[.int i tk, v] } := (sb.2 _ (Nat.ne_of_gt hel)).trans hT
    have new : ObjOk X.prog X.w (upd H s.heap.objs.size (.tup [.int (i : Nat), x])) h'' s.heap.objs.size (.tup [.int (i : Nat), x]) :=
      ⟨by show 2 ≤ sizeLine; decide, [.int i tk, v], .cons ⟨_, rfl⟩ (.cons ru .nil), ⟨_, hT2, rfl, _, rfl⟩⟩
    have I1 : Inv X pins σ (upd H s.heap.objs.size (.tup [.int (i : Nat), x])) { s with heap := h'', toks := tk + 1 } :=
      I.turnedNew (ch := [e, it]) (fun b ob hb q => (sb.2 b (fun z => hb (by simp [z]))).trans (hk b ob (fun z => hb (by simp [z])) (fun z => hb (by simp [z])) q)) hf (Nat.le_refl _) new
    refine ⟨.ref s.heap.objs.size, _, I1, rfl, ⟨_, x, rfl, I.hok.fresh (Nat.le_refl _), rfl, fun ys hy => by rw [I.tuple_inj hy hq]; exact hx⟩, ⟨⟨v, ?_⟩, hs'.1.at fun o q => (sb.2 it (Ne.symm hne)).trans q, hne, hae, hai⟩, fun b hb => ?_⟩
    · have e1 : ((i + 1 : Nat) : Int) = (i : Int) + 1 := by omega
      rw [e1]; exact he'
    · have hb' : b < s.heap.objs.size := by
        have e' : b = e ∨ b = it := by simpa using hb
        rcases e' with z | z
        · rw [z]; exact hel
        · rw [z]; exact hil
      rw [upd_ne (Nat.ne_of_lt hb')]
      exact (hf b hb).1
  done := by
    intro X hP hw hK hc i pins s σ H E I hf st hg
    subst hP hw hK
    obtain ⟨⟨old, he⟩, hit, hne, hae, hai⟩ := st
    obtain ⟨xs, hq, hx⟩ := hg
    obtain ⟨its, rv, p, hz⟩ := I.tuple hq
    obtain ⟨f0, f1, f2, f3, f4, f5⟩ := hf it (by simp)
    have hl := rv.length
    exact enumT_end (items := its.toArray) (I.ok.hd hc) he hit p (by simp; omega) fun h' eb => ⟨rfl, I.turned (t' := s.toks) (fun b o hb q => eb b o hb q) f0 f1 f3 f4 f5⟩
  self := fun A i s Q E st h => let ⟨⟨_, he⟩, _⟩ := st; wpAny_pyIter_enum he h
theorem newE {v : Value} {o : Obj} {H : Heap → Prop} (B : Begins v o H) :
    Meets (Builtin.«enumerate.__new__» ⟨[.type "enumerate", v], []⟩) (fun _ R s => H s.heap ∧
      R (.ok (.ret (.ref (s.heap.push o).objs.size))) { s with heap := (s.heap.push o).push { cls := .type "enumerate", data := .fields #[.none, .bool false, .ref s.heap.objs.size, rawInt 0, .none, .none] } }) :=
  .of_wp fun prog w A R s h => by
    obtain ⟨hp, g, d, tk, os⟩ := s; obtain ⟨h1, h⟩ := h
    have hsub := sub_enumerate
    have q1 : ∀ {A' : Around} {E : Value → Shared → Prop} {Q : Value → Shared → Prop}, Q (.ref hp.objs.size) ⟨hp.push o, g, d, tk, os⟩ → wpAny (model prog w) A' (pyIter v) Q E ⟨hp, g, d, tk, os⟩ :=
      fun q => B.iter prog w _ _ ⟨hp, g, d, tk, os⟩ _ h1 q
    wp_walk using q1
    refine wpAny_stack_any fun st => wpAny_pure ?_
    split
    · rename_i c _ _ _ _ _
      cases (c == Value.type "enumerate")
      · wp_walk using q1
        exact ⟨_, rfl, h⟩
      · wp_walk using q1
        exact ⟨_, rfl, h⟩
    · wp_walk using q1
      exact ⟨_, rfl, h⟩
theorem call_enumT {prog : Program} {w : World} {A : Around} {E : Value → Shared → Prop} {s : Shared} {l : Addr} {items : Array Value} {Q : Value → Shared → Prop} (hL : s.heap.IsTuple l items)
    (h : ∀ h', IsEnum h' (s.heap.objs.size + 1) s.heap.objs.size 0 .none → h'.IsTupleIter s.heap.objs.size l 0 → h'.objs.size = s.heap.objs.size + 2 →
      (∀ b o, s.heap.get? b = some o → h'.get? b = some o) → Q (.ref (s.heap.objs.size + 1)) { s with heap := h' }) :
    wpAny (model prog w) A (call (.type "enumerate") [.ref l]) Q E s := by
  refine callType_new F.called_enumerate (by decide) (F.typeCall_enumerate_1 _) (F.newCall_enumerate_1 _) (fun obj => F.args_object_init_2 obj _) F.entry_enumerate_new
    (newE (begins_tuple l items)) ⟨hL, ?_⟩
  have hz : (s.heap.push { cls := .type "tuple_iterator", data := .fields #[.ref l, .int 0 0] }).objs.size = s.heap.objs.size + 1 := Heap.size_push ..
  show _ ∧ _
  rw [hz]
  have he : IsEnum ((s.heap.push { cls := .type "tuple_iterator", data := .fields #[.ref l, .int 0 0] }).push
      { cls := .type "enumerate", data := .fields #[.none, .bool false, .ref s.heap.objs.size, rawInt 0, .none, .none] }) (s.heap.objs.size + 1) s.heap.objs.size 0 .none := by
    have := Heap.get?_push_size (s.heap.push { cls := .type "tuple_iterator", data := .fields #[.ref l, .int 0 0] })
      (o := { cls := .type "enumerate", data := .fields #[.none, .bool false, .ref s.heap.objs.size, rawInt 0, .none, .none] }) rfl
    rw [hz] at this; exact this
  refine ⟨⟨_, he, rfl⟩, h _ he ⟨_, Heap.get?_push_of_some _ (Heap.get?_push_size _ rfl), rfl, rfl⟩ (by rw [Heap.size_push, hz]) fun b o x => Heap.get?_push_of_some _ (Heap.get?_push_of_some _ x)⟩
def iEnumT (K : PySem.W.Frag) (ta : TA) : TI := fun σ H R => ta σ H fun vs H1 => ∃ a xs, vs = [.ref a] ∧ SqT K H1 a xs ∧ R (IteT K a) H1
theorem pi_enumT {X : Cx} {e : Expr} {ta : TA} {p pos tpos : Pos} {elts : List Expr} {kk : Nat} (hg : Gl X "enumerate") (hm : X.mg "enumerate" = none) (ha : PA X [e] ta) (hs : starEach [e] X.env = [(false, eval e X.env)] := by rfl) :
    PI X (.Tuple elts kk tpos) (.Call (.Name "enumerate" p) [e] [] pos) (iEnumT X.K ta) := by
  refine ⟨fun pins s σ H R I h => ?_⟩
  refine Call_ (ld_blt I hg hm boot_enumerate (PyProof.Rows.callWith_type1 (thn (ha.run pos pins s σ H _ I h) fun us s1 ⟨vs, H1, I1, r1, q1⟩ => ?_) hs rfl))
  obtain ⟨a, xs, ex, hq, q⟩ := q1
  subst ex
  cases r1 with
  | cons r rr =>
    cases rr
    cases r
    obtain ⟨its, rv, p', hz⟩ := I1.tuple hq
    have pT : s1.heap.IsTuple a its.toArray := p'
    have al : a < s1.heap.objs.size := by obtain ⟨_, y, _⟩ := pT; exact Heap.lt_size y
    refine call_enumT pT fun h' he hit hsz hk => wpAny_pyIter_enum he ?_
    have I2 : Inv X pins σ H1 { s1 with heap := h' } := I1.kept (t' := s1.toks) hk
    refine ⟨s1.heap.objs.size + 1, [s1.heap.objs.size + 1, s1.heap.objs.size], _, _, H1, rfl, I2, turn_enumT a (s1.heap.objs.size + 1) s1.heap.objs.size, ⟨⟨.none, he⟩, hit, Nat.succ_ne_self _, Nat.ne_of_lt (Nat.lt_succ_of_lt al), Nat.ne_of_lt al⟩, fun b hb => ?_, q⟩
    have e' : b = s1.heap.objs.size + 1 ∨ b = s1.heap.objs.size := by simpa using hb
    have hle : s1.heap.objs.size ≤ b := by
      rcases e' with z | z
      · rw [z]; exact Nat.le_add_right _ _
      · rw [z]; exact Nat.le_refl _
    exact I1.fpOk hle (I1.hok.fresh hle)
section
variable {C : Cc} {Hd : Fr → Prop} {G : Env → Prop} [IK]
theorem itok_enumT {a : Addr} {ds : List PyData} (h : ∀ g Γ σ H, Hd g → G Γ → Rel C g Γ σ H → ∃ xs, SqT C.K H a xs ∧ AcL C.K (WE C (ent g Γ σ)) H xs ds) : ItOk C Hd G (IteT C.K a) (enumFrom 0 ds) where
  go g Γ σ H i hg hG R lt := by
    obtain ⟨xs, hq, ha⟩ := h g Γ σ H hg hG R
    rw [enum_len] at lt
    obtain ⟨v, hv, _⟩ := ha.at (List.getElem?_eq_getElem lt)
    exact ⟨xs, v, hq, hv⟩
  stop g Γ σ H i hg hG R ge := by
    obtain ⟨xs, hq, ha⟩ := h g Γ σ H hg hG R
    rw [enum_len] at ge
    exact ⟨xs, hq, by rw [ha.len]; exact ge⟩
  yld g Γ σ H i d x H' hg hG R hd y := by
    obtain ⟨xs, hq, ha⟩ := h g Γ σ H hg hG R
    rw [enum_get] at hd
    obtain ⟨T, z, rfl, hT, rfl, y⟩ := y
    cases e : ds[i]? with
    | none => rw [e] at hd; cases hd
    | some d0 =>
      rw [e] at hd; cases hd
      obtain ⟨v, hv, hd⟩ := ha.at e
      have := y xs hq
      rw [hv] at this; cases this
      refine ⟨.inr ⟨_, _, hT, rfl⟩, .tup upd_same (R.e.fresh hT).1 (.cons ?_ (.cons (Ac.tr (Tr.new hT) _ hd) .nil))⟩
      rw [Nat.zero_add]
      exact .int _
end
section
variable {X : Cx} [IK]
def wItET (w : PX) : PIc := fun Γ Φ => w Γ fun r Γ1 => ∃ ds, res Γ1 (hld r) = some (.tuple ds) ∧ Φ (enumFrom 0 ds) (fun Γ2 => res Γ2 (hld r) = some (.tuple ds)) Γ1
theorem xc_enumT {e : Expr} {t : TE} {w : PX} {p pos tpos : Pos} {elts : List Expr} {kk : Nat} (hg : Gl X "enumerate") (hm : X.mg "enumerate" = none) (h : XE X e t w) (hs : starEach [e] X.env = [(false, eval e X.env)] := by rfl) :
    XIc X (.Tuple elts kk tpos) (.Call (.Name "enumerate" p) [e] [] pos) (iEnumT X.K (tCons t tNil)) (wItET w) := by
  obtain ⟨pp, g⟩ := h
  refine ⟨pi_enumT hg hm (pa_cons pp pa_nil (hs.trans rfl)) hs, fun C hK n f Γ σ H R Φ off Re w k => g C hK n f Γ σ H _ _ off Re w ?_⟩
  rintro r x Γ1 H1 ⟨ds, hz, φ⟩ R1
  have R2 := R1.hld
  obtain ⟨a, xs, rfl, hq, _⟩ := (R2.rv (k := .inl n) ent_held hz).tup
  refine ⟨a, xs, rfl, by rw [← hK.k]; exact hq, ?_⟩
  rw [← hK.k]
  refine k _ _ _ _ _ (n + 1) _ (fun g => g n = some (hld r, .ref a)) φ (by omega) off.up upF_low R2 upF_same (fun g g' e z => by rw [e n (Nat.le_refl _) (by omega)]; exact z) ?_
  refine itok_enumT fun g Γ3 σ3 H3 hg hG R3 => ?_
  obtain ⟨a', xs', e, hq', ha'⟩ := (held_rv hg R3 hG).tup
  cases e
  exact ⟨xs', hq', ha'⟩
/-! ### for letter in a text -/
theorem xi_strS {tg e : Expr} {t : TE} {w : PX} (h : XE X e t w) : XI X tg e (iStr t) (fun Γ Φ => w Γ fun r Γ1 => ∃ z, res Γ1 r = some (.str z) ∧ Φ (strD z) Γ1) := by
  obtain ⟨p, g⟩ := h
  refine ⟨pi_str p, fun C hK n f Γ σ H R Φ off Re w k => g C hK n f Γ σ H _ _ off Re w ?_⟩
  rintro r x Γ1 H1 ⟨z, hz, φ⟩ R1
  have e := (R1.rv (k := .inl n) ent_held hz).str
  refine ⟨z, e, ?_⟩
  exact k _ _ _ _ n f (fun _ => True) φ (Nat.le_refl _) off (fun _ _ => rfl) (fun m i y hm z => by rw [off m hm] at z; cases z) (R1.drop off) trivial (fun _ _ _ _ => trivial) itok_str
/-! ### sorted of pairs of ints -/
def rSortedPT (K : PySem.W.Frag) : List V → Hp → VK → Prop := fun vs H Q => ∃ a xs, vs = [V.ref a] ∧ SqL K H a xs ∧ (∀ x ∈ xs, ∃ t i j, x = V.ref t ∧ SqT K H t [.int i, .int j]) ∧
  ∀ ys p, ys.Perm xs → H p = none → Q (.ref p) (upd H p (.lst ys))
theorem cr_sortedPT : CallR X (.builtin "sorted") (rSortedPT X.K) := by
  intro pins s σ H vs us Q I r h
  obtain ⟨a, xs, rfl, hs, hx, q⟩ := h
  obtain ⟨its, rv, hl, hz⟩ := I.list hs
  obtain ⟨u, rfl, ru⟩ := vals1 r
  obtain rfl : u = Value.ref a := ru
  obtain ⟨e1, e2⟩ := refs_back rv fun x m => by
    obtain ⟨t, _, _, e, _⟩ := hx x m
    exact ⟨t, e⟩
  refine Srt.sorted_pairs hl.isList (by rw [← rv.length]; exact hz) (fun v hv => ?_) fun h' d out hp k hd hn => ?_
  · obtain ⟨t, rfl⟩ := e2 v hv
    have hm : V.ref t ∈ xs := by rw [e1]; exact List.mem_map.mpr ⟨_, hv, rfl⟩
    obtain ⟨t', i, j, e, ht⟩ := hx _ hm
    cases e
    obtain ⟨its2, r2, ⟨o, ho, hc, n, hd⟩, _⟩ := I.tuple ht
    obtain ⟨u1, u2, rfl, ri, rj⟩ := vals2 r2
    obtain ⟨t1, rfl⟩ := ri
    obtain ⟨t2, rfl⟩ := rj
    exact ⟨i, j, t, o, t1, t2, n, rfl, ho, hc, hd⟩
  · have h3 : ∀ u ∈ out, ∃ a, u = Value.ref a := fun u hu => e2 u (hp.mem_iff.mp hu)
    obtain ⟨n, hn⟩ := hn
    refine ⟨.ref d, upd H d (.lst (out.map backV)), I.laid (t' := s.toks) k hd ⟨?_, out, n, vals_back h3, hn⟩, rfl, q _ d ?_ (I.hok.fresh hd)⟩
    · rw [List.length_map, hp.length_eq, ← rv.length]; exact hz
    · rw [e1]; exact hp.map backV
def pSortPT : PO' | [.list ds], Ψ => (∀ d ∈ ds, ∃ i j : Int, d = .tuple [.int i, .int j]) ∧ ∀ es : List PyData, es.Perm ds → Ψ (.own (.list es)) | _, _ => False
theorem AcL.perm {K : PySem.W.Frag} {W : AS} {H : Hp} {xs ys : List V} (p : ys.Perm xs) : ∀ {ds : List PyData}, AcL K W H xs ds → ∃ es : List PyData, es.Perm ds ∧ AcL K W H ys es := by
  have p' := p.symm
  clear p
  induction p' with
  | nil => exact fun h => ⟨_, .refl _, h⟩
  | cons x p ih =>
    intro ds h
    cases h with
    | cons a b =>
      obtain ⟨es, h1, h2⟩ := ih b
      exact ⟨_ :: es, h1.cons _, .cons a h2⟩
  | swap x y l =>
    intro ds h
    cases h with
    | cons a b => cases b with | cons b c => exact ⟨_, .swap _ _ _, .cons b (.cons a c)⟩
  | trans _ _ ih1 ih2 =>
    intro ds h
    obtain ⟨es, h1, h2⟩ := ih1 h
    obtain ⟨fs, h3, h4⟩ := ih2 h2
    exact ⟨fs, h3.trans h1, h4⟩
theorem AcL.mem' {K : PySem.W.Frag} {W : AS} {H : Hp} : ∀ {xs : List V} {ds : List PyData}, AcL K W H xs ds → ∀ x ∈ xs, ∃ d ∈ ds, Ac K W H x d
  | _, _, .nil, _, h => by cases h
  | _, _, .cons a b, x, h => by
    rcases List.mem_cons.mp h with rfl | h
    · exact ⟨_, List.mem_cons_self, a⟩
    · obtain ⟨d, h1, h2⟩ := AcL.mem' b x h
      exact ⟨d, List.mem_cons_of_mem _ h1, h2⟩
theorem PSortPT : PureR X.K (rSortedPT X.K) pSortPT := by
  intro W H xs ds Q Ψ rv hφ P
  match ds, rv, hφ with
  | [d], rv, hφ =>
    obtain ⟨x, rfl, h1⟩ := rv.one
    cases d <;> first | exact hφ.elim | skip
    obtain ⟨hp, q⟩ := hφ
    obtain ⟨a, ys, rfl, ha, h2⟩ := h1.lst
    refine ⟨a, ys, rfl, ha, fun x hx => ?_, fun zs p hzs hn => ?_⟩
    · obtain ⟨d, hd, ad⟩ := h2.mem' x hx
      obtain ⟨i, j, rfl⟩ := hp d hd
      obtain ⟨t, us, rfl, ht, hu⟩ := Rv.tup (.inl ad)
      cases hu with
      | cons u1 u2 =>
        cases u2 with
        | cons u2 u3 =>
          cases u1; cases u2; cases u3
          exact ⟨t, i, j, rfl, ht⟩
    · obtain ⟨es, h3, h4⟩ := AcL.perm hzs h2
      exact P.lst _ _ _ (q es h3) hn h4
  | [], _, h => exact h.elim
  | _ :: _ :: _, _, h => exact absurd h (by simp [pSortPT])
end
end Px
end

/-! Px13 -/
section
set_option Elab.async false
set_option linter.all false
set_option maxRecDepth 100000
set_option maxHeartbeats 4000000
set_option autoImplicit false
/-! f(k = e, ..) with two keywords in the other order; a, b = [..], [..] of names that comprehensions read -/
namespace Px
open PySem PySem.Spec PyProof.Rows L2 Dh
section
variable {X : Cx} [IK]
def XK (X : Cx) (kws : List Keyword) (t : TA) (w : PXP) : Prop := PK X kws t ∧ ∀ C : Cc, Cok C X → DP C t w
theorem xk_nil : XK X [] tNil wPn := ⟨pk_nil, fun C hK n f Γ σ H Q Φ off R w k => k [] [] _ _ w R .nil⟩
theorem xk_cons {e : Expr} {kws : List Keyword} {nm : Option Str} {kpos : Pos} {ta : TE} {tr : TA} {wa : PX} {wr : PXP} (ha : XE X e ta wa) (hr : XK X kws tr wr) : XK X (⟨nm, e, kpos⟩ :: kws) (tCons ta tr) (wPc wa wr) := by
  obtain ⟨pa, ga⟩ := ha
  obtain ⟨pr, gr⟩ := hr
  refine ⟨pk_cons pa pr, fun C hK n f Γ σ H Q Φ off R w k => ga C hK n f Γ σ H _ _ off R w ?_⟩
  intro r x Γ1 H1 φ1 R1
  refine gr C hK (n + 1) _ Γ1 σ H1 _ _ off.up R1.hld φ1 ?_
  rintro ds xs Γ2 H2 ⟨p, hp, φ2⟩ R2 rv
  exact k _ _ _ _ φ2 (R2.drop off) (.cons (R2.pass off hp) (rv.tr (Tr.drop off) fun a z => WE.keep off (hld_own r) a z))
def tCallSw (sp : Sp) (t : TA) : TE := fun σ H Q => t σ H fun vs H1 => ∃ a b, vs = [a, b] ∧ sp [b, a] H1 Q fun _ _ _ => False
def wCallSw (φ : PF) (wA : PXP) : PX := fun Γ Φ => wA Γ fun Δ Γ1 => ∃ a b, Δ = [a, b] ∧ φ [b, a] fun r => Φ r Γ1
/-- the two keywords stand in the other order than the parameters -/
def BindsSw (K : PySem.W.Frag) (fd : FuncData) (p1 p2 : Str) : Prop := ∀ (s : Shared) (u1 u2 : Value), K.In s.heap → BindsTo s fd ⟨[], [p2, p1].zip [u2, u1]⟩ ([p1, p2].zip [u1, u2])
theorem xe_callSw {kws : List Keyword} {x p1 p2 : Str} {p pos : Pos} {k : Nat} {f : Addr} {fd : FuncData} {φ : PF} {t : TA} {wA : PXP} (F : FnG X.prog X.w X.K X.mg X.base CX0 k f fd [p1, p2] (spD X.K IK.ks φ)) (noG : X.A.guards = some []) (room : Room k X.A) (hg : Gl X x) (hm : X.mg x = some (.ref f)) (hk : PySem.W.keepIn X.K (.ref f) = true)
    (hb : BindsSw X.K fd p1 p2) (hA : XK X kws t wA) (hall : (backToKw pos (keywordEach kws X.env)).all (·.1.isSome) = true := by rfl) (hks : (backToKw pos (keywordEach kws X.env)).filterMap (·.1) = [p2, p1] := by rfl)
    (hdb : (x == ("__debug__" : Str)) = false := by decide) (hpl : ((backTo pos (starEach [] X.env)).any (·.1) || (backToKw pos (keywordEach kws X.env)).any (·.1.isNone)) = false := by rfl) :
    XE X (.Call (.Name x p) [] kws pos) (tCallSw (spD X.K IK.ks φ) t) (wCallSw φ wA) := by
  obtain ⟨pt, g⟩ := hA
  refine ⟨⟨fun pins s σ H Q I h => ?_⟩, fun C hK n f Γ σ H Q Φ off R w k => ?_⟩
  · refine wpAny_Call_Name_kw (ld_glob I hg hm ?_ hdb)
    refine PySem.W.callWith_KW0 (h₀ := X.base) I.ok.mod.kin hk hall (thn (pt.run pos pins s σ H _ I h) ?_) hpl
    rintro ws s2 ⟨zs, H2, I2, rz, a, b, rfl, q⟩
    refine ⟨I2.kIn, ?_⟩
    rw [hks]
    obtain ⟨u2, u1, rfl, r2, r1⟩ := vals2 rz
    have bd := hb s2 u1 u2 I2.kIn
    refine wpAny_call (codeAny_mono (F.go X.A X.stack s2 H2 _ [u1, u2] [b, a] Q (fun _ _ _ => False) noG room I2.env0 bd (.cons r1 (.cons r2 .nil)) q) ?_)
    intro res s' z
    cases res with
    | error err => exact z.elim
    | ok fl =>
      cases fl with
      | ret u => exact I2.after z
      | next => exact z.elim
      | brk => exact z.elim
      | cont => exact z.elim
  · refine g C hK n f Γ σ H _ _ off R w ?_
    rintro Δ xs Γ1 H1 ⟨a, b, rfl, φ1⟩ R1 ps
    cases ps with
    | cons p1 ps =>
      cases ps with
      | cons p2 ps =>
        cases ps
        refine ⟨_, _, rfl, WE C (ent f Γ1 σ), C.U, [b, a], fun r => Φ r Γ1, fun b hb => ?_, fun b hb => .inl (R1.e.uM b hb), by rw [← hK.k, ← hK.i]; exact .cons p2 (.cons p1 .nil), φ1, fun r x H' φ2 B => k _ _ _ _ φ2 (R1.back off hK.k hK.i B)⟩
        rcases hb with hb | ⟨j, d, hb⟩
        · exact R1.e.tr _ hb
        · cases R1.e.ok _ _ _ hb with
          | own h => exact h.there
/-! ### a, b = .., .. -/
theorem xs_parC {i j : Nat} {x y : Str} {a b : Expr} {ta tb : TE} {wa wb : PX} {px py pt pos : Pos} {kt k2 pt2} (hc : X.calm = true) (hN : X.N.Nodup) (hi : X.N[i]? = some x) (hj : X.N[j]? = some y) (hij : i ≠ j)
    (hx : Loc X.env.scope x) (hy : Loc X.env.scope y) (ha : XE X a ta wa) (hb : XE X b tb wb)
    (hfx : X.fn x = true ∨ X.env.scope.names.lookup x = some .local := by first | exact .inl rfl | exact .inr rfl | assumption) (hfy : X.fn y = true ∨ X.env.scope.names.lookup y = some .local := by first | exact .inl rfl | exact .inr rfl | assumption)
    (hs : swapsWithSole [.Tuple [.Name x px, .Name y py] kt pt] (.Tuple [a, b] k2 pt2) pos.line X.env = pure false := by rfl) (hw : swappedStores [.Tuple [.Name x px, .Name y py] kt pt] (.Tuple [a, b] k2 pt2) X.env = pure none := by rfl)
    (h1 : starEach [a, b] X.env = (false, eval a X.env) :: starEach [b] X.env := by rfl) (h2 : starEach [b] X.env = (false, eval b X.env) :: starEach [] X.env := by rfl)
    (g1 : (assignEach [.Name x px, .Name y py] X.env).map (·.2) = assign (.Name x px) X.env :: (assignEach [.Name y py] X.env).map (·.2) := by rfl) (g2 : (assignEach [.Name y py] X.env).map (·.2) = assign (.Name y py) X.env :: (assignEach [] X.env).map (·.2) := by rfl)
    (g3 : (assignEach [.Name x px, .Name y py] X.env).length = 2 := by rfl) (g4 : (assignEach [.Name x px, .Name y py] X.env).findIdx? (·.1) = none := by rfl)
    (g5 : (assignEach [.Tuple [.Name x px, .Name y py] kt pt] X.env).map (·.2) = [assign (.Tuple [.Name x px, .Name y py] kt pt) X.env] := by rfl) :
    XS X (.Assign [.Tuple [.Name x px, .Name y py] kt pt] (.Tuple [a, b] k2 pt2) pos) (tAsg (tTup (tCons ta (tCons tb tNil))) (gTup X.K 2 (gCons (gName i) (gCons (gName j) gNil)))) (wPar i j wa wb) := by
  refine ⟨ps_asg (pe_tup (pa_cons ha.1 (pa_cons hb.1 pa_nil h2) h1)) (pg_tup hc (pgs_cons (pg_name hN hi hx hfx) (pgs_cons (pg_name hN hj hy hfy) pgs_nil g2) g1) g3 g4) hs hw g5, fun C hK n f Γ σ H D Φ off nb R w F => ha.2 C hK n f Γ σ H _ _ off R w ?_⟩
  rintro r v Γ1 H1 ⟨r', Γ2, hz, φ1⟩ R1
  obtain ⟨R2, nr⟩ := R1.sto off hz
  refine hb.2 C hK (n + 1) _ Γ2 σ H1 _ _ off.up R2 φ1 ?_
  rintro s u Γ3 H3 ⟨s', Γ4, hz2, φ2⟩ R3
  obtain ⟨R4, ns⟩ := R3.sto off.up hz2
  refine ⟨by show 2 ≤ sizeLine; decide, fun p hp => ?_⟩
  have R4 := R4.alloc (o := .tup [v, u]) hp
  have nb2 : NoBor (upF f n (some (r', v))) := fun m i y => by
    unfold upF; split
    · intro z; cases z; exact nr _ rfl
    · exact nb m i y
  have R5 := R4.toSlot' off.up nb2 ns j
  have R6 := R5.toSlot' off nb nr i
  refine ⟨p, [v, u], rfl, .inl (.inl upd_same), rfl, v, [u], rfl, u, [], rfl, rfl, ?_⟩
  refine F.nx _ _ _ φ2 ?_
  rw [List.set_comm _ _ hij]
  exact R6
theorem xt_ch {a b c : Expr} {op op' : CmpOp} {pos : Pos} {r r' : R2} {φ ψ : PO'} {ta tb tc : TE} {wa wb wc : PX} (ho : OpR X (compareOp op) r) (hr : PureR2 X.K r φ) (ho' : OpR X (compareOp op') r') (hr' : PureR2 X.K r' ψ) (ha : XE X a ta wa) (hb : XE X b tb wb) (hc : XE X c tc wc)
    (hm : lastMarks [op, op'] [b, c] = false := by with_unfolding_all rfl) : XT X (.Compare a [op, op'] [b, c] pos) (tTest (tChain r r' ta tb tc)) (wB (wChain φ ψ wa wb wc)) :=
  xt_chain (xe_chain ho hr ho' hr' ha hb hc hm) (pt_chain ho ho' ha.1 hb.1 hc.1 hm)
end
end Px
end

/-! PxS -/
section
set_option Elab.async false
set_option linter.all false
set_option maxRecDepth 100000
set_option maxHeartbeats 4000000
set_option autoImplicit false
/-! a set comprehension whose members are put in by any rule of set.add -/
namespace Px
open PySem PySem.Spec PyProof.Rows L2 Dh PpSet

abbrev RAdd := V → List V → Hp → VK → Prop
/-- the reading: D the new set, o0 what an empty one is, r how a member comes in -/
def tScR (o0 : Addr → HO) (r : RAdd) (wi : TI) (g : TG) (tt : TT) (te : TE) (vs : List Nat) : TE := fun σ H Q =>
  wi σ H fun J H1 => ∀ D, H1 D = none → ∃ W : Nat → Nat → Hp → Prop, (∃ m, W 0 m (upd H1 D (o0 D))) ∧
    ∀ i m H, W i m H → (J.stop i H ∧ Q (.ref D) H) ∨ (J.go i H ∧ ∃ Nx : Hp → Prop, (∀ H', Nx H' → ∃ m', m' < m ∧ W (i + 1) m' H') ∧
      ∀ x H', J.yld i H x H' → g x (L2.wipe σ vs) H' fun σ2 H2 => L2.wipe σ2 vs = L2.wipe σ vs ∧ tt σ2 H2 fun b H3 =>
        if b = true then te σ2 H3 fun y H4 => r (.ref D) [y] H4 fun _ H5 => Nx H5 else Nx H3)
section
variable {X : Cx}
theorem pe_scR {elt tg iter : Expr} {ifs : List Expr} {scope : Scope} {own : List (Str × Nat)} {pos : Pos} {wi : TI} {g : TG} {tt : TT} {te : TE} {o0 : Addr → HO} {r : RAdd}
    (hr : ∀ Y : Cx, Y.w = X.w → MtR Y "set.add" r)
    (h0 : ∀ (H : Hp) (h : Heap), ObjOk X.prog X.w H (h.push { cls := .type "set", dict := none, data := .set #[] 0 (.fresh 0 0 (!X.w.params.followText "set-order")) }) h.objs.size (o0 h.objs.size))
    (hc : X.calm = true) (hN : X.N.Nodup) (hi : PI X tg iter wi) (ok : BlkOk X.N X.env.scope scope own)
    (hg : ∀ s H C cl fp, PG (X.blk s H scope (compEnvC scope cl C X.env) fp) tg g) (ht : ∀ s H C cl fp, PTs (X.blk s H scope (compEnvC scope cl C X.env) fp) ifs tt)
    (he : ∀ s H C cl fp, PE (X.blk s H scope (compEnvC scope cl C X.env) fp) elt te) (hs : ∀ x, foldedSetIterable iter X.env x = pure x := by intro _; rfl) :
    PE X (.SetComp elt [⟨tg, iter, ifs, 0⟩] scope pos) (tScR o0 r wi g tt te (own.map (·.2))) := by
  refine ⟨fun pins s σ H Q I h => ?_⟩
  rw [eval_SetComp]
  have free : ∀ y ∈ scope.names, y.2 = .free → ∃ c, X.env.cells.lookup y.1 = some c := by
    intro y hy e
    rcases ok.free y hy e with k | k
    · exact I.ok.has _ (.inl k)
    · exact I.ok.has _ (.inr k)
  refine wpAny_comprehension_free (use := none) rfl hs (closure_ok free) ok.kind (fun y hy e => by rw [ok.uniq y hy, e]) ?_
  refine thn (hi.run pins s σ H _ I h) fun xv s1 hx => thn hx ?_
  rintro itv s2 ⟨it, fp, tn, J, H2, rfl, I2, T, st2, f2, q⟩
  refine newSet_ok (newEnv_comp ?_)
  generalize eD : s2.heap.objs.size = D
  have nD : H2 D = none := I2.hok.fresh (Nat.le_of_eq eD)
  obtain ⟨W, ⟨m0, w0⟩, turn⟩ := q D nD
  generalize e3 : ({ s2 with heap := s2.heap.push { cls := .type "set", dict := none, data := .set #[] 0 (.fresh 0 0 (!X.w.params.followText "set-order")) } } : Shared) = s3
  have heap3 : s3.heap = s2.heap.push { cls := .type "set", dict := none, data := .set #[] 0 (.fresh 0 0 (!X.w.params.followText "set-order")) } := by rw [← e3]
  have I3 : Inv X pins σ (upd H2 D (o0 D)) s3 := by
    rw [← e3]
    refine I2.laid (t' := s2.toks) (fun b o e => Heap.get?_push_of_some _ e) (Nat.le_of_eq eD) ?_
    rw [← eD]
    exact h0 _ _
  have small : ∀ b ∈ fp, b < s2.heap.objs.size := by
    intro b hb
    obtain ⟨o, e, _⟩ := T.obj _ _ st2 b hb
    exact Heap.lt_size e
  have f3 : ∀ b ∈ fp, FpOk X pins (upd H2 D (o0 D)) b ∧ b < s3.heap.objs.size := by
    intro b hb
    have lt := small b hb
    have ne : b ≠ D := by rw [← eD]; exact Nat.ne_of_lt lt
    exact ⟨⟨by rw [upd_ne ne]; exact (f2 b hb).1, (f2 b hb).2⟩, by rw [heap3, Heap.size_push]; exact Nat.lt_succ_of_lt lt⟩
  have st3 : tn 0 s3.heap := T.keep _ _ _ st2 fun b _ o e => by rw [heap3]; exact Heap.get?_push_of_some _ e
  have I4 := block_start I3 ok hN f3
  have pg := hg s3 (upd H2 D (o0 D)) s3.heap.objs.size (cellsFrom (s3.heap.objs.size + 1) scope.names (cloFrom X.env.cells scope.names [])) fp
  have pt := ht s3 (upd H2 D (o0 D)) s3.heap.objs.size (cellsFrom (s3.heap.objs.size + 1) scope.names (cloFrom X.env.cells scope.names [])) fp
  have pe := he s3 (upd H2 D (o0 D)) s3.heap.objs.size (cellsFrom (s3.heap.objs.size + 1) scope.names (cloFrom X.env.cells scope.names [])) fp
  have nfp : ∀ b ∈ fp, (upd H2 D (o0 D)) b = none := fun b hb => (f3 b hb).1.1
  show codeAny _ _ (.compStart (.SetComp elt [⟨tg, iter, ifs, 0⟩] scope pos) 0 (.ref it) (.ref D) (compEnvC scope (cellsFrom (s3.heap.objs.size + 1) scope.names (cloFrom X.env.cells scope.names [])) s3.heap.objs.size X.env))
    (compPost (model X.prog X.w) X.A X.xe none (EP X pins σ Q) (.ref D) s3.heap.objs.size) { s3 with heap := pushCells (s3.heap.push { cls := .type "dict", data := .dict #[] }) scope.names }
  generalize ec : compEnvC scope (cellsFrom (s3.heap.objs.size + 1) scope.names (cloFrom X.env.cells scope.names [])) s3.heap.objs.size X.env = ce at I4 pg pt pe ⊢
  have cL : ce.locals = s3.heap.objs.size := by subst ec; rfl
  generalize eH : upd H2 D (o0 D) = H3 at I3 I4 pg pt pe w0 nfp f3
  generalize e4 : ({ s3 with heap := pushCells (s3.heap.push { cls := .type "dict", data := .dict #[] }) scope.names } : Shared) = s4 at I4 ⊢
  have st4 : tn 0 s4.heap := T.keep _ _ _ st3 fun b _ o e => by rw [← e4]; exact pushCells_keeps _ _ _ _ (Heap.get?_push_of_some _ e)
  have foot : ∀ {σ' : SS} {H' : Hp} {s' : Shared}, Inv (X.blk s3 H3 scope ce fp) [] σ' H' s' → (∀ b ∈ fp, H' b = none) → ∀ b ∈ fp, FpOk (X.blk s3 H3 scope ce fp) [] H' b := by
    intro σ' H' s' I' hn b hb
    exact ⟨hn b hb, (I'.ok.exf b hb).1, I'.ok.exfs b hb, .inl hb, fun x c e => (I'.ok.exf b hb).2 x c e, fun p hp => absurd (show p ∈ ([] : List (Addr × Obj)) ++ [] from hp) (by simp)⟩
  have loop : codeAny (model X.prog X.w) X.A (.compLoop (.SetComp elt [⟨tg, iter, ifs, 0⟩] scope pos) 0 (.ref it) (.ref D) ce) (compPost (model X.prog X.w) X.A X.xe none (EP X pins σ Q) (.ref D) s3.heap.objs.size) s4 := by
    refine compLoopS_any (fun n s' => ∃ i H', Inv (X.blk s3 H3 scope ce fp) [] (L2.wipe σ (own.map (·.2))) H' s' ∧ tn i s'.heap ∧ (∀ b ∈ fp, H' b = none) ∧ W i n H') ?_ m0 ⟨0, H3, I4, st4, nfp, w0⟩
    rintro n s5 ⟨i, H5, I5, st5, n5, w5⟩
    rcases turn i n H5 w5 with ⟨stop, qq⟩ | ⟨go, Nx, hNx, step⟩
    · refine thnF (T.done (X.blk s3 H3 scope ce fp) rfl rfl rfl hc i [] s5 _ H5 (fun _ _ => False) I5 (foot I5 n5) st5 stop) ?_
      rintro r s6 ⟨rfl, I6⟩
      have I7 : Inv X pins σ H5 s6 := I3.call' (ch := fp) I6.os I6.base I6.hok I6.bare fun b hb => ⟨(f3 b hb).1.2.2.2.1, (f3 b hb).1.2.1, (f3 b hb).1.2.2.2.2.1, (f3 b hb).1.2.2.2.2.2⟩
      have nC : H5 s3.heap.objs.size = none := by
        have z : H5 ce.locals = none := I6.free
        rwa [cL] at z
      obtain ⟨m, hn, _⟩ := I6.loc
      have hn : s6.heap.Ns ce.locals m := hn
      rw [cL] at hn
      obtain ⟨f0, f1, f2, f3, f4, f5⟩ := I3.fpOk (Nat.le_refl _) nC
      exact ⟨m, hn, fun h'' sb => ⟨.ref D, H5, I7.turned (t' := s6.toks) (fun b o hb e => (sb.2 b hb).trans e) f0 f1 f3 f4 f5, rfl, qq⟩⟩
    · refine thnF (T.item (X.blk s3 H3 scope ce fp) rfl rfl rfl hc i [] s5 _ H5 (fun _ _ => False) I5 (foot I5 n5) st5 go) ?_
      rintro rr s6 ⟨u, rfl, h6⟩
      refine thnF h6 ?_
      rintro _ s7 ⟨x, H7, I7, r7, y7, st7, n7⟩
      have I7' := I7.pinned (foot I7 n7) (T.obj _ _ st7)
      refine thnF (pg.run _ s7 _ H7 x u _ I7' r7 (step x H7 y7)) ?_
      rintro _ s8 ⟨σ8, H8, I8, hw8, q8⟩
      refine thnF (pt.run _ s8 σ8 H8 _ I8 q8) ?_
      rintro b s9 ⟨H9, I9, q9⟩
      have fin : ∀ {s' : Shared} {H' : Hp}, Inv (X.blk s3 H3 scope ce fp) ([] ++ pinsAt fp s7.heap) σ8 H' s' → Nx H' →
          ∃ m, m < n ∧ ∃ i H', Inv (X.blk s3 H3 scope ce fp) [] (L2.wipe σ (own.map (·.2))) H' s' ∧ tn i s'.heap ∧ (∀ b ∈ fp, H' b = none) ∧ W i m H' := by
        intro s' H' I' nx
        obtain ⟨m', hm, w'⟩ := hNx H' nx
        have pinned : ∀ b ∈ fp, ∀ o, s7.heap.get? b = some o → s'.heap.get? b = some o ∧ H' b = none := by
          intro b hb o e
          have z := I'.pin (b, o) (List.mem_append_right _ (List.mem_append_right _ (mem_pinsAt hb e)))
          exact ⟨z.1, z.2.1⟩
        have hl : (L2.wipe σ (own.map (·.2))).length = σ8.length := by rw [← hw8, wipe_length]
        refine ⟨m', hm, i + 1, H', (I'.unpinned (pins := [])).weak hl (fun j v e => ?_), T.keep _ _ _ st7 fun b hb o e => (pinned b hb o e).1, fun b hb => ?_, w'⟩
        · rw [← hw8] at e
          exact (wipe_some e).1
        · obtain ⟨o, e, _⟩ := T.obj _ _ st7 b hb
          exact (pinned b hb o e).2
      cases b with
      | false =>
        simp only [Bool.false_eq_true, if_false] at q9 ⊢
        exact fin I9 q9
      | true =>
        simp only [if_true] at q9 ⊢
        refine thnF (pe.run _ s9 σ8 H9 _ I9 q9) ?_
        rintro z s10 ⟨yv, H10, I10, r10, nx⟩
        refine thnF (hr (X.blk s3 H3 scope ce fp) rfl _ s10 σ8 H10 (.ref D) [yv] (.ref D) [z] _ I10 rfl (.cons r10 .nil) nx) ?_
        rintro _ s11 ⟨_, H11, I11, _, nx⟩
        exact fin I11 nx
  exact codeAny_compStart_set loop (T.self X.A 0 _ _ _ st4 loop)
end
end Px
end

/-! PxP -/
section
set_option Elab.async false
set_option linter.all false
set_option maxRecDepth 100000
set_option maxHeartbeats 4000000
set_option autoImplicit false
/-! an object that is no data (a set) stays as it is while data go on: it is pinned -/
namespace Px
open PySem PySem.Spec PyProof.Rows L2 Dh

/-- neither a list, a tuple nor a dict -/
def Odd : HO → Prop
  | .lst _ => False
  | .tup _ => False
  | .dK _ => False
  | _ => True
def Cc.pin (C : Cc) (D : Addr) (o : HO) : Cc := { C with M := fun b => C.M b ∨ b = D, H0 := upd C.H0 D o }
section
variable {K : PySem.W.Frag} {W W' : AS} {H : Hp} {D : Addr} {o : HO}
mutual
theorem Ac.pin (hD : H D = some o) (ho : Odd o) (hw : ∀ a, W' a → W a ∨ a = D) : ∀ (d : PyData) {x : V}, Ac K W H x d → Ac K W' H x d
  | .none, _, h => by cases h; exact .non
  | .bool b, _, h => by cases h; exact .bl b
  | .int i, _, h => by cases h; exact .int i
  | .str x, _, h => by cases h; exact .str x
  | .list ds, _, h => by
    cases h with
    | lst h1 h2 h3 => exact .lst h1 (fun z => (hw _ z).elim h2 fun e => by rw [e, hD] at h1; cases h1; exact ho) (AcL.pin hD ho hw ds h3)
  | .tuple ds, _, h => by
    cases h with
    | tup h1 h2 h3 => exact .tup h1 (fun z => (hw _ z).elim h2 fun e => by rw [e, hD] at h1; cases h1; exact ho) (AcL.pin hD ho hw ds h3)
    | tupK h1 h3 => exact .tupK h1 (AcL.pin hD ho hw ds h3)
  | .dict es, _, h => by
    cases h with
    | dic h1 h2 h3 => exact .dic h1 (fun z => (hw _ z).elim h2 fun e => by rw [e, hD] at h1; cases h1; exact ho) (AcK.pin hD ho hw es h3)
theorem AcL.pin (hD : H D = some o) (ho : Odd o) (hw : ∀ a, W' a → W a ∨ a = D) : ∀ (ds : List PyData) {xs : List V}, AcL K W H xs ds → AcL K W' H xs ds
  | [], _, h => by cases h; exact .nil
  | d :: ds, _, h => by
    cases h with
    | cons h1 h2 => exact .cons (Ac.pin hD ho hw d h1) (AcL.pin hD ho hw ds h2)
theorem AcK.pin (hD : H D = some o) (ho : Odd o) (hw : ∀ a, W' a → W a ∨ a = D) : ∀ (es : List (PyData × PyData)) {kvs : List (Key × V)}, AcK K W H kvs es → AcK K W' H kvs es
  | [], _, h => by cases h; exact .nil
  | (_, d) :: es, _, h => by
    cases h with
    | cons h1 h2 => exact .cons (Ac.pin hD ho hw d h1) (AcK.pin hD ho hw es h2)
end
theorem Ow.pin {a : Addr} {d : PyData} (hD : H D = some o) (ho : Odd o) (hw : ∀ a, W' a → W a ∨ a = D) (h : Ow K W H a d) : Ow K W' H a d := by
  cases h with
  | lst h1 h2 => exact .lst h1 (AcL.pin hD ho hw _ h2)
  | dic h1 h2 => exact .dic h1 (AcK.pin hD ho hw _ h2)
theorem Ow.ne {a : Addr} {d : PyData} (hD : H D = some o) (ho : Odd o) (h : Ow K W H a d) : a ≠ D := by
  intro e
  subst e
  cases h with
  | lst h1 _ => rw [hD] at h1; cases h1; exact ho
  | dic h1 _ => rw [hD] at h1; cases h1; exact ho
end
section
variable {C : Cc} {e : Ent} {f : Fr} {Γ : Env} {σ : SS} {H : Hp} {D : Addr} {o o' : HO}
theorem WE.pin {C : Cc} {e : Ent} {D : Addr} {o : HO} (a : Addr) : WE (C.pin D o) e a ↔ WE C e a ∨ a = D := by
  constructor
  · rintro ((z | z) | z)
    · exact .inl (.inl z)
    · exact .inr z
    · exact .inl (.inr z)
  · rintro ((z | z) | z)
    · exact .inl (.inl z)
    · exact .inr z
    · exact .inl (.inr z)
theorem Dck.ne {ik : List Key} {U : List Addr} {H : Hp} {a D : Addr} {o : HO} (hU : D ∉ U) (h : Dck ik U (upd H D o) a) : Dck ik U H a := by
  obtain ⟨lf, kvs, ls, h1, h2, h3, h4, h5, h6, h7, h8⟩ := h
  have n1 : a ≠ D := fun z => hU (by rw [h1, ← z]; simp)
  have n2 : lf ≠ D := fun z => hU (by rw [h1, ← z]; simp)
  rw [upd_ne n1] at h3
  rw [upd_ne n2] at h7
  exact ⟨lf, kvs, ls, h1, h2, h3, h4, h5, h6, h7, h8⟩
/-- what has been laid is pinned -/
theorem RelE.pinIn (R : RelE C e σ H) (hD : H D = some o) (ho : Odd o) (nW : ¬ WE C e D) (n0 : C.H0 D = none) : RelE (C.pin D o) e σ H := by
  have hU : D ∉ C.U := fun z => nW (.inl (R.uM _ z))
  have sub : ∀ a, WE (C.pin D o) e a → WE C e a ∨ a = D := fun a z => (WE.pin a).mp z
  refine ⟨fun k d x q => ?_, R.inj, fun k d a q => ?_, ?_, ?_, fun b hb => .inl (R.uM b hb), fun a h => R.dk a (h.ne hU)⟩
  · have v := R.ok k d x q
    cases v with
    | v h => exact .v (Ac.pin hD ho sub _ h)
    | own h => exact .own (h.pin hD ho sub)
    | bor h => exact .bor h
    | ro h m n => exact .ro (h.pin hD ho sub) (.inl m) n
    | deck h => exact .deck h
    | raw => exact .raw
  · have ne : a ≠ D := fun z => nW (.inr ⟨k, d, by rw [← z]; exact q⟩)
    refine ⟨fun z => z.elim (R.ap _ _ _ q).1 ne, ?_⟩
    show upd C.H0 D o a = none
    rw [upd_ne ne]; exact (R.ap _ _ _ q).2
  · intro b u h hb
    have h' : upd C.H0 D o b = some u := h
    by_cases z : b = D
    · rw [z, upd_same] at h'
      rw [z, hD]; exact h'
    · rw [upd_ne z] at h'
      exact R.kp b u h' hb
  · rintro b (z | z)
    · exact R.tr b z
    · exact ⟨o, by rw [z]; exact hD, fun xs y => by rw [y] at ho; exact ho⟩
theorem RelE.pinOut (R : RelE (C.pin D o) e σ H) (ho : Odd o) (nM : ¬ C.M D) (hU : D ∉ C.U) (n0 : C.H0 D = none) : RelE C e σ H := by
  have hD : H D = some o := R.kp D o (upd_same (H := C.H0)) hU
  have sub : ∀ a, WE C e a → WE (C.pin D o) e a := fun a z => (WE.pin a).mpr (.inl z)
  refine ⟨fun k d x q => ?_, R.inj, fun k d a q => ?_, ?_, fun b hb => R.tr b (.inl hb), fun b hb => ?_, fun a h => R.dk a ?_⟩
  · have v := R.ok k d x q
    cases v with
    | v h => exact .v (Ac.tr (Tr.less sub) _ h)
    | own h => exact .own (h.tr (Tr.less sub) rfl)
    | bor h => exact .bor h
    | ro h m n => exact .ro (h.tr (Tr.less sub) rfl) (m.elim id fun z => absurd z (h.ne hD ho)) n
    | deck h => exact .deck h
    | raw => exact .raw
  · have z := R.ap _ _ _ q
    refine ⟨fun y => z.1 (.inl y), ?_⟩
    have ne : a ≠ D := fun y => z.1 (.inr y)
    have h : upd C.H0 D o a = none := z.2
    rw [upd_ne ne] at h; exact h
  · intro b u h hb
    have ne : b ≠ D := fun z => by rw [z, n0] at h; cases h
    exact R.kp b u (by show upd C.H0 D o b = _; rw [upd_ne ne]; exact h) hb
  · rcases R.uM b hb with z | z
    · exact z
    · exact absurd (z ▸ hb) hU
  · show Dck C.ik C.U (upd C.H0 D o) a
    exact h.off hU
theorem RelE.pinPut (R : RelE (C.pin D o) e σ H) (ho : Odd o) (ho' : Odd o') (hU : D ∉ C.U) : RelE (C.pin D o') e σ (upd H D o') := by
  have hD : H D = some o := R.kp D o (upd_same (H := C.H0)) hU
  have t : Tr (WE (C.pin D o) e) H (WE (C.pin D o') e) (upd H D o') := by
    intro a u h n
    have ne : a ≠ D := fun z => n ((WE.pin a).mpr (.inr z))
    exact ⟨by rw [upd_ne ne]; exact h, fun z => n ((WE.pin a).mpr ((WE.pin a).mp z))⟩
  refine ⟨fun k d x q => ?_, R.inj, fun k d a q => ?_, ?_, ?_, R.uM, fun a h => ?_⟩
  · have v := R.ok k d x q
    cases v with
    | v h => exact .v (Ac.tr t _ h)
    | own h => exact .own (h.tr t (upd_ne (h.ne hD ho)))
    | bor h => exact .bor h
    | ro h m n => exact .ro (h.tr t (upd_ne (h.ne hD ho))) m n
    | deck h => exact .deck (h.off hU)
    | raw => exact .raw
  · have z := R.ap _ _ _ q
    refine ⟨z.1, ?_⟩
    have ne : a ≠ D := fun y => z.1 (.inr y)
    have h : upd C.H0 D o a = none := z.2
    show upd C.H0 D o' a = none
    rw [upd_ne ne] at h ⊢; exact h
  · intro b u h hb
    have h' : upd C.H0 D o' b = some u := h
    by_cases z : b = D
    · rw [z, upd_same] at h' ⊢; exact h'
    · rw [upd_ne z] at h' ⊢
      exact R.kp b u (by show upd C.H0 D o b = _; rw [upd_ne z]; exact h') hb
  · rintro b z
    by_cases y : b = D
    · rw [y]; exact ⟨o', upd_same, fun xs y => by rw [y] at ho'; exact ho'⟩
    · exact upd_there (R.tr b z) y
  · have h' : Dck C.ik C.U (upd C.H0 D o') a := h
    exact (R.dk a ((h'.ne hU).off hU)).off hU
theorem Rel.pinIn (R : Rel C f Γ σ H) (hD : H D = some o) (ho : Odd o) (nW : ¬ WE C (ent f Γ σ) D) (n0 : C.H0 D = none) : Rel (C.pin D o) f Γ σ H := ⟨R.e.pinIn hD ho nW n0, R.len, R.full, R.nb⟩
theorem Rel.pinOut (R : Rel (C.pin D o) f Γ σ H) (ho : Odd o) (nM : ¬ C.M D) (hU : D ∉ C.U) (n0 : C.H0 D = none) : Rel C f Γ σ H := ⟨R.e.pinOut ho nM hU n0, R.len, R.full, R.nb⟩
theorem Rel.pinPut (R : Rel (C.pin D o) f Γ σ H) (ho : Odd o) (ho' : Odd o') (hU : D ∉ C.U) : Rel (C.pin D o') f Γ σ (upd H D o') := ⟨R.e.pinPut ho ho' hU, R.len, R.full, R.nb⟩
theorem Rel.pinned (R : Rel (C.pin D o) f Γ σ H) (hU : D ∉ C.U) : H D = some o := R.e.kp D o (upd_same (H := C.H0)) hU
theorem Rel.off0 (R : Rel C f Γ σ H) (hD : H D = none) : ¬ WE C (ent f Γ σ) D ∧ C.H0 D = none ∧ D ∉ C.U := by
  obtain ⟨h1, h2⟩ := R.e.fresh hD
  exact ⟨h1, h2, fun z => h1 (.inl (R.e.uM _ z))⟩
/-- laid and pinned at once -/
theorem Rel.pinNew (R : Rel C f Γ σ H) (hD : H D = none) (ho : Odd o) : Rel (C.pin D o) f Γ σ (upd H D o) :=
  (R.alloc (o := o) hD).pinIn upd_same ho (R.off0 hD).1 (R.off0 hD).2.1
end
theorem Cok.pin {X : Cx} [IK] {C : Cc} (h : Cok C X) (D : Addr) (o : HO) : Cok (C.pin D o) X := ⟨h.k, h.i⟩

/-! ### sorted({elt for target in iter if ..}), the members ints -/
def compI (vs : List Nat) (g : PG') (tt : PXT) (te : PX) (G : Env → Prop) : List PyData → List Int → Env → (List Int → Env → Prop) → Prop
  | [], acc, Γ, Φ => G Γ ∧ Φ acc Γ
  | d :: ds, acc, Γ, Φ => G Γ ∧ acc.length < 60 ∧ g d (wipeG Γ vs) fun Γ1 => tt Γ1 fun b Γ2 =>
      (b = true → te Γ2 fun r Γ3 => ∃ k : Int, r = .v (.int k) ∧ compI vs g tt te G ds (acc ++ [k]) (wipeG Γ3 vs) Φ) ∧ (b = false → compI vs g tt te G ds acc (wipeG Γ2 vs) Φ)
/-- their members, ascending -/
def ascOf (acc ns : List Int) : Prop := ns.Pairwise (· < ·) ∧ ∀ k, k ∈ ns ↔ k ∈ acc
def wSs (vs : List Nat) (wi : PIc) (g : PG') (tt : PXT) (te : PX) : PX := fun Γ Φ => wi Γ fun ds G Γ1 => compI vs g tt te G ds [] Γ1 fun acc Γ2 => ∀ ns, ascOf acc ns → Φ (.own (.list (ns.map .int))) Γ2
def memI (acc : List Int) : Int → Bool := fun k => decide (k ∈ acc)
section
variable {X : Cx} [IK]
theorem odd_set {w : World} {a : Addr} {S : Int → Bool} {n : Nat} : Odd (SetO w a S n) := trivial
theorem xe_sortedSc {elt tg iter : Expr} {ifs : List Expr} {scope : Scope} {own : List (Str × Nat)} {p pos pos2 : Pos} {wi : TI} {g : TG} {tt : L2.TT} {te : TE} {wI : PIc} {wG : PG'} {wT : PXT} {wE : PX} {ts : List Nat} (hc : X.calm = true) (hN : X.N.Nodup)
    (hgl : Gl X "sorted") (hm : X.mg "sorted" = none) (hi : XIc X tg iter wi wI) (ok : BlkOk X.N X.env.scope scope own)
    (hg : ∀ (s : Shared) (H : Hp) (C : Addr) (cl : List (Str × Addr)) (fp : List Addr), XG (X.blk s H scope (compEnvC scope cl C X.env) fp) tg g wG ts) (ht : ∀ (s : Shared) (H : Hp) (C : Addr) (cl : List (Str × Addr)) (fp : List Addr), XTs (X.blk s H scope (compEnvC scope cl C X.env) fp) ifs tt wT)
    (he : ∀ (s : Shared) (H : Hp) (C : Addr) (cl : List (Str × Addr)) (fp : List Addr), XE (X.blk s H scope (compEnvC scope cl C X.env) fp) elt te wE) (hts : ∀ i ∈ ts, i ∈ own.map (·.2) := by decide) (hs : ∀ x, foldedSetIterable iter X.env x = pure x := by intro _; rfl)
    (hst : starEach [.SetComp elt [⟨tg, iter, ifs, 0⟩] scope pos] X.env = (false, eval (.SetComp elt [⟨tg, iter, ifs, 0⟩] scope pos) X.env) :: starEach [] X.env := by rfl) :
    XE X (.Call (.Name "sorted" p) [.SetComp elt [⟨tg, iter, ifs, 0⟩] scope pos] [] pos2)
      (tCB (rSortedSet X.w) (tCons (tScR (fun D => SetO X.w D (fun _ => false) 0) (rSAdd X.w) wi g tt te (own.map (·.2))) tNil)) (wSs (own.map (·.2)) wI wG wT wE) := by
  refine ⟨pe_callB (cr_sortedSet hc) hgl hm (by decide +kernel) (pa_cons (pe_scR (fun Y hY => by rw [← hY]; exact mt_sadd) (fun H h => setO_new (setR_fresh X.w)) hc hN hi.1 ok (fun s H C cl fp => (hg s H C cl fp).1) (fun s H C cl fp => (ht s H C cl fp).1) (fun s H C cl fp => (he s H C cl fp).1) hs) pa_nil hst) (he := hst), fun C hK n f Γ σ H Q Φ off R w k => ?_⟩
  generalize own.map (·.2) = vs at hts w ⊢
  refine hi.2 C hK n f Γ σ H _ _ off R w ?_
  intro ds G J Γ1 H1 n' f' Hd φ hn off' low R1 hd st okJ D hD
  have hdl : Hd f' := hd
  obtain ⟨nW, n0, nU⟩ := R1.off0 hD
  have nM : ¬ C.M D := fun z => nW (.inl z)
  refine ⟨fun i m H2 => m = ds.length - i ∧ i ≤ ds.length ∧ ∃ acc Γ2 sz, Rel (C.pin D (SetO X.w D (memI acc) sz)) f' Γ2 σ H2 ∧ sz ≤ acc.length ∧ acc.length < 61 ∧ compI vs wG wT wE G (ds.drop i) acc Γ2 fun acc Γ2 => ∀ ns, ascOf acc ns → Φ (.own (.list (ns.map .int))) Γ2,
    ⟨_, rfl, Nat.zero_le _, [], Γ1, 0, ?_, Nat.le_refl _, (by decide), by simpa using φ⟩, ?_⟩
  · have e : memI [] = fun _ => false := by funext k; simp [memI]
    rw [e]
    exact R1.pinNew hD odd_set
  rintro i m H2 ⟨rfl, hi2, acc, Γ2, sz, R2, hz, h61, φ2⟩
  have dG := (hg X.s_0 (fun _ => none) 0 [] []).2 (C.pin D (SetO X.w D (memI acc) sz)) ⟨hK.k, hK.i⟩
  have dT := (ht X.s_0 (fun _ => none) 0 [] []).2 (C.pin D (SetO X.w D (memI acc) sz)) ⟨hK.k, hK.i⟩
  have dE := (he X.s_0 (fun _ => none) 0 [] []).2 (C.pin D (SetO X.w D (memI acc) sz)) ⟨hK.k, hK.i⟩
  have R2' : Rel C f' Γ2 σ H2 := R2.pinOut odd_set nM nU n0
  rcases Nat.lt_or_ge i ds.length with lt | ge
  · have hd' : ds[i]? = some ds[i] := List.getElem?_eq_getElem lt
    rw [List.drop_eq_getElem_cons lt] at φ2
    obtain ⟨hG, h60, φ2⟩ := φ2
    refine .inr ⟨okJ.go _ Γ2 σ H2 i hdl hG R2' lt, fun H3 => ∃ acc Γ3 sz, Rel (C.pin D (SetO X.w D (memI acc) sz)) f' Γ3 σ H3 ∧ sz ≤ acc.length ∧ acc.length < 61 ∧ compI vs wG wT wE G (ds.drop (i + 1)) acc Γ3 fun acc Γ2 => ∀ ns, ascOf acc ns → Φ (.own (.list (ns.map .int))) Γ2, fun H3 z => ⟨ds.length - (i + 1), by omega, rfl, lt, z⟩, fun x H3 y => ?_⟩
    obtain ⟨gr, a⟩ := okJ.yld _ Γ2 σ H2 i _ x H3 hdl hG R2' hd' y
    have R3 := R2.grow gr
    have hD3 := R3.pinned nU
    have a' : Ac C.K (WE (C.pin D (SetO X.w D (memI acc) sz)) (ent f' Γ2 σ)) H3 x ds[i] := Ac.pin hD3 odd_set (fun b z => (WE.pin b).mp z) _ a
    have R4 := R3.hide.wipes (hide_nb _) vs
    have offh : Off (hide f') n' := hide_off off'
    have aw : Ac C.K (WE (C.pin D (SetO X.w D (memI acc) sz)) (ent (hide f') (wipeG Γ2 vs) (L2.wipe σ vs))) H3 x ds[i] := by
      refine Ac.tr (Tr.less ?_) _ a'
      rintro b (z | ⟨k, d, z⟩)
      · exact .inl z
      · cases k with
        | inl m => exact .inr ⟨.inl m, d, hide_some z⟩
        | inr j =>
          obtain ⟨z1, z2⟩ := slotE_some z
          obtain ⟨z1, zo⟩ := wipeG_some z1
          refine .inr ⟨.inr j, d, ?_⟩
          show slotE Γ2[j]? σ[j]? = _
          rw [z1, (wipe_some z2).1]; rfl
    refine dG n' _ _ _ H3 x _ _ _ offh (hide_nb _) R4 aw φ2 ?_
    intro Γ5 σ5 H5 φ5 R5 _ hw5
    have hw : L2.wipe σ5 vs = L2.wipe σ vs := by
      rw [hw5 vs hts]
      have : ∀ us : List Nat, (∀ u ∈ us, u ∈ vs) → L2.wipe (L2.wipe σ us) vs = L2.wipe σ vs := by
        intro us
        induction us with
        | nil => intro _; rfl
        | cons u us ih =>
          intro h
          show L2.wipe ((L2.wipe σ us).set u none) vs = _
          rw [wipe_in (h u (by simp))]
          exact ih fun v hv => h v (List.mem_cons_of_mem _ hv)
      exact this vs fun _ z => z
    refine ⟨by rw [hw5 vs hts]; exact (hw5 vs hts).symm.trans hw, ?_⟩
    refine dT n' _ Γ5 σ5 H5 _ _ offh R5 φ5 ?_
    rintro b Γ6 H6 ⟨φt, φf⟩ R6
    cases b with
    | false =>
      rw [if_neg (by decide)]
      exact ⟨acc, _, sz, R6.unhide R3 (fun _ _ _ z => z) hw, hz, h61, φf rfl⟩
    | true =>
      rw [if_pos rfl]
      refine dE n' _ Γ6 σ5 H6 _ _ offh R6 (φt rfl) ?_
      rintro r y Γ7 H7 ⟨kk, rfl, φ8⟩ R7
      obtain rfl : y = .int kk := by
        have z := R7.heldV
        cases z; rfl
      have R8 := R7.drop offh
      have R9 := R8.unhide R3 (fun _ _ _ z => z) hw
      have hD7 := R9.pinned nU
      refine ⟨D, kk, memI acc, sz, rfl, rfl, hD7, Nat.lt_of_le_of_lt (show sz + 1 ≤ 62 by omega) (by decide), acc ++ [kk], _, (if memI acc kk = true then sz else sz + 1), ?_, ?_, ?_, φ8⟩
      · have e : memI (acc ++ [kk]) = fun j => memI acc j || decide (j = kk) := by
          funext j
          simp [memI, Bool.decide_or]
        rw [e]
        exact R9.pinPut odd_set odd_set nU
      · rw [List.length_append]
        show (if memI acc kk = true then sz else sz + 1) ≤ acc.length + 1
        split <;> omega
      · rw [List.length_append]
        show acc.length + 1 < 61
        omega
  · refine .inl ⟨okJ.stop _ Γ2 σ H2 i hdl ?_ R2' ge, ?_⟩
    · rw [List.drop_eq_nil_of_le ge] at φ2
      exact φ2.1
    · rw [List.drop_eq_nil_of_le ge] at φ2
      refine ⟨D, memI acc, sz, rfl, R2.pinned nU, by omega, fun ns q hs hm _ hq => ?_⟩
      refine k _ _ _ _ (φ2.2 ns ⟨hs, fun k => by rw [hm k]; simp [memI]⟩) ?_
      exact (R2'.less off low).mineL off hq (AcL.ofInts ns)
end
end Px
end

/-! PxR -/
section
set_option Elab.async false
set_option linter.all false
set_option maxRecDepth 100000
set_option maxHeartbeats 4000000
/-! tuple * int for any int, sorted of a dict with text keys, calls by keywords in any order -/
namespace Px
open PySem PySem.Spec PyProof.Rows L2 Dh
/-- the same tuple -/
theorem mulT_same (l : Addr) (items : Array Value) (n : Nat) (dd : Option Addr) (sl : Array (Option Value)) (x : Int) (u : Tok) (c0 : (decide (x < -(2 ^ 63)) || decide (x ≥ 2 ^ 63)) = false) (c1 : (items.isEmpty || x == 1) = true) :
    Meets (Builtin.«tuple.__mul__» ⟨[.ref l, .int x u], []⟩) fun _ R s => s.heap.get? l = some { cls := .type "tuple", dict := dd, data := .seq items n, slots := sl } ∧ R (.ok (.ret (.ref l))) s :=
  .of_wp fun prog w A R s h => by
    obtain ⟨hp, g, d, tk, os⟩ := s
    obtain ⟨hl, q⟩ := h
    have f1 := AutoSeq1.idx_int
    wp_walk using wpAny_loadPart' hl
    repeat (first
      | (refine wpAny_ite_false (decide_eq_false (by rw [c0]; exact Bool.false_ne_true)) ?_; wp_walk using wpAny_loadPart' hl)
      | (refine wpAny_ite_true (decide_eq_true c1) ?_; wp_walk using wpAny_loadPart' hl))
    exact ⟨_, rfl, q⟩
/-- none of it -/
theorem mulT_none (l : Addr) (items : Array Value) (n : Nat) (dd : Option Addr) (sl : Array (Option Value)) (x : Int) (u : Tok) (c0 : (decide (x < -(2 ^ 63)) || decide (x ≥ 2 ^ 63)) = false) (c1 : (items.isEmpty || x == 1) = false) (c2 : (decide (x ≤ 0) || items.isEmpty) = true) :
    Meets (Builtin.«tuple.__mul__» ⟨[.ref l, .int x u], []⟩) fun _ R s => s.heap.get? l = some { cls := .type "tuple", dict := dd, data := .seq items n, slots := sl } ∧
      R (.ok (.ret (.ref s.heap.objs.size))) { s with heap := s.heap.push { cls := Value.type "tuple", data := Data.seq #[] }, toks := s.toks } :=
  .of_wp fun prog w A R s h => by
    obtain ⟨hp, g, d, tk, os⟩ := s
    obtain ⟨hl, q⟩ := h
    have f1 := AutoSeq1.idx_int
    wp_walk using wpAny_loadPart' hl
    repeat (first
      | (refine wpAny_ite_false (decide_eq_false (by rw [c0]; exact Bool.false_ne_true)) ?_; wp_walk using wpAny_loadPart' hl)
      | (refine wpAny_ite_false (decide_eq_false (by rw [c1]; exact Bool.false_ne_true)) ?_; wp_walk using wpAny_loadPart' hl)
      | (refine wpAny_ite_true (decide_eq_true c2) ?_; wp_walk using wpAny_loadPart' hl))
    exact ⟨_, rfl, q⟩
/-- t * k -/
def rMulT (K : PySem.W.Frag) : R2 := fun x y H Q => ∃ l k xs, x = .ref l ∧ y = .int k ∧ SqT K H l xs ∧ -1000 ≤ k ∧ k ≤ 1000 ∧ xs.length ≤ 1000 ∧ (∀ p, H p = none → Q (.ref p) (upd H p (.tup (List.replicate k.toNat xs).flatten))) ∧ ((List.replicate k.toNat xs).flatten = xs → Q (.ref l) H)
section
variable {X : Cx}
theorem op_mulT : OpR X (binaryOp .Mult) (rMulT X.K) := by
  intro pins s σ H x y v u Q I rx ry h
  obtain ⟨l, k, xs, rfl, rfl, hT, h1, h2, hz, q, q2⟩ := h
  by_cases big : xs ≠ [] ∧ 2 ≤ k
  · exact op_repT pins s σ H (.ref l) (.int k) v u Q I rx ry ⟨l, k, xs, rfl, rfl, hT, big.1, big.2, h2, hz, q⟩
  · cases rx
    obtain ⟨t, rfl⟩ := ry
    obtain ⟨its, r, ⟨⟨cls, dd, data, sl⟩, ho, hc, n, hd⟩, hs⟩ := I.tuple hT
    simp only at hc hd
    subst hc hd
    have hle : its.length = xs.length := r.length.symm
    have c0 : (decide (k < -(2 ^ 63)) || decide (k ≥ 2 ^ 63)) = false := by
      rw [decide_eq_false (by omega), decide_eq_false (by omega)] <;> rfl
    by_cases c1 : (its.toArray.isEmpty || k == 1) = true
    · have same : (List.replicate k.toNat xs).flatten = xs := by
        rcases Bool.or_eq_true _ _ |>.mp c1 with e | e
        · have : its = [] := by cases its with | nil => rfl | cons a b => cases e
          rw [this] at hle
          have : xs = [] := List.eq_nil_of_length_eq_zero hle.symm
          rw [this]; simp
        · have : k = 1 := eq_of_beq e
          subst this
          simp
      refine wpAny_binaryOp_repeat_ref (T := "tuple") (U := "int") (by decide) ⟨_, ho, rfl⟩ (fun s' => typeIs_int s' k t) noFill_tuple_mul F.fills_int_mul F.slot_int_rmul repeat_tuple F.slot_int_index.lookup
        (call_meets F.slot_int_rmul (typeIs_int s k t) F.entry_int_rmul (F.args_int_rmul_2 _ _) (int_rmul_tuple k t l its.toArray n dd sl)
          ⟨ho, rfl, ⟨_, ho, rfl⟩, call_meets F.slot_tuple_mul ⟨_, ho, rfl⟩ F.entry_tuple_mul (F.args_tuple_mul_2 _ _) (mulT_same l its.toArray n dd sl k t c0 c1) ⟨ho, ?_⟩⟩)
      exact ⟨.ref l, H, I, rfl, q2 same⟩
    · have c1 : (its.toArray.isEmpty || k == 1) = false := by simpa using c1
      have ne : xs ≠ [] := fun z => by
        rw [z] at hle
        have : its = [] := List.eq_nil_of_length_eq_zero hle
        rw [this] at c1; cases c1
      have k1 : k ≠ 1 := fun z => by rw [z] at c1; simp at c1
      have k0 : k ≤ 0 := by
        have : ¬ 2 ≤ k := fun z => big ⟨ne, z⟩
        omega
      have c2 : (decide (k ≤ 0) || its.toArray.isEmpty) = true := by rw [decide_eq_true k0]; rfl
      refine wpAny_binaryOp_repeat_ref (T := "tuple") (U := "int") (by decide) ⟨_, ho, rfl⟩ (fun s' => typeIs_int s' k t) noFill_tuple_mul F.fills_int_mul F.slot_int_rmul repeat_tuple F.slot_int_index.lookup
        (call_meets F.slot_int_rmul (typeIs_int s k t) F.entry_int_rmul (F.args_int_rmul_2 _ _) (int_rmul_tuple k t l its.toArray n dd sl)
          ⟨ho, rfl, ⟨_, ho, rfl⟩, call_meets F.slot_tuple_mul ⟨_, ho, rfl⟩ F.entry_tuple_mul (F.args_tuple_mul_2 _ _) (mulT_none l its.toArray n dd sl k t c0 c1 c2) ⟨ho, ?_⟩⟩)
      have z : k.toNat = 0 := by omega
      have q' := q s.heap.objs.size (I.hok.fresh (Nat.le_refl _))
      rw [z] at q'
      refine ⟨.ref s.heap.objs.size, _, I.laid (t' := s.toks) (o := .tup (List.replicate 0 xs).flatten) (fun b ob q => Heap.get?_push_of_some _ q) (Nat.le_refl _) ?_, rfl, q'⟩
      exact ⟨by simp, [], .nil, IsTup.new _ _⟩
theorem repT_ok {K : PySem.W.Frag} {W : AS} {H : Hp} {xs : List V} {ds : List PyData} (h : AcL K W H xs ds) : ∀ k : Nat, AcL K W H (List.replicate k xs).flatten (List.replicate k ds).flatten
  | 0 => .nil
  | k + 1 => by
    rw [List.replicate_succ, List.replicate_succ, List.flatten_cons, List.flatten_cons]
    exact h.app (repT_ok h k)
def pMulT : PO' | [.tuple ds, .int k], Ψ => -1000 ≤ k ∧ k ≤ 1000 ∧ ds.length ≤ 1000 ∧ Ψ (.v (.tuple (List.replicate k.toNat ds).flatten)) | _, _ => False
theorem rep_same {α β : Type} {xs : List α} {ds : List β} (hl : xs.length = ds.length) : ∀ {k : Nat}, (List.replicate k xs).flatten = xs → (List.replicate k ds).flatten = ds := by
  intro k h
  have e := congrArg List.length h
  simp only [List.length_flatten, List.map_replicate, List.sum_replicate_nat] at e
  by_cases z : xs.length = 0
  · have : ds = [] := List.eq_nil_of_length_eq_zero (by omega)
    subst this; simp
  · have : k = 1 := Nat.eq_of_mul_eq_mul_right (Nat.pos_of_ne_zero z) (by omega)
    subst this; simp
theorem PMulT {K} : PureR2 K (rMulT K) pMulT := by
  intro W H x y d e Q Ψ hx hy hφ P
  cases d <;> first | exact hφ.elim | skip
  rename_i ds
  cases e <;> first | exact hφ.elim | skip
  rename_i k
  obtain ⟨h1, h2, h3, q⟩ := hφ
  obtain rfl := hy.int
  obtain ⟨a, xs, rfl, ha, h⟩ := hx.tup
  refine ⟨a, k, xs, rfl, rfl, ha, h1, h2, by rw [h.len]; exact h3, fun p hp => P.tup _ _ _ q hp (repT_ok h _), fun same => ?_⟩
  have e := rep_same h.len same
  rw [e] at q
  exact P.val _ _ q hx.tupAc

/-! ### sorted(d): the keys of a dict, all texts -/
def rSortDk : List V → Hp → VK → Prop := fun xs H Q => ∃ (a : Addr) (kvs : List (Key × V)) (ks : List Str), xs = [.ref a] ∧ Rd H a (.dK kvs) ∧ kvs.map (·.1) = ks.map Sum.inr ∧ ks.length < 64 ∧
    ∀ ys p, ys.Perm ks → sortedS ys = true → H p = none → Q (.ref p) (upd H p (.lst (ys.map V.str)))
theorem cr_sortedDk (hc : X.calm = true) : CallR X (.builtin "sorted") rSortDk := call_sortedD hc
def pSortDk : PO' | [d], Ψ => ∃ (kds : KD) (ks : List Str), d = dkD kds ∧ kds.map (·.1) = ks.map Sum.inr ∧ ks.length < 64 ∧ ∀ ys : List Str, ys.Perm ks → sortedS ys = true → Ψ (.own (.list (ys.map .str))) | _, _ => False
theorem PSortDk [IK] : PureR X.K rSortDk pSortDk := by
  intro W H xs ds Q Ψ rv hφ P
  match ds, rv, hφ with
  | [d], rv, hφ =>
    obtain ⟨x, rfl, h1⟩ := rv.one
    obtain ⟨kds, ks, rfl, hk, h64, q⟩ := hφ
    obtain ⟨a, kvs, rfl, ha, h2⟩ := h1.dk
    exact ⟨a, kvs, ks, rfl, .of ha, h2.keys.trans hk, h64, fun ys p hp hs hn => P.lst _ _ _ (q ys hp hs) hn (AcL.ofStrs _)⟩
  | [], _, h => exact h.elim
  | _ :: _ :: _, _, h => exact absurd h (by simp [pSortDk])
/-! ### f(k = e, ..): any number of keywords, in any order; π tells for each parameter which keyword it is -/
def sel {α : Type} (π : List Nat) (xs : List α) : List α := π.filterMap (xs[·]?)
theorem PassL.get {K : PySem.W.Frag} {U : List Addr} {ik : List Key} {W : AS} {H : Hp} : ∀ {ds : List D} {xs : List V}, PassL K U ik W H ds xs → ∀ i : Nat, (ds[i]? = none ∧ xs[i]? = none) ∨ ∃ d x, ds[i]? = some d ∧ xs[i]? = some x ∧ PassOk K U ik W H d x
  | _, _, .nil, _ => .inl ⟨by simp, by simp⟩
  | _, _, .cons a _, 0 => .inr ⟨_, _, by simp, by simp, a⟩
  | _, _, .cons _ b, i + 1 => by
    rcases PassL.get b i with ⟨h1, h2⟩ | ⟨d, x, h1, h2, h3⟩
    · exact .inl ⟨by simpa using h1, by simpa using h2⟩
    · exact .inr ⟨d, x, by simpa using h1, by simpa using h2, h3⟩
theorem PassL.sel {K : PySem.W.Frag} {U : List Addr} {ik : List Key} {W : AS} {H : Hp} {ds : List D} {xs : List V} (h : PassL K U ik W H ds xs) : ∀ π : List Nat, PassL K U ik W H (Px.sel π ds) (Px.sel π xs)
  | [] => .nil
  | i :: π => by
    unfold Px.sel
    rcases h.get i with ⟨h1, h2⟩ | ⟨d, x, h1, h2, h3⟩
    · rw [List.filterMap_cons, List.filterMap_cons, h1, h2]; exact PassL.sel h π
    · rw [List.filterMap_cons, List.filterMap_cons, h1, h2]; exact .cons h3 (PassL.sel h π)
theorem Vals.get {xs : List V} {us : List Value} (h : Vals xs us) : ∀ i : Nat, (xs[i]? = none ∧ us[i]? = none) ∨ ∃ x u, xs[i]? = some x ∧ us[i]? = some u ∧ RelV x u := by
  induction h with
  | nil => exact fun i => .inl ⟨by simp, by simp⟩
  | cons a _ ih =>
    intro i
    cases i with
    | zero => exact .inr ⟨_, _, by simp, by simp, a⟩
    | succ i =>
      rcases ih i with ⟨h1, h2⟩ | ⟨x, u, h1, h2, h3⟩
      · exact .inl ⟨by simpa using h1, by simpa using h2⟩
      · exact .inr ⟨x, u, by simpa using h1, by simpa using h2, h3⟩
theorem vals_sel {xs : List V} {us : List Value} (h : Vals xs us) : ∀ π : List Nat, Vals (sel π xs) (sel π us)
  | [] => .nil
  | i :: π => by
    unfold sel
    rcases Vals.get h i with ⟨h1, h2⟩ | ⟨x, u, h1, h2, h3⟩
    · rw [List.filterMap_cons, List.filterMap_cons, h1, h2]; exact vals_sel h π
    · rw [List.filterMap_cons, List.filterMap_cons, h1, h2]; exact .cons h3 (vals_sel h π)
def BindsKw (K : PySem.W.Frag) (fd : FuncData) (ps ns : List Str) (π : List Nat) : Prop := ∀ (s : Shared) (us : List Value), us.length = ns.length → K.In s.heap → BindsTo s fd ⟨[], ns.zip us⟩ (ps.zip (sel π us))
def tCallKw (sp : Sp) (n : Nat) (π : List Nat) (t : TA) : TE := fun σ H Q => t σ H fun vs H1 => vs.length = n ∧ sp (sel π vs) H1 Q fun _ _ _ => False
def wCallKw (φ : PF) (n : Nat) (π : List Nat) (wA : PXP) : PX := fun Γ Φ => wA Γ fun Δ Γ1 => Δ.length = n ∧ φ (sel π Δ) fun r => Φ r Γ1
theorem vals_len {xs : List V} {us : List Value} (h : Vals xs us) : xs.length = us.length := by
  induction h with
  | nil => rfl
  | cons _ _ ih => simp [ih]
variable [IK]
theorem xe_callKw {kws : List Keyword} {x : Str} {ps ns : List Str} {π : List Nat} {p pos : Pos} {k : Nat} {f : Addr} {fd : FuncData} {φ : PF} {t : TA} {wA : PXP} (F : FnG X.prog X.w X.K X.mg X.base CX0 k f fd ps (spD X.K IK.ks φ)) (noG : X.A.guards = some []) (room : Room k X.A) (hg : Gl X x) (hm : X.mg x = some (.ref f)) (hk : PySem.W.keepIn X.K (.ref f) = true)
    (hb : BindsKw X.K fd ps ns π) (hA : XK X kws t wA) (hks : (backToKw pos (keywordEach kws X.env)).filterMap (·.1) = ns := by rfl) (hall : (backToKw pos (keywordEach kws X.env)).all (·.1.isSome) = true := by rfl)
    (hdb : (x == ("__debug__" : Str)) = false := by decide) (hpl : ((backTo pos (starEach [] X.env)).any (·.1) || (backToKw pos (keywordEach kws X.env)).any (·.1.isNone)) = false := by rfl) :
    XE X (.Call (.Name x p) [] kws pos) (tCallKw (spD X.K IK.ks φ) ns.length π t) (wCallKw φ ns.length π wA) := by
  obtain ⟨pt, g⟩ := hA
  refine ⟨⟨fun pins s σ H Q I h => ?_⟩, fun C hK n f Γ σ H Q Φ off R w k => ?_⟩
  · refine wpAny_Call_Name_kw (ld_glob I hg hm ?_ hdb)
    refine PySem.W.callWith_KW0 (h₀ := X.base) I.ok.mod.kin hk hall (thn (pt.run pos pins s σ H _ I h) ?_) hpl
    rintro us s2 ⟨vs, H2, I2, rz, hl, q⟩
    refine ⟨I2.kIn, ?_⟩
    rw [hks]
    have bd := hb s2 us ((vals_len rz).symm.trans hl) I2.kIn
    refine wpAny_call (codeAny_mono (F.go X.A X.stack s2 H2 _ (sel π us) (sel π vs) Q (fun _ _ _ => False) noG room I2.env0 bd (vals_sel rz π) q) ?_)
    intro res s' z
    cases res with
    | error err => exact z.elim
    | ok fl =>
      cases fl with
      | ret u => exact I2.after z
      | next => exact z.elim
      | brk => exact z.elim
      | cont => exact z.elim
  · refine g C hK n f Γ σ H _ _ off R w ?_
    rintro Δ xs Γ1 H1 ⟨hl, φ1⟩ R1 pp
    refine ⟨by rw [← pp.len]; exact hl, WE C (ent f Γ1 σ), C.U, sel π Δ, fun r => Φ r Γ1, fun b hb => ?_, fun b hb => .inl (R1.e.uM b hb), by rw [← hK.k, ← hK.i]; exact pp.sel π, φ1, fun r x H' φ2 B => k _ _ _ _ φ2 (R1.back off hK.k hK.i B)⟩
    rcases hb with hb | ⟨j, d, hb⟩
    · exact R1.e.tr _ hb
    · cases R1.e.ok _ _ _ hb with
      | own h => exact h.there
end
end Px
end

/-! PxL -/
section
set_option Elab.async false
set_option linter.all false
set_option maxRecDepth 100000
set_option maxHeartbeats 4000000
set_option autoImplicit false
/-! a, b, c, .. = x, y, z, ..: what is one's own stays so -/
namespace Px
open PySem PySem.Spec PyProof.Rows L2 Dh
def upD (f : Fr) (n : Nat) : List (D × V) → Fr
  | [] => f
  | p :: r => upD (upF f n (some p)) (n + 1) r
def DOs (C : Cc) (t : TA) (w : Env → (List D → Env → Prop) → Prop) : Prop := ∀ (n : Nat) (f : Fr) (Γ : Env) (σ : SS) (H : Hp) (Q : List V → Hp → Prop) (Φ : List D → Env → Prop), Off f n → Rel C f Γ σ H → w Γ Φ →
  (∀ (ps : List (D × V)) Γ' H', Φ (ps.map (·.1)) Γ' → (∀ p ∈ ps, ∀ j, p.1 ≠ .bor j) → Rel C (upD f n ps) Γ' σ H' → Q (ps.map (·.2)) H') → t σ H Q
abbrev PXL := Env → (List D → Env → Prop) → Prop
def XO' (X : Cx) [IK] (es : List Expr) (t : TA) (w : PXL) : Prop := PA X es t ∧ ∀ C : Cc, Cok C X → DOs C t w
def wOn : PXL := fun Γ Φ => Φ [] Γ
def wOc (w : PX) (u : PXL) : PXL := fun Γ Φ => w Γ fun r Γ1 => ∃ r' Γ2, sto Γ1 r = some (r', Γ2) ∧ u Γ2 fun rs Γ3 => Φ (r' :: rs) Γ3
/-- the slots from the last on -/
def setG : List Nat → List D → Env → Env
  | i :: is, r :: rs, Γ => (setG is rs Γ).set i (some r)
  | _, _, Γ => Γ
def setS : List Nat → List V → SS → SS
  | i :: is, x :: xs, σ => (setS is xs σ).set i (some x)
  | _, _, σ => σ
def gNames : List Nat → TGs
  | [] => gNil
  | i :: is => gCons (gName i) (gNames is)
theorem setS_out : ∀ (is : List Nat) (xs : List V) (σ : SS) (i : Nat) (o : Option V), i ∉ is → setS is xs (σ.set i o) = (setS is xs σ).set i o
  | [], _, _, _, _, _ => by simp [setS]
  | j :: is, [], _, _, _, _ => by simp [setS]
  | j :: is, x :: xs, σ, i, o, h => by
    have h1 : j ≠ i := fun z => h (by simp [z])
    have h2 : i ∉ is := fun z => h (List.mem_cons_of_mem _ z)
    show (setS is xs (σ.set i o)).set j (some x) = ((setS is xs σ).set j (some x)).set i o
    rw [setS_out is xs σ i o h2, List.set_comm _ _ h1]
theorem gNames_ok : ∀ (is : List Nat) (xs : List V) (σ : SS) (H : Hp) (Q : SS → Hp → Prop), is.Nodup → xs.length = is.length → Q (setS is xs σ) H → gNames is xs σ H Q
  | [], xs, σ, H, Q, _, hl, h => ⟨List.eq_nil_of_length_eq_zero hl, h⟩
  | i :: is, [], σ, H, Q, _, hl, h => by cases hl
  | i :: is, x :: xs, σ, H, Q, nd, hl, h => by
    obtain ⟨n1, n2⟩ := List.nodup_cons.mp nd
    refine ⟨x, xs, rfl, ?_⟩
    show gNames is xs (σ.set i (some x)) H Q
    refine gNames_ok is xs _ H Q n2 (by simpa using hl) ?_
    rw [setS_out is xs σ i _ n1]; exact h
section
variable {X : Cx} [IK]
theorem xo_nil : XO' X [] tNil wOn := ⟨pa_nil, fun C hK n f Γ σ H Q Φ off R w k => k [] _ _ w (fun _ h => by cases h) R⟩
theorem xo_cons {e : Expr} {es : List Expr} {ta : TE} {tr : TA} {w : PX} {u : PXL} (ha : XE X e ta w) (hr : XO' X es tr u) (hs : starEach (e :: es) X.env = (false, eval e X.env) :: starEach es X.env := by rfl) : XO' X (e :: es) (tCons ta tr) (wOc w u) := by
  obtain ⟨pa, ga⟩ := ha
  obtain ⟨pr, gr⟩ := hr
  refine ⟨pa_cons pa pr hs, fun C hK n f Γ σ H Q Φ off R w k => ga C hK n f Γ σ H _ _ off R w ?_⟩
  rintro r x Γ1 H1 ⟨r', Γ2, hz, φ1⟩ R1
  obtain ⟨R2, nr⟩ := R1.sto off hz
  refine gr C hK (n + 1) _ Γ2 σ H1 _ _ off.up R2 φ1 ?_
  intro ps Γ3 H3 φ3 nb3 R3
  refine k ((r', x) :: ps) Γ3 H3 φ3 ?_ R3
  intro p hp
  rcases List.mem_cons.mp hp with rfl | hp
  · exact nr
  · exact nb3 p hp
theorem upD_nb {f : Fr} (nb : NoBor f) : ∀ (ps : List (D × V)) (n : Nat), (∀ p ∈ ps, ∀ j, p.1 ≠ .bor j) → ∀ (f : Fr), NoBor f → NoBor (upD f n ps)
  | [], _, _, f, h => h
  | p :: ps, n, hp, f, h => by
    refine upD_nb nb ps (n + 1) (fun q hq => hp q (List.mem_cons_of_mem _ hq)) _ fun m i y => ?_
    unfold upF; split
    · intro z
      have : p = (D.bor i, y) := Option.some.inj z
      exact hp p List.mem_cons_self i (by rw [this])
    · exact h m i y
/-- what is held is stored -/
theorem Rel.toSlots {C : Cc} {Γ : Env} {σ : SS} {H : Hp} : ∀ (ps : List (D × V)) (is : List Nat) (f : Fr) (n : Nat), Off f n → NoBor f → (∀ p ∈ ps, ∀ j, p.1 ≠ .bor j) → ps.length = is.length → Rel C (upD f n ps) Γ σ H →
    Rel C f (setG is (ps.map (·.1)) Γ) (setS is (ps.map (·.2)) σ) H
  | [], [], f, n, _, _, _, _, R => R
  | [], _ :: _, _, _, _, _, _, hl, _ => by cases hl
  | _ :: _, [], _, _, _, _, _, hl, _ => by cases hl
  | p :: ps, i :: is, f, n, off, nb, hp, hl, R => by
    have hp' : ∀ q ∈ ps, ∀ j, q.1 ≠ .bor j := fun q hq => hp q (List.mem_cons_of_mem _ hq)
    have nb1 : NoBor (upF f n (some p)) := fun m i y => by
      unfold upF; split
      · intro z
        have : p = (D.bor i, y) := Option.some.inj z
        exact hp p List.mem_cons_self i (by rw [this])
      · exact nb m i y
    have R1 := Rel.toSlots ps is (upF f n (some p)) (n + 1) off.up nb1 hp' (by simpa using hl) R
    exact R1.toSlot' off nb (hp p List.mem_cons_self) i
def wParL (is : List Nat) (w : PXL) : PXS := fun Γ Φ => w Γ fun rs Γ1 => rs.length = is.length ∧ Φ.nx (setG is rs Γ1)
theorem upD_off {f : Fr} {n : Nat} : ∀ {ps : List (D × V)} {Γ : Env} {σ : SS} {H : Hp} {C : Cc}, Rel C (upD f n ps) Γ σ H → True := fun _ => trivial
/-- by way of a tuple -/
theorem xs_parL {tgs es : List Expr} {kt pt k2 pt2} {pos : Pos} {is : List Nat} {ta : TA} {w : PXL} {m : Nat} (hc : X.calm = true) (nd : is.Nodup) (he : XO' X es ta w) (hg : PGs X tgs (gNames is))
    (hm : is.length = m) (hz : m ≤ 30) (h3 : (assignEach tgs X.env).length = m := by rfl) (h4 : (assignEach tgs X.env).findIdx? (·.1) = none := by rfl)
    (hs : swapsWithSole [.Tuple tgs kt pt] (.Tuple es k2 pt2) pos.line X.env = pure false := by rfl) (hw : swappedStores [.Tuple tgs kt pt] (.Tuple es k2 pt2) X.env = pure none := by rfl)
    (h5 : (assignEach [.Tuple tgs kt pt] X.env).map (·.2) = [assign (.Tuple tgs kt pt) X.env] := by rfl) :
    XS X (.Assign [.Tuple tgs kt pt] (.Tuple es k2 pt2) pos) (tAsg (tTup ta) (gTup X.K m (gNames is))) (wParL is w) := by
  refine ⟨ps_asg (pe_tup he.1) (pg_tup hc hg h3 h4) hs hw h5, fun C hK n f Γ σ H D Φ off nb R w F => he.2 C hK n f Γ σ H _ _ off R w ?_⟩
  rintro ps Γ1 H1 ⟨hl, φ1⟩ nbp R1
  have hl' : ps.length = m := by rw [List.length_map] at hl; omega
  refine ⟨by rw [List.length_map, hl']; exact Nat.le_trans hz (by decide), fun p hp => ?_⟩
  have R2 := R1.alloc (o := .tup (ps.map (·.2))) hp
  have R3 := R2.toSlots ps is f n off nb nbp (by omega)
  refine ⟨p, ps.map (·.2), rfl, .inl (.inl upd_same), by rw [List.length_map]; exact hl', ?_⟩
  exact gNames_ok is _ σ _ _ nd (by rw [List.length_map]; omega) (F.nx _ _ _ φ1 R3)
/-- three plain names -/
theorem xs_par3 {i j l : Nat} {x y z : Str} {a b c : Expr} {ta : TA} {w : PXL} {px py pz pt pos : Pos} {kt k2 pt2} (hc : X.calm = true) (hN : X.N.Nodup) (hi : X.N[i]? = some x) (hj : X.N[j]? = some y) (hl : X.N[l]? = some z) (hij : i ≠ j) (hil : i ≠ l) (hjl : j ≠ l)
    (hx : X.env.scope.names.lookup x = some .local) (hy : X.env.scope.names.lookup y = some .local) (hz : X.env.scope.names.lookup z = some .local) (he : XO' X [a, b, c] ta w)
    (hw : swappedStores [.Tuple [.Name x px, .Name y py, .Name z pz] kt pt] (.Tuple [a, b, c] k2 pt2) X.env = pure (some [x, y, z]))
    (hs : swapsWithSole [.Tuple [.Name x px, .Name y py, .Name z pz] kt pt] (.Tuple [a, b, c] k2 pt2) pos.line X.env = pure false := by rfl) :
    XS X (.Assign [.Tuple [.Name x px, .Name y py, .Name z pz] kt pt] (.Tuple [a, b, c] k2 pt2) pos) (tPar3 i j l ta) (wParL [i, j, l] w) := by
  refine ⟨ps_par3 hc hN hi hj hl hij hil hjl hx hy hz he.1 hw hs, fun C hK n f Γ σ H D Φ off nb R w F => he.2 C hK n f Γ σ H _ _ off R w ?_⟩
  rintro ps Γ1 H1 ⟨hl, φ1⟩ nbp R1
  have hl' : ps.length = 3 := by rw [List.length_map] at hl; exact hl
  have R3 := R1.toSlots ps [i, j, l] f n off nb nbp hl'
  match ps, hl' with
  | [p, q, r], _ =>
    refine ⟨p.2, q.2, r.2, rfl, ?_⟩
    have e : setS [i, j, l] ([p, q, r].map (·.2)) σ = ((σ.set i (some p.2)).set j (some q.2)).set l (some r.2) := by
      show ((σ.set l (some r.2)).set j (some q.2)).set i (some p.2) = _
      rw [List.set_comm (i := l) (j := j) _ _ hjl.symm, List.set_comm (i := l) (j := i) _ _ hil.symm, List.set_comm (i := j) (j := i) _ _ hij.symm]
    rw [e] at R3
    exact F.nx _ _ _ φ1 R3
end
end Px
end

/-! PxI -/
section
set_option Elab.async false
set_option linter.all false
set_option maxRecDepth 100000
set_option maxHeartbeats 4000000
set_option autoImplicit false
/-! x in t, where the items are data of any depth -/
namespace Px
open PySem PySem.Spec PyProof.Rows L2 Dh
def rInT (K : PySem.W.Frag) (neg : Bool) : R2 := fun x y H Q => ∃ d ds, Dp K H x d ∧ Dp K H y (.tuple ds) ∧ SeqAt.shaped d = true ∧ SeqAt.shaped (.tuple ds) = true ∧ Q (.bl (if neg then !(ds.any fun z => PyData.eqv z d) else ds.any fun z => PyData.eqv z d)) H
theorem canAll_of {ds : List PyData} (h : SeqAt.shaped (.tuple ds) = true) : PyData.canLayAll0 ds = true := by
  have := SeqAt.canLay_of_shaped h
  simpa [PyData.canLay0] using this
section
variable {X : Cx}
theorem op_inT (hu : X.A.units + 65 < cLine) : OpR X (compareOp .In) (rInT X.K false) := by
  intro pins s σ H x y v u Q I rx ry h
  obtain ⟨d, ds, hd, he, sd, se, q⟩ := h
  obtain ⟨as, r1⟩ := Dp.reads I d x v hd rx
  obtain ⟨bs, r2⟩ := Dp.reads I (.tuple ds) y u he ry
  exact SeqAt.in_tuple_reads r2 r1 (canAll_of se) (SeqAt.canLay_of_shaped sd) (room_in_shaped sd hu) ⟨.bl _, H, I, rfl, q⟩
theorem op_notInT (hu : X.A.units + 65 < cLine) : OpR X (compareOp .NotIn) (rInT X.K true) := by
  intro pins s σ H x y v u Q I rx ry h
  obtain ⟨d, ds, hd, he, sd, se, q⟩ := h
  obtain ⟨as, r1⟩ := Dp.reads I d x v hd rx
  obtain ⟨bs, r2⟩ := Dp.reads I (.tuple ds) y u he ry
  exact SeqAt.notIn_tuple_reads r2 r1 (canAll_of se) (SeqAt.canLay_of_shaped sd) (room_in_shaped sd hu) ⟨.bl _, H, I, rfl, q⟩
end
def pInT (neg : Bool) : PO' | [d, .tuple ds], Ψ => SeqAt.shaped d = true ∧ SeqAt.shaped (.tuple ds) = true ∧ Ψ (.v (.bool (if neg then !(ds.any fun z => PyData.eqv z d) else ds.any fun z => PyData.eqv z d))) | _, _ => False
theorem PInT [IK] {K} {neg : Bool} : PureR2 K (rInT K neg) (pInT neg) := by
  intro W H x y d e Q Ψ hx hy hφ P
  cases e <;> first | exact hφ.elim | skip
  exact ⟨d, _, At.dp0 d (SeqAt.canLay_of_shaped hφ.1) hx.at0, At.dp0 _ (SeqAt.canLay_of_shaped hφ.2.1) hy.at0, hφ.1, hφ.2.1, P.val _ _ hφ.2.2 (.bl _)⟩
def pInL : PO' | [d, .list ds], Ψ => SeqAt.shaped d = true ∧ SeqAt.shaped (.list ds) = true ∧ Ψ (.v (.bool (ds.any fun z => PyData.eqv z d))) | _, _ => False
theorem PInL [IK] {K} : PureR2 K (rInD K) pInL := by
  intro W H x y d e Q Ψ hx hy hφ P
  cases e <;> first | exact hφ.elim | skip
  exact ⟨d, _, At.dp0 d (SeqAt.canLay_of_shaped hφ.1) hx.at0, At.dp0 _ (SeqAt.canLay_of_shaped hφ.2.1) hy.at0, hφ.1, hφ.2.1, P.val _ _ hφ.2.2 (.bl _)⟩
end Px
end

/-! PxM -/
section
set_option Elab.async false
set_option linter.all false
set_option maxRecDepth 100000
set_option maxHeartbeats 4000000
set_option autoImplicit false
/-! int(i), int(b); parts of a text; is (not) True -/
namespace Px
open PySem PySem.Spec PyProof.Rows L2 Dh
section
variable {X : Cx} [IK]
def rInt1 : List V → Hp → VK → Prop := fun xs H Q => (∃ i, xs = [.int i] ∧ Q (.int i) H) ∨ ∃ k, xs = [.bl k] ∧ Q (.int (if k then 1 else 0)) H
theorem cr_int1 : CallR X (.type "int") rInt1 := call_int1
def pInt1 : PO' | [.int i], Ψ => Ψ (.v (.int i)) | [.bool b], Ψ => Ψ (.v (.int (if b then 1 else 0))) | _, _ => False
theorem PInt1 : PureR X.K rInt1 pInt1 := by
  intro W H xs ds Q Ψ rv hφ P
  match ds, rv, hφ with
  | [d], rv, hφ =>
    obtain ⟨x, rfl, h1⟩ := rv.one
    cases d <;> first | exact hφ.elim | skip
    · obtain rfl := h1.bool
      exact .inr ⟨_, rfl, P.val _ _ hφ (.int _)⟩
    · obtain rfl := h1.int
      exact .inl ⟨_, rfl, P.val _ _ hφ (.int _)⟩
  | [], _, h => exact h.elim
  | _ :: _ :: _, _, h => exact absurd h (by simp [pInt1])
def pSlS : PS' | .str z, lo, hi, Ψ => z.length ≤ sizeLine ∧ Ψ (.v (.str (cutS z lo hi))) | _, _, _, _ => False
theorem PSlS {K} : PureS K rSlS pSlS := by
  intro W H x d lo hi Q Ψ rv hφ P
  cases d <;> first | exact hφ.elim | skip
  exact ⟨_, rv.str, hφ.1, P.val _ _ hφ.2 (.str _)⟩
def pIsB : PO' | [.bool a, .bool b], Ψ => Ψ (.v (.bool (decide (a = b)))) | _, _ => False
def pNotB : PO' | [.bool a, .bool b], Ψ => Ψ (.v (.bool (!decide (a = b)))) | _, _ => False
theorem PIsB {K} : PureR2 K rIsB pIsB := by
  intro W H x y d e Q Ψ hx hy hφ P
  cases d <;> first | exact hφ.elim | skip
  cases e <;> first | exact hφ.elim | skip
  exact ⟨_, _, hx.bool, hy.bool, P.val _ _ hφ (.bl _)⟩
theorem PNotB {K} : PureR2 K rNotB pNotB := by
  intro W H x y d e Q Ψ hx hy hφ P
  cases d <;> first | exact hφ.elim | skip
  cases e <;> first | exact hφ.elim | skip
  exact ⟨_, _, hx.bool, hy.bool, P.val _ _ hφ (.bl _)⟩
end
end Px
end

/-! PxF -/
section
set_option Elab.async false
set_option linter.all false
set_option maxRecDepth 100000
set_option maxHeartbeats 4000000
set_option autoImplicit false
/-! comprehensions with a test; data that can be compared -/
namespace Px
open PySem PySem.Spec PyProof.Rows L2 Dh
/-- [F d for d in ds if p d] -/
theorem comp_fm {vs : List Nat} {g : PG'} {tt : PXT} {te : PX} {G : Env → Prop} {Φ : List PyData → Env → Prop} {Γ : Env} {ds : List PyData} (p : PyData → Bool) (F : PyData → PyData) (hw : wipeG Γ vs = Γ) (hG : G Γ) (hl : ds.length ≤ sizeLine)
    (step : ∀ d ∈ ds, ∀ (N1 : PyData → Env → Prop) (N0 : Env → Prop), (p d = true → ∀ Γ4, wipeG Γ4 vs = Γ → N1 (F d) Γ4) → (p d = false → ∀ Γ4, wipeG Γ4 vs = Γ → N0 Γ4) →
      g d Γ fun Γ1 => tt Γ1 fun b Γ2 => (b = true → te Γ2 fun r Γ3 => ∃ y Γ4, frz Γ3 r = some (y, Γ4) ∧ N1 y Γ4) ∧ (b = false → N0 Γ2))
    (fin : Φ ((ds.filter p).map F) Γ) : compW vs g tt te G ds [] Γ Φ := by
  refine comp_inv (fun r acc Γ' => Γ' = Γ ∧ ∃ done, ds = done ++ r ∧ acc = (done.filter p).map F) ?_ ?_ ds [] Γ ⟨rfl, [], rfl, rfl⟩
  · rintro d r acc Γ' N ⟨rfl, done, e, rfl⟩ hN
    refine ⟨hG, ?_, ?_⟩
    · have h1 : ((done.filter p).map F).length ≤ done.length := by rw [List.length_map]; exact List.length_filter_le _ _
      have h2 : ds.length = done.length + r.length + 1 := by rw [e]; simp; omega
      omega
    · rw [hw]
      refine step d (by rw [e]; simp) (fun y Γ4 => N ((done.filter p).map F ++ [y]) (wipeG Γ4 vs)) (fun Γ4 => N ((done.filter p).map F) (wipeG Γ4 vs)) (fun hp Γ4 h4 => ?_) (fun hp Γ4 h4 => ?_)
      · refine hN _ _ ⟨h4, done ++ [d], by rw [e]; simp, ?_⟩
        rw [List.filter_append, List.filter_cons_of_pos hp]; simp
      · refine hN _ _ ⟨h4, done ++ [d], by rw [e]; simp, ?_⟩
        rw [List.filter_append, List.filter_cons_of_neg (by simp [hp])]; simp
  · rintro acc Γ' ⟨rfl, done, e, rfl⟩
    rw [List.append_nil] at e
    subst e
    exact ⟨hG, fin⟩
/-- the same where the comprehension's own slots may hold something before -/
theorem comp_fmW {vs : List Nat} {g : PG'} {tt : PXT} {te : PX} {G : Env → Prop} {Φ : List PyData → Env → Prop} {Γ : Env} {ds : List PyData} (p : PyData → Bool) (F : PyData → PyData) (hw : wipeG (wipeG Γ vs) vs = wipeG Γ vs) (hG : G Γ) (hG2 : G (wipeG Γ vs)) (hl : ds.length ≤ sizeLine)
    (step : ∀ d ∈ ds, ∀ (N1 : PyData → Env → Prop) (N0 : Env → Prop), (p d = true → ∀ Γ4, wipeG Γ4 vs = wipeG Γ vs → N1 (F d) Γ4) → (p d = false → ∀ Γ4, wipeG Γ4 vs = wipeG Γ vs → N0 Γ4) →
      g d (wipeG Γ vs) fun Γ1 => tt Γ1 fun b Γ2 => (b = true → te Γ2 fun r Γ3 => ∃ y Γ4, frz Γ3 r = some (y, Γ4) ∧ N1 y Γ4) ∧ (b = false → N0 Γ2))
    (fin : ∀ Γ', (Γ' = Γ ∨ Γ' = wipeG Γ vs) → Φ ((ds.filter p).map F) Γ') : compW vs g tt te G ds [] Γ Φ := by
  refine comp_inv (fun r acc Γ' => (Γ' = Γ ∨ Γ' = wipeG Γ vs) ∧ ∃ done, ds = done ++ r ∧ acc = (done.filter p).map F) ?_ ?_ ds [] Γ ⟨.inl rfl, [], rfl, rfl⟩
  · rintro d r acc Γ' N ⟨hΓ, done, e, rfl⟩ hN
    have hw' : wipeG Γ' vs = wipeG Γ vs := by
      rcases hΓ with rfl | rfl
      · rfl
      · exact hw
    refine ⟨by rcases hΓ with rfl | rfl <;> assumption, ?_, ?_⟩
    · have h1 : ((done.filter p).map F).length ≤ done.length := by rw [List.length_map]; exact List.length_filter_le _ _
      have h2 : ds.length = done.length + r.length + 1 := by rw [e]; simp; omega
      omega
    · rw [hw']
      refine step d (by rw [e]; simp) (fun y Γ4 => N ((done.filter p).map F ++ [y]) (wipeG Γ4 vs)) (fun Γ4 => N ((done.filter p).map F) (wipeG Γ4 vs)) (fun hp Γ4 h4 => ?_) (fun hp Γ4 h4 => ?_)
      · refine hN _ _ ⟨.inr h4, done ++ [d], by rw [e]; simp, ?_⟩
        rw [List.filter_append, List.filter_cons_of_pos hp]; simp
      · refine hN _ _ ⟨.inr h4, done ++ [d], by rw [e]; simp, ?_⟩
        rw [List.filter_append, List.filter_cons_of_neg (by simp [hp])]; simp
  · rintro acc Γ' ⟨hΓ, done, e, rfl⟩
    rw [List.append_nil] at e
    subst e
    exact ⟨by rcases hΓ with rfl | rfl <;> assumption, fin _ hΓ⟩
/-- the same, with whatever stays of the slots: E -/
theorem comp_fmE {vs : List Nat} {g : PG'} {tt : PXT} {te : PX} {G : Env → Prop} {Φ : List PyData → Env → Prop} {Γ : Env} {ds : List PyData} (E : Env → Prop) (p : PyData → Bool) (F : PyData → PyData) (h0 : E Γ) (hG : ∀ Γ', E Γ' → G Γ') (hl : ds.length ≤ sizeLine)
    (step : ∀ d ∈ ds, ∀ Γ', E Γ' → ∀ (N1 : PyData → Env → Prop) (N0 : Env → Prop), (p d = true → ∀ Γ4, E (wipeG Γ4 vs) → N1 (F d) Γ4) → (p d = false → ∀ Γ4, E (wipeG Γ4 vs) → N0 Γ4) →
      g d (wipeG Γ' vs) fun Γ1 => tt Γ1 fun b Γ2 => (b = true → te Γ2 fun r Γ3 => ∃ y Γ4, frz Γ3 r = some (y, Γ4) ∧ N1 y Γ4) ∧ (b = false → N0 Γ2))
    (fin : ∀ Γ', E Γ' → Φ ((ds.filter p).map F) Γ') : compW vs g tt te G ds [] Γ Φ := by
  refine comp_inv (fun r acc Γ' => E Γ' ∧ ∃ done, ds = done ++ r ∧ acc = (done.filter p).map F) ?_ ?_ ds [] Γ ⟨h0, [], rfl, rfl⟩
  · rintro d r acc Γ' N ⟨hΓ, done, e, rfl⟩ hN
    refine ⟨hG _ hΓ, ?_, ?_⟩
    · have h1 : ((done.filter p).map F).length ≤ done.length := by rw [List.length_map]; exact List.length_filter_le _ _
      have h2 : ds.length = done.length + r.length + 1 := by rw [e]; simp; omega
      omega
    · refine step d (by rw [e]; simp) Γ' hΓ (fun y Γ4 => N ((done.filter p).map F ++ [y]) (wipeG Γ4 vs)) (fun Γ4 => N ((done.filter p).map F) (wipeG Γ4 vs)) (fun hp Γ4 h4 => ?_) (fun hp Γ4 h4 => ?_)
      · refine hN _ _ ⟨h4, done ++ [d], by rw [e]; simp, ?_⟩
        rw [List.filter_append, List.filter_cons_of_pos hp]; simp
      · refine hN _ _ ⟨h4, done ++ [d], by rw [e]; simp, ?_⟩
        rw [List.filter_append, List.filter_cons_of_neg (by simp [hp])]; simp
  · rintro acc Γ' ⟨hΓ, done, e, rfl⟩
    rw [List.append_nil] at e
    subst e
    exact ⟨hG _ hΓ, fin _ hΓ⟩
/-- sorted({F d for d in ds if p d}) -/
theorem compI_fm {vs : List Nat} {g : PG'} {tt : PXT} {te : PX} {G : Env → Prop} {Φ : List Int → Env → Prop} {Γ : Env} {ds : List PyData} (p : PyData → Bool) (F : PyData → Int) (hw : wipeG Γ vs = Γ) (hG : G Γ) (hl : ds.length ≤ 60)
    (step : ∀ d ∈ ds, ∀ (N1 : D → Env → Prop) (N0 : Env → Prop), (p d = true → ∀ Γ4, wipeG Γ4 vs = Γ → N1 (.v (.int (F d))) Γ4) → (p d = false → ∀ Γ4, wipeG Γ4 vs = Γ → N0 Γ4) →
      g d Γ fun Γ1 => tt Γ1 fun b Γ2 => (b = true → te Γ2 N1) ∧ (b = false → N0 Γ2))
    (mono : ∀ (N N' : D → Env → Prop) (Γ2 : Env), (∀ r Γ3, N r Γ3 → N' r Γ3) → te Γ2 N → te Γ2 N')
    (fin : Φ ((ds.filter p).map F) Γ) : compI vs g tt te G ds [] Γ Φ := by
  have main : ∀ (r done : List PyData), ds = done ++ r → compI vs g tt te G r ((done.filter p).map F) Γ Φ := by
    intro r
    induction r with
    | nil =>
      intro done e
      rw [List.append_nil] at e
      subst e
      exact ⟨hG, fin⟩
    | cons d r ih =>
      intro done e
      refine ⟨hG, ?_, ?_⟩
      · have h1 : ((done.filter p).map F).length ≤ done.length := by rw [List.length_map]; exact List.length_filter_le _ _
        have h2 : ds.length = done.length + r.length + 1 := by rw [e]; simp; omega
        omega
      · rw [hw]
        refine step d (by rw [e]; simp) (fun r Γ3 => ∃ k : Int, r = .v (.int k) ∧ compI vs g tt te G _ ((done.filter p).map F ++ [k]) (wipeG Γ3 vs) Φ) (fun Γ4 => compI vs g tt te G r ((done.filter p).map F) (wipeG Γ4 vs) Φ) (fun hp Γ4 h4 => ⟨_, rfl, ?_⟩) (fun hp Γ4 h4 => ?_)
        · have := ih (done ++ [d]) (by rw [e]; simp)
          rw [List.filter_append, List.filter_cons_of_pos hp] at this
          rw [h4]
          simpa using this
        · have := ih (done ++ [d]) (by rw [e]; simp)
          rw [List.filter_append, List.filter_cons_of_neg (by simp [hp])] at this
          rw [h4]
          simpa using this
  simpa using main ds [] rfl
/-! ### data that can be compared -/
theorem canAll {ds : List PyData} (h : ∀ d ∈ ds, d.canLay0 = true) : PyData.canLayAll0 ds = true := by
  induction ds with
  | nil => simp [PyData.canLayAll0]
  | cons d r ih => simp [PyData.canLayAll0, h d List.mem_cons_self, ih fun x hx => h x (List.mem_cons_of_mem _ hx)]
theorem depAll {ds : List PyData} {n : Nat} (h : ∀ d ∈ ds, d.depth ≤ n) : PyData.depthAll ds ≤ n := by
  induction ds with
  | nil => simp [PyData.depthAll]
  | cons d r ih =>
    have h1 := h d List.mem_cons_self
    have h2 := ih fun x hx => h x (List.mem_cons_of_mem _ hx)
    simp only [PyData.depthAll]; omega
/-- laid out, and not deeper than n -/
def Flat (n : Nat) (d : PyData) : Prop := d.canLay0 = true ∧ d.depth ≤ n
theorem Flat.int (i : Int) {n : Nat} : Flat n (.int i) := ⟨by simp [PyData.canLay0], by simp [PyData.depth]⟩
theorem Flat.str {i : Str} {n : Nat} (h : PyData.strOk i = true) : Flat n (.str i) := ⟨by simpa [PyData.canLay0] using h, by simp [PyData.depth]⟩
theorem Flat.bool (i : Bool) {n : Nat} : Flat n (.bool i) := ⟨by simp [PyData.canLay0], by simp [PyData.depth]⟩
theorem Flat.non {n : Nat} : Flat n .none := ⟨by simp [PyData.canLay0], by simp [PyData.depth]⟩
theorem Flat.tup {ds : List PyData} {n : Nat} (h : ∀ d ∈ ds, Flat n d) : Flat (n + 1) (.tuple ds) :=
  ⟨by simpa [PyData.canLay0] using canAll fun d hd => (h d hd).1, by have := depAll fun d hd => (h d hd).2; simp only [PyData.depth]; omega⟩
theorem Flat.lst {ds : List PyData} {n : Nat} (h : ∀ d ∈ ds, Flat n d) : Flat (n + 1) (.list ds) :=
  ⟨by simpa [PyData.canLay0] using canAll fun d hd => (h d hd).1, by have := depAll fun d hd => (h d hd).2; simp only [PyData.depth]; omega⟩
theorem Flat.le {d : PyData} {m n : Nat} (h : Flat m d) (l : m ≤ n) : Flat n d := ⟨h.1, Nat.le_trans h.2 l⟩
theorem Flat.ok {d : PyData} {n : Nat} (h : Flat n d) (l : n ≤ 64) : SeqAt.shaped d = true := by
  unfold SeqAt.shaped
  rw [h.1, decide_eq_true (Nat.le_trans h.2 l)]; rfl
theorem eqv_nilL (ds : List PyData) : PyData.eqv (.list ds) (.list []) = ds.isEmpty := by
  cases ds <;> simp [PyData.eqv, PyData.eqvAll]
theorem eqv_nilT (ds : List PyData) : PyData.eqv (.tuple ds) (.tuple []) = ds.isEmpty := by
  cases ds <;> simp [PyData.eqv, PyData.eqvAll]
end Px
end

/-! PxE -/
section
set_option Elab.async false
set_option linter.all false
set_option maxRecDepth 100000
set_option maxHeartbeats 4000000
set_option autoImplicit false
/-! enumerate of a text -/
namespace Px
open PySem PySem.Spec PyProof.Rows L2 Dh
def IteS (z : Str) : It :=
  ⟨fun i _ => i < z.cps.size, fun i H v H' => ∃ T c, v = .ref T ∧ H T = none ∧ z.cps[i]? = some c ∧ H' = upd H T (.tup [.int (i : Nat), .str ⟨#[c]⟩]), fun i _ => z.cps.size ≤ i⟩
theorem enumS_end {prog : Program} {w : World} {A : Around} {E : Value → Shared → Prop} {s : Shared} {e it : Addr} {x : Str} {t : Tok} {k : Int} {old : Value} {Q : Option Value → Shared → Prop} (hh : A.handled = none)
    (he : IsEnum s.heap e it k old) (hit : s.heap.IsStrIter it (strIterType x) x t x.cps.size) (hQ : ∀ h', Heap.ExtBut it s.heap h' → Q none { s with heap := h' }) : wpAny (model prog w) A (pyNext (.ref e)) Q E s := by
  have hT : s.TypeIs (.ref e) "enumerate" := ⟨_, he, rfl⟩
  have D := Draws.text (prog := prog) (w := w) (A := A.in1) hh it x t
  unfold pyNext
  refine wpAny_bind (wpAny_attempt (wpAny_callSpecial?_slot (name := Str.ofString "__next__") hT F.slot_enumerate_next
    (wpAny_call_entry F.slot_enumerate_next hT F.entry_enumerate_next ?_ (F.args_enumerate_next_1 _))))
  show wpAny _ _ (field (.ref e) 2 >>= _) _ _ _
  refine wpAny_bind (wpAny_field he rfl (x := .ref it) rfl ?_)
  refine wpAny_bind (D.done s _ _ hit fun h' y he' hx' => ?_)
  obtain ⟨o, ho, hc⟩ := hx'
  refine wpAny_bind (wpAny_isInstance (T := "StopIteration") (b := true) ⟨o, ho, hc⟩ isSubtype_stop ?_)
  exact wpAny_pure (hQ _ he')
theorem turn_enumS {P : Program} {w : World} {K : PySem.W.Frag} {elts : List Expr} {kk : Nat} {tpos : Pos} (z : Str) (t : Tok) (e it : Addr) :
    Turn P w K (.Tuple elts kk tpos) (IteS z) [e, it] e (fun i h => (∃ old, IsEnum h e it ((i : Nat) : Int) old) ∧ h.IsStrIter it (strIterType z) z t i ∧ i ≤ z.cps.size ∧ e ≠ it) where
  mem := by simp
  obj := fun i h st b hb => by
    obtain ⟨⟨old, he⟩, ⟨o, ho, hc, hd⟩, _⟩ := st
    have e' : b = e ∨ b = it := by simpa using hb
    rcases e' with q | q
    · rw [q]; exact ⟨_, he, fun v q => nomatch q⟩
    · rw [q]; exact ⟨o, ho, fun v q => by rw [hd] at q; cases q⟩
  keep := fun i h h' st k => by
    obtain ⟨⟨old, he⟩, ⟨o, ho, r⟩, hne⟩ := st
    exact ⟨⟨old, k e (by simp) _ he⟩, ⟨o, k it (by simp) o ho, r⟩, hne⟩
  item := by
    intro X hP hw hK hc i pins s σ H E I hf st hg
    subst hP hw hK
    obtain ⟨⟨old, he⟩, hit, hi, hne⟩ := st
    have hel : e < s.heap.objs.size := Heap.lt_size he
    have hil : it < s.heap.objs.size := by obtain ⟨_, q, _⟩ := hit; exact Heap.lt_size q
    have D := Draws.text (prog := X.prog) (w := X.w) (A := X.A.in1) (show X.A.in1.handled = none from I.ok.hd hc) it z t
    refine wpAny_pyNext_enum_itemC D he hit hg hne (by simp [hne]) fun v h' tk hP ho hs' hT hsz hk => ?_
    obtain ⟨c, u, hcx, rfl⟩ := hP
    refine ⟨_, rfl, wpAny_letOwnedTupleGo_enum (s := { s with heap := h', toks := tk + 1 }) ho fun h'' he' sb => ?_⟩
    have hT2 : h''.get? s.heap.objs.size = some { cls := .type "tuple", data := .seq #[.int i tk, .str ⟨#[c]⟩ u] } := (sb.2 _ (Nat.ne_of_gt hel)).trans hT
    have new : ObjOk X.prog X.w (upd H s.heap.objs.size (.tup [.int (i : Nat), .str ⟨#[c]⟩])) h'' s.heap.objs.size (.tup [.int (i : Nat), .str ⟨#[c]⟩]) :=
      ⟨by show 2 ≤ sizeLine; decide, [.int i tk, .str ⟨#[c]⟩ u], .cons ⟨_, rfl⟩ (.cons ⟨_, rfl⟩ .nil), ⟨_, hT2, rfl, _, rfl⟩⟩
    have I1 : Inv X pins σ (upd H s.heap.objs.size (.tup [.int (i : Nat), .str ⟨#[c]⟩])) { s with heap := h'', toks := tk + 1 } :=
      I.turnedNew (ch := [e, it]) (fun b ob hb q => (sb.2 b (fun z => hb (by simp [z]))).trans (hk b ob (fun z => hb (by simp [z])) (fun z => hb (by simp [z])) q)) hf (Nat.le_refl _) new
    refine ⟨.ref s.heap.objs.size, _, I1, rfl, ⟨_, c, rfl, I.hok.fresh (Nat.le_refl _), hcx, rfl⟩, ⟨⟨.str ⟨#[c]⟩ u, ?_⟩, ?_, hg, hne⟩, fun b hb => ?_⟩
    · have e1 : ((i + 1 : Nat) : Int) = (i : Int) + 1 := by omega
      rw [e1]; exact he'
    · obtain ⟨o, ho2, r⟩ := hs'
      exact ⟨o, (sb.2 it (Ne.symm hne)).trans ho2, r⟩
    · have hb' : b < s.heap.objs.size := by
        have e' : b = e ∨ b = it := by simpa using hb
        rcases e' with q | q
        · rw [q]; exact hel
        · rw [q]; exact hil
      rw [upd_ne (Nat.ne_of_lt hb')]
      exact (hf b hb).1
  done := by
    intro X hP hw hK hc i pins s σ H E I hf st hg
    subst hP hw hK
    obtain ⟨⟨old, he⟩, hit, hi, hne⟩ := st
    obtain rfl : i = z.cps.size := Nat.le_antisymm hi hg
    obtain ⟨f0, f1, f2, f3, f4, f5⟩ := hf it (by simp)
    exact enumS_end (I.ok.hd hc) he hit fun h' eb => ⟨rfl, I.turned (t' := s.toks) (fun b o hb q => eb b o hb q) f0 f1 f3 f4 f5⟩
  self := fun A i s Q E st h => by
    obtain ⟨⟨_, he⟩, _⟩ := st
    exact wpAny_pyIter_enum he h
theorem call_enumS {prog : Program} {w : World} {A : Around} {E : Value → Shared → Prop} {s : Shared} {z : Str} {t : Tok} {Q : Value → Shared → Prop}
    (h : ∀ h', IsEnum h' (s.heap.objs.size + 1) s.heap.objs.size 0 .none → h'.IsStrIter s.heap.objs.size (strIterType z) z t 0 → h'.objs.size = s.heap.objs.size + 2 →
      (∀ b o, s.heap.get? b = some o → h'.get? b = some o) → Q (.ref (s.heap.objs.size + 1)) { s with heap := h' }) :
    wpAny (model prog w) A (call (.type "enumerate") [.str z t]) Q E s := by
  refine callType_new F.called_enumerate (by decide) (F.typeCall_enumerate_1 _) (F.newCall_enumerate_1 _) (fun obj => F.args_object_init_2 obj _) F.entry_enumerate_new
    (newE (begins_text z t)) ⟨trivial, ?_⟩
  have hz : (s.heap.push { cls := .type (strIterType z), data := .fields #[.str z t, .int 0 0] }).objs.size = s.heap.objs.size + 1 := Heap.size_push ..
  show _ ∧ _
  rw [hz]
  have he : IsEnum ((s.heap.push { cls := .type (strIterType z), data := .fields #[.str z t, .int 0 0] }).push
      { cls := .type "enumerate", data := .fields #[.none, .bool false, .ref s.heap.objs.size, rawInt 0, .none, .none] }) (s.heap.objs.size + 1) s.heap.objs.size 0 .none := by
    have := Heap.get?_push_size (s.heap.push { cls := .type (strIterType z), data := .fields #[.str z t, .int 0 0] })
      (o := { cls := .type "enumerate", data := .fields #[.none, .bool false, .ref s.heap.objs.size, rawInt 0, .none, .none] }) rfl
    rw [hz] at this; exact this
  refine ⟨⟨_, he, rfl⟩, h _ he ⟨_, Heap.get?_push_of_some _ (Heap.get?_push_size _ rfl), rfl, rfl⟩ (by rw [Heap.size_push, hz]) fun b o x => Heap.get?_push_of_some _ (Heap.get?_push_of_some _ x)⟩
def iEnumS (ta : TA) : TI := fun σ H R => ta σ H fun vs H1 => ∃ z, vs = [.str z] ∧ R (IteS z) H1
theorem pi_enumS {X : Cx} {e : Expr} {ta : TA} {p pos tpos : Pos} {elts : List Expr} {kk : Nat} (hg : Gl X "enumerate") (hm : X.mg "enumerate" = none) (ha : PA X [e] ta) (hs : starEach [e] X.env = [(false, eval e X.env)] := by rfl) :
    PI X (.Tuple elts kk tpos) (.Call (.Name "enumerate" p) [e] [] pos) (iEnumS ta) := by
  refine ⟨fun pins s σ H R I h => ?_⟩
  refine Call_ (ld_blt I hg hm boot_enumerate (PyProof.Rows.callWith_type1 (thn (ha.run pos pins s σ H _ I h) ?_) hs rfl))
  rintro us s1 ⟨vs, H1, I1, r1, z, rfl, q⟩
  cases r1 with
  | cons r rr =>
    cases rr
    obtain ⟨t, rfl⟩ := r
    refine call_enumS fun h' he hit hsz hk => wpAny_pyIter_enum he ?_
    have I2 : Inv X pins σ H1 { s1 with heap := h' } := I1.kept (t' := s1.toks) hk
    refine ⟨s1.heap.objs.size + 1, [s1.heap.objs.size + 1, s1.heap.objs.size], _, _, H1, rfl, I2, turn_enumS z t (s1.heap.objs.size + 1) s1.heap.objs.size, ⟨⟨.none, he⟩, hit, Nat.zero_le _, Nat.succ_ne_self _⟩, fun b hb => ?_, q⟩
    have e' : b = s1.heap.objs.size + 1 ∨ b = s1.heap.objs.size := by simpa using hb
    have hle : s1.heap.objs.size ≤ b := by
      rcases e' with q | q
      · rw [q]; exact Nat.le_add_right _ _
      · rw [q]; exact Nat.le_refl _
    exact I1.fpOk hle (I1.hok.fresh hle)
section
variable {C : Cc} {Hd : Fr → Prop} {G : Env → Prop} [IK]
theorem strD_get (z : Str) (i : Nat) : (strD z)[i]? = (z.cps[i]?).map fun c => .str ⟨#[c]⟩ := by
  unfold strD
  rw [List.getElem?_map, Array.getElem?_toList]
theorem strD_len (z : Str) : (strD z).length = z.cps.size := by
  unfold strD
  rw [List.length_map, Array.length_toList]
theorem itok_enumS {z : Str} : ItOk C Hd G (IteS z) (enumFrom 0 (strD z)) where
  go g Γ σ H i hg hG R lt := by
    rw [enum_len, strD_len] at lt
    exact lt
  stop g Γ σ H i hg hG R ge := by
    rw [enum_len, strD_len] at ge
    exact ge
  yld g Γ σ H i d x H' hg hG R hd y := by
    rw [enum_get, strD_get] at hd
    obtain ⟨T, c, rfl, hT, hc, rfl⟩ := y
    rw [hc] at hd; cases hd
    refine ⟨.inr ⟨_, _, hT, rfl⟩, .tup upd_same (R.e.fresh hT).1 (.cons ?_ (.cons (.str _) .nil))⟩
    rw [Nat.zero_add]
    exact .int _
end
section
variable {X : Cx} [IK]
theorem xi_enumS {e : Expr} {t : TE} {w : PX} {p pos tpos : Pos} {elts : List Expr} {kk : Nat} (hg : Gl X "enumerate") (hm : X.mg "enumerate" = none) (h : XE X e t w) (hs : starEach [e] X.env = [(false, eval e X.env)] := by rfl) :
    XI X (.Tuple elts kk tpos) (.Call (.Name "enumerate" p) [e] [] pos) (iEnumS (tCons t tNil)) (fun Γ Φ => w Γ fun r Γ1 => ∃ z, res Γ1 r = some (.str z) ∧ Φ (enumFrom 0 (strD z)) Γ1) := by
  obtain ⟨pp, g⟩ := h
  refine ⟨pi_enumS hg hm (pa_cons pp pa_nil (hs.trans rfl)) hs, fun C hK n f Γ σ H R Φ off Re w k => g C hK n f Γ σ H _ _ off Re w ?_⟩
  rintro r x Γ1 H1 ⟨z, hz, φ⟩ R1
  have e := (R1.rv (k := .inl n) ent_held hz).str
  subst e
  refine ⟨z, rfl, ?_⟩
  exact k _ _ _ _ n f (fun _ => True) φ (Nat.le_refl _) off (fun _ _ => rfl) (fun m i y hm z => by rw [off m hm] at z; cases z) (R1.drop off) trivial (fun _ _ _ _ => trivial) itok_enumS
theorem xc_enumS {e : Expr} {t : TE} {w : PX} {p pos tpos : Pos} {elts : List Expr} {kk : Nat} (hg : Gl X "enumerate") (hm : X.mg "enumerate" = none) (h : XE X e t w) (hs : starEach [e] X.env = [(false, eval e X.env)] := by rfl) :
    XIc X (.Tuple elts kk tpos) (.Call (.Name "enumerate" p) [e] [] pos) (iEnumS (tCons t tNil)) (fun Γ Φ => w Γ fun r Γ1 => ∃ z, res Γ1 r = some (.str z) ∧ Φ (enumFrom 0 (strD z)) (fun _ => True) Γ1) :=
  xc_of (xi_enumS hg hm h hs)
end
end Px
end

/-! PxW -/
section
set_option Elab.async false
set_option linter.all false
set_option maxRecDepth 100000
set_option maxHeartbeats 4000000
/-! how long the text of data is: at most b signs, at most k deep -/
namespace Px
open PySem PySem.Spec PyProof.Rows L2 Dh
structure Ls (b k : Nat) (e : PyData) : Prop where
  s : e.showable = true
  l : e.shown.length ≤ b
  d : e.depth ≤ k
structure LsA (b k : Nat) (ds : List PyData) : Prop where
  s : PyData.showableAll ds = true
  l : ((PyData.shownAll ds).map (·.length)).sum ≤ b
  d : PyData.depthAll ds ≤ k
theorem Ls.more {b b' k k' : Nat} {d : PyData} (h : Ls b k d) (e : b ≤ b') (e2 : k ≤ k') : Ls b' k' d := ⟨h.s, Nat.le_trans h.l e, Nat.le_trans h.d e2⟩
theorem LsA.nil {k : Nat} : LsA 0 k [] := ⟨rfl, Nat.le_refl _, Nat.zero_le _⟩
theorem LsA.cons {a b k : Nat} {d : PyData} {ds : List PyData} (h : Ls a k d) (r : LsA b k ds) : LsA (a + b) k (d :: ds) := by
  refine ⟨?_, ?_, ?_⟩
  · simp only [PyData.showableAll, h.s, r.s, Bool.and_self]
  · simp only [PyData.shownAll, List.map_cons, List.sum_cons]
    have := h.l; have := r.l; omega
  · simp only [PyData.depthAll]
    have := h.d; have := r.d; omega
theorem LsA.all {b k : Nat} : ∀ {ds : List PyData}, (∀ d ∈ ds, Ls b k d) → LsA (ds.length * b) k ds
  | [], _ => by simpa using LsA.nil
  | d :: ds, h => by
    have := LsA.cons (h d List.mem_cons_self) (LsA.all fun e he => h e (List.mem_cons_of_mem _ he))
    rw [show (d :: ds).length * b = b + ds.length * b by rw [List.length_cons, Nat.add_mul, Nat.one_mul, Nat.add_comm]]
    exact this
theorem shownAll_len : ∀ ds : List PyData, (PyData.shownAll ds).length = ds.length
  | [] => rfl
  | _ :: r => by simp only [PyData.shownAll, List.length_cons, shownAll_len r]
theorem LsA.tup {b k : Nat} {ds : List PyData} (h : LsA b k ds) : Ls (b + 2 * ds.length + 3) (k + 1) (.tuple ds) := by
  have e : (PyData.tuple ds).shown = tupleText (PyData.shownAll ds) := by simp only [PyData.shown]
  refine ⟨by simp only [PyData.showable]; exact h.s, ?_, by simp only [PyData.depth]; have := h.d; omega⟩
  rw [e]
  have := tupleText_len_le (PyData.shownAll ds)
  rw [shownAll_len] at this
  have := h.l
  omega
theorem LsA.lst {b k : Nat} {ds : List PyData} (h : LsA b k ds) : Ls (b + 2 * ds.length + 3) (k + 1) (.list ds) := by
  have e : (PyData.list ds).shown = listText (PyData.shownAll ds) := by simp only [PyData.shown]
  refine ⟨by simp only [PyData.showable]; exact h.s, ?_, by simp only [PyData.depth]; have := h.d; omega⟩
  rw [e]
  have := listText_len_le (PyData.shownAll ds)
  rw [shownAll_len] at this
  have := h.l
  omega
theorem Ls.int {i : Int} (h : i.natAbs < 10 ^ 13) : Ls 14 0 (.int i) := by
  have e : (PyData.int i).shown = Str.ofString (toString i) := by simp only [PyData.shown]
  have lg : i.natAbs.log2 < 1920 := by
    by_cases z : i.natAbs = 0
    · rw [z]; decide
    · exact Nat.lt_of_lt_of_le ((Nat.log2_lt z).mpr (show i.natAbs < 2 ^ 44 from Nat.lt_trans h (by decide))) (by decide)
  refine ⟨by simp only [PyData.showable]; exact decide_eq_true lg, ?_, by simp only [PyData.depth]; omega⟩
  rw [e]
  have := int_text_length_le10 (a := i) (k := 13) (by decide) h
  rw [show (Str.ofString (toString i)).length = (toString i).length from PySem.ofString_length _]
  exact this
theorem Ls.ok {b k : Nat} {d : PyData} (h : Ls b k d) (hb : b ≤ 1000000) (hk : k ≤ 60) : d.showable = true ∧ d.depth ≤ 60 ∧ d.shown.length ≤ sizeLine := ⟨h.s, Nat.le_trans h.d hk, Nat.le_trans h.l (Nat.le_trans hb (by decide))⟩
/-- a row of like things -/
theorem Ls.rowT {b k n m : Nat} {ds : List PyData} (h : ∀ d ∈ ds, Ls b k d) (hn : ds.length ≤ n) (hm : n * (b + 2) + 3 ≤ m) : Ls m (k + 1) (.tuple ds) := by
  have a := (LsA.all h).tup
  refine a.more ?_ (Nat.le_refl _)
  have : ds.length * b ≤ n * b := Nat.mul_le_mul_right b hn
  rw [Nat.mul_add] at hm
  omega
theorem Ls.rowL {b k n m : Nat} {ds : List PyData} (h : ∀ d ∈ ds, Ls b k d) (hn : ds.length ≤ n) (hm : n * (b + 2) + 3 ≤ m) : Ls m (k + 1) (.list ds) := by
  have a := (LsA.all h).lst
  refine a.more ?_ (Nat.le_refl _)
  have : ds.length * b ≤ n * b := Nat.mul_le_mul_right b hn
  rw [Nat.mul_add] at hm
  omega
end Px
end

/-! PxX -/
section
set_option Elab.async false
set_option linter.all false
set_option maxRecDepth 100000
set_option maxHeartbeats 4000000
namespace PySem
namespace AutoSeq1
open Sem
set_option maxRecDepth 8000 in
theorem list_extend_tupW (l : Addr) (items : Array Value) (n : Nat) (b : Addr) (items2 : Array Value) (n2 : Nat) (dd : Option Addr) (sl : Array (Option Value)) (door : ¬(!items.isEmpty && Builtin.List.listTooLong (items.size + items2.size)) = true) (le : items.size ≤ sizeLine) (both : items.size + items2.size ≤ sizeLine + 1) :
    Meets (Builtin.«list.extend» ⟨[.ref l, .ref b], []⟩) (fun _ R s => s.heap.get? l = some { cls := .type "list", dict := none, data := .seq items n, slots := #[] } ∧ s.heap.get? b = some { cls := .type "tuple", dict := dd, data := .seq items2 n2, slots := sl } ∧
      R (.ok (.ret Value.none)) { s with heap := s.heap.update l (Obj.mapSeq fun x => x ++ items2), toks := s.toks }) :=
  .of_wp fun prog w A R s h => by
    obtain ⟨hp, g, d, tk, os⟩ := s
    obtain ⟨hl, hb, go⟩ := h
    have f1 := idx_int
    have f2 := sub_tuple_tuple
    have f3 := sub_list_list
    have f4 := sub_tuple_list
    have f5 := sub_list_tuple
    have hz' : (items ++ items2).size ≤ sizeLine + 1 := by rw [Array.size_append]; exact both
    wp_walk using (wpAny_updateSeq hl rfl (hz := le) (_hz' := hz')), wpAny_loadPart' hl, wpAny_loadPart' hb
    exact ⟨_, rfl, go⟩
end AutoSeq1
end PySem
namespace Dh
open PySem PySem.Spec PyProof.Rows L2
/-- xs.extend(t), t a tuple -/
def rExtendT (K : PySem.W.Frag) : V → List V → Hp → VK → Prop := fun x vs H Q => ∃ l b xs zs, x = .ref l ∧ vs = [.ref b] ∧ H l = some (.lst xs) ∧ SqT K H b zs ∧ xs.length + zs.length ≤ sizeLine ∧ Q .non (upd H l (.lst (xs ++ zs)))
theorem mt_extendT {X : Cx} : MtM X "list.extend" (rExtendT X.K) := by
  intro pins s σ H x vs v us Q I rx rv h
  obtain ⟨l, b, xs, zs, rfl, rfl, hl, hb, few, q⟩ := h
  cases rx
  obtain ⟨u, rfl, ru⟩ := rv.one
  cases ru
  obtain ⟨_, its, n, r, le1, e⟩ := I.lstM hl
  obtain ⟨its2, r2, ⟨⟨c2, d2, data2, sl2⟩, h2, cls2, n2, dt2⟩, _⟩ := I.tuple hb
  simp only at cls2 dt2
  subst cls2 dt2
  have le2 := r2.length
  have fits : its.toArray.size + its2.toArray.size ≤ sizeLine := by rw [List.size_toArray, List.size_toArray]; omega
  have door : ¬ (!its.toArray.isEmpty && Builtin.List.listTooLong (its.toArray.size + its2.toArray.size)) = true := by
    rw [notLongL fits, Bool.and_false]; exact Bool.false_ne_true
  refine call_meets F.slot_list_extend ⟨_, e, rfl⟩ F.entry_list_extend (F.args_list_extend_2 _ _) (AutoSeq1.list_extend_tupW l its.toArray n b its2.toArray n2 d2 sl2 door (by rw [List.size_toArray]; omega) (by omega)) ⟨e, h2, ?_⟩
  refine ⟨.non, _, I.lset (its' := its ++ its2) hl e (by simp) (r.append r2) ?_, rfl, q⟩
  rw [List.length_append]
  omega
theorem mt_extendA {X : Cx} : MtM X "list.extend" (fun x vs H Q => rExtend x vs H Q ∨ rExtendT X.K x vs H Q) := by
  intro pins s σ H x vs v us Q I rx rv h
  rcases h with h | h
  · exact mt_extend pins s σ H x vs v us Q I rx rv h
  · exact mt_extendT pins s σ H x vs v us Q I rx rv h
end Dh
end

/-! PxN -/
section
set_option Elab.async false
set_option linter.all false
set_option maxRecDepth 100000
set_option maxHeartbeats 2000000
set_option autoImplicit false
/-! break, continue; dicts with keys that vary: d[e] = v, get, setdefault, in, dict(d), dict comprehensions; a local name that holds a def; for over a tuple of defs -/
namespace Px
open PySem PySem.Spec PyProof.Rows L2 Dh
section
variable {X : Cx} [IK]
theorem xs_break {pos : Pos} : XS X (.Break pos) tBreak (fun Γ Φ => Φ.bk Γ) := ⟨ps_break, fun C hK n f Γ σ H D Φ off nb R w F => F.bk _ _ _ w R⟩
theorem xs_continue {pos : Pos} : XS X (.Continue pos) tCont (fun Γ Φ => Φ.ct Γ) := ⟨ps_continue, fun C hK n f Γ σ H D Φ off nb R w F => F.ct _ _ _ w R⟩
/-! ### d[e] as a target, e a name -/
def gDputV (i j : Nat) : PG' := fun d Γ Φ => ∃ kds k, Γ[i]? = some (some (.own (dkD kds))) ∧ Γ[j]? = some (some (.v (keyD k))) ∧ kds.length < sizeLine ∧ Φ (Γ.set i (some (.own (dkD (putD kds k d)))))
theorem xg_dputV {o e : Expr} {pos : Pos} {i j : Nat} (hu : X.A.units + 1 < cLine) (ho : PE X o (tVar i)) (hk : PE X e (tVar j)) (ha : ∀ v, assign (.Subscript o e pos) X.env v = (do
      let ov ← holding [v] (eval o X.env)
      let iv ← holding [v, ov] (eval e X.env)
      standAt pos
      holding [v, ov, iv] (setItem ov iv v)
      release [v, ov, iv] []) := by intro _; rfl) : XG X (.Subscript o e pos) (gSub (tVar i) (tVar j) rSetD) (gDputV i j) [] := by
  refine ⟨pg_sub ho hk (set_dict hu) ha, fun C hK n f Γ σ H x d Q Φ off nb R a φ kk => ?_⟩
  obtain ⟨kds, k, hg, hj, hl, φ⟩ := φ
  obtain ⟨p, kvs, hσ, hH, ap⟩ := R.slotD hg
  obtain ⟨y, hσj, hej⟩ := R.at hj
  have ey : y = kV k := by
    cases R.e.ok _ _ _ hej with
    | v a => exact keyV (.inl a)
  subst ey
  refine ⟨.ref p, hσ, _, hσj, p, _, rfl, DPut.k hH (by rw [ap.len]; exact hl), ?_⟩
  have he : ent f Γ σ (.inr i) = some (.own (dkD kds), .ref p) := by
    show slotE Γ[i]? σ[i]? = _
    rw [hg, hσ]; rfl
  have R1 := R.put (d' := dkD (putD kds k d)) (o := .dK (putK kvs k x)) hg hσ fun W H' t e => Ow.dk e ((ap.tr t).put (Ac.tr t _ a))
  refine kk _ _ _ φ R1 ?_ (fun _ _ => rfl)
  intro b u hb nb'
  have ne : b ≠ p := fun z => nb' (.inr ⟨.inr i, _, by rw [z]; exact he⟩)
  refine ⟨by rw [upd_ne ne]; exact hb, ?_⟩
  rintro (z | ⟨j, d', z⟩)
  · exact nb' (.inl z)
  · have hi : i < Γ.length := (List.getElem?_eq_some_iff.mp hg).1
    rw [ent_tell hi hσ] at z
    by_cases q : j = .inr i
    · subst q; rw [upE_same] at z; cases z; exact ne rfl
    · rw [upE_ne q] at z; exact nb' (.inr ⟨_, _, z⟩)
/-! ### d.get(e) -/
def wDget1 (wd wk : PX) : PX := fun Γ Φ => wd Γ fun r Γ1 => (∃ kds, res Γ1 (hld r) = some (dkD kds)) ∧ wk Γ1 fun s Γ2 => ∃ kds k, res Γ2 (hld r) = some (dkD kds) ∧ res Γ2 s = some (keyD k) ∧ Φ (.v ((valD kds k).getD .none)) Γ2
theorem xe_dget1 {o i : Expr} {apos pos : Pos} {td tk : TE} {wd wk : PX} (hu : X.A.units + 1 < cLine) (ho : XE X o td wd) (hi : XE X i tk wk) (m : M1 X o "get" apos i pos) : XE X (.Call (.Attribute o "get" apos) [i] [] pos) (tDGet1 td tk) (wDget1 wd wk) := by
  refine ⟨pe_dget1 hu ho.1 hi.1 m, fun C hK n f Γ σ H Q Φ off R w k => ho.2 C hK n f Γ σ H _ _ off R w ?_⟩
  rintro r x Γ1 H1 ⟨⟨kds0, h0⟩, φ1⟩ R1
  obtain ⟨a, kvs0, rfl, ha0, _⟩ := (R1.hld.rv (k := .inl n) ent_held h0).dk
  refine ⟨a, rfl, .inl ⟨kvs0, .inl ha0⟩, ?_⟩
  refine hi.2 C hK (n + 1) _ Γ1 σ H1 _ _ off.up R1.hld φ1 ?_
  rintro s y Γ2 H2 ⟨kds, kk, h1, h2, φ⟩ R2
  have ey := keyV (R2.rv (k := .inl (n + 1)) ent_held h2)
  have R3 := R2.drop off.up
  obtain ⟨a', kvs, e', ha, hp⟩ := (R3.rv (k := .inl n) ent_held h1).dk
  cases e'
  refine ⟨_, by rw [ey]; exact DGet.k ha, ?_⟩
  cases hv : valD kds kk with
  | none =>
    rw [hp.valN kk hv]
    rw [hv] at φ
    exact k _ _ _ _ φ ((R3.drop off).holdV off .non)
  | some d =>
    obtain ⟨v, hv2, av⟩ := hp.val kk d hv
    rw [hv2]
    rw [hv] at φ
    exact k _ _ _ _ φ ((R3.drop off).holdV off (Ac.tr (Tr.drop off) _ av))
/-! ### d.setdefault(e, f), d of one's own -/
def wSetd (i : Nat) (wk wv : PX) : PX := fun Γ Φ => (∃ kds, Γ[i]? = some (some (.own (dkD kds)))) ∧ wk Γ fun s Γ1 => wv Γ1 fun u Γ2 => ∃ kds k d Γ3, res Γ2 s = some (keyD k) ∧ frz Γ2 u = some (d, Γ3) ∧ Γ3[i]? = some (some (.own (dkD kds))) ∧ kds.length < sizeLine ∧
  (∀ d0, valD kds k = some d0 → Φ (.v d0) Γ3) ∧ (valD kds k = none → Φ (.v d) (Γ3.set i (some (.own (dkD (putD kds k d))))))
theorem xe_setd {o e g : Expr} {apos pos : Pos} {i : Nat} {tk tv : TE} {wk wv : PX} (ho : PE X o (tVar i)) (he : XE X e tk wk) (hg : XE X g tv wv) (m : M2 X o "setdefault" apos e g pos) : XE X (.Call (.Attribute o "setdefault" apos) [e, g] [] pos) (tDSetd (tVar i) tk tv) (wSetd i wk wv) := by
  refine ⟨pe_dsetd ho he.1 hg.1 m, fun C hK n f Γ σ H Q Φ off R w k => ?_⟩
  obtain ⟨⟨kds0, h0⟩, w⟩ := w
  obtain ⟨a, kvs0, hσ, hH, _⟩ := R.slotD h0
  refine ⟨_, hσ, a, rfl, .inl ⟨kvs0, .inl hH⟩, he.2 C hK n f Γ σ H _ _ off R w ?_⟩
  intro s y Γ1 H1 φ1 R1
  refine hg.2 C hK (n + 1) _ Γ1 σ H1 _ _ off.up R1 φ1 ?_
  rintro u z Γ2 H2 ⟨kds, kk, d, Γ3, h1, h2, h3, hl, φa, φb⟩ R2
  have ey := keyV ((R2.drop off.up).rv (k := .inl n) ent_held h1)
  have R3 := R2.frzR off.up h2
  have az := R3.heldV
  obtain ⟨a', kvs, hσ', hH', ap⟩ := R3.slotD h3
  rw [hσ] at hσ'; cases hσ'
  refine ⟨kvs, kk, hH', ey, by rw [ap.len]; exact hl, fun v hv => ?_, fun hv => ?_⟩
  · cases hd : valD kds kk with
    | none => rw [ap.valN kk hd] at hv; cases hv
    | some d0 =>
      obtain ⟨v', hv', av⟩ := ap.val kk d0 hd
      rw [hv] at hv'; cases hv'
      have R4 := R3.drop off.up
      exact k _ _ _ _ (φa d0 hd) ((R4.drop off).holdV off (Ac.tr (Tr.drop off) _ (Ac.tr (Tr.drop off.up) _ av)))
  · cases hd : valD kds kk with
    | some d0 =>
      obtain ⟨v', hv', av⟩ := ap.val kk d0 hd
      rw [hv] at hv'; cases hv'
    | none =>
      have R4 := R3.put (d' := dkD (putD kds kk d)) (o := .dK (putK kvs kk z)) h3 hσ fun W H' t e => Ow.dk e ((ap.tr t).put (Ac.tr t _ az))
      have az4 := R4.heldV
      have R5 := R4.drop off.up
      exact k _ _ _ _ (φb hd) ((R5.drop off).holdV off (Ac.tr (Tr.drop off) _ (Ac.tr (Tr.drop off.up) _ az4)))
/-! ### e in d, e not in d -/
def wDin (neg : Bool) (wk wd : PX) : PXT := fun Γ Φ => wk Γ fun s Γ1 => wd Γ1 fun r Γ2 => ∃ kds k, res Γ2 s = some (keyD k) ∧ res Γ2 (hld r) = some (dkD kds) ∧ Φ (if neg then !(valD kds k).isSome else (valD kds k).isSome) Γ2
theorem valV_some {K : PySem.W.Frag} {W : AS} {H : Hp} {kvs : List (Key × V)} {kds : KD} (h : AcP K W H kvs kds) (k : Key) : (valV kvs k).isSome = (valD kds k).isSome := by
  cases hd : valD kds k with
  | none => rw [h.valN k hd]; rfl
  | some d =>
    obtain ⟨v, hv, _⟩ := h.val k d hd
    rw [hv]; rfl
theorem xt_din {o e : Expr} {pos : Pos} {td tk : TE} {wd wk : PX} (hu : X.A.units + 1 < cLine) (he : XE X e tk wk) (ho : XE X o td wd) (hm : behindInMarks .In o = false := by rfl) : XT X (.Compare e [.In] [o] pos) (tB (tDIn tk td)) (wDin false wk wd) := by
  refine ⟨pt_cmp (pc_din hu he.1 ho.1) hm, fun C hK n f Γ σ H Q Φ off R w k => he.2 C hK n f Γ σ H _ _ off R w ?_⟩
  intro s y Γ1 H1 φ1 R1
  refine ho.2 C hK (n + 1) _ Γ1 σ H1 _ _ off.up R1 φ1 ?_
  rintro r x Γ2 H2 ⟨kds, kk, h1, h2, φ⟩ R2
  have ey := keyV ((R2.drop off.up).rv (k := .inl n) ent_held h1)
  obtain ⟨a, kvs, rfl, ha, hp⟩ := (R2.hld.rv (k := .inl (n + 1)) ent_held h2).dk
  refine ⟨a, _, rfl, by rw [ey]; exact DGet.k ha, _, rfl, ?_⟩
  rw [valV_some hp]
  exact k _ _ _ φ ((R2.drop off.up).drop off)
theorem xt_dnotin {o e : Expr} {pos : Pos} {td tk : TE} {wd wk : PX} (hu : X.A.units + 1 < cLine) (he : XE X e tk wk) (ho : XE X o td wd) (hm : behindInMarks .NotIn o = false := by rfl) : XT X (.Compare e [.NotIn] [o] pos) (tB (tDNotIn tk td)) (wDin true wk wd) := by
  refine ⟨pt_cmp (pc_dnotin hu he.1 ho.1) hm, fun C hK n f Γ σ H Q Φ off R w k => he.2 C hK n f Γ σ H _ _ off R w ?_⟩
  intro s y Γ1 H1 φ1 R1
  refine ho.2 C hK (n + 1) _ Γ1 σ H1 _ _ off.up R1 φ1 ?_
  rintro r x Γ2 H2 ⟨kds, kk, h1, h2, φ⟩ R2
  have ey := keyV ((R2.drop off.up).rv (k := .inl n) ent_held h1)
  obtain ⟨a, kvs, rfl, ha, hp⟩ := (R2.hld.rv (k := .inl (n + 1)) ent_held h2).dk
  refine ⟨a, _, rfl, by rw [ey]; exact DGet.k ha, _, rfl, ?_⟩
  rw [valV_some hp]
  exact k _ _ _ φ ((R2.drop off.up).drop off)
/-! ### dict(d): a copy -/
def rDictOf : List V → Hp → VK → Prop := fun xs H Q => ∃ (a : Addr) (kvs : List (Key × V)), xs = [.ref a] ∧ Rd H a (.dK kvs) ∧ ∀ p, H p = none → Q (.ref p) (upd H p (.dK kvs))
theorem cr_dict : CallR X (.type "dict") rDictOf := call_dictD
def pDictOf : PO' | [d], Ψ => ∃ kds, d = dkD kds ∧ Ψ (.own d) | _, _ => False
theorem PDictOf : PureR X.K rDictOf pDictOf := by
  intro W H xs ds Q Ψ rv hφ P
  match ds, rv, hφ with
  | [d], .cons a .nil, ⟨kds, e, q⟩ =>
    subst e
    obtain ⟨b, kvs, ex, hb, hk⟩ := a.dk
    subst ex
    exact ⟨b, kvs, rfl, .inl hb, fun p hp => P.dic _ _ _ q hp hk.ack⟩
/-! ### {k: v for ..} -/
def compK (vs : List Nat) (g : PG') (tt : PXT) (tk tv : PX) (G : Env → Prop) : List PyData → KD → Env → (KD → Env → Prop) → Prop
  | [], acc, Γ, Φ => G Γ ∧ Φ acc Γ
  | d :: ds, acc, Γ, Φ => G Γ ∧ acc.length < sizeLine ∧ g d (wipeG Γ vs) fun Γ1 => tt Γ1 fun b Γ2 =>
      (b = true → tk Γ2 fun s Γ3 => tv Γ3 fun r Γ4 => ∃ k y Γ5, res Γ4 s = some (keyD k) ∧ frz Γ4 r = some (y, Γ5) ∧ compK vs g tt tk tv G ds (putD acc k y) (wipeG Γ5 vs) Φ) ∧ (b = false → compK vs g tt tk tv G ds acc (wipeG Γ2 vs) Φ)
def wDcomp (vs : List Nat) (wi : PIc) (g : PG') (tt : PXT) (tk tv : PX) : PX := fun Γ Φ => wi Γ fun ds G Γ1 => compK vs g tt tk tv G ds [] Γ1 fun acc Γ2 => Φ (.own (dkD acc)) Γ2
theorem xe_dc {kx vx tg iter : Expr} {ifs : List Expr} {scope : Scope} {own : List (Str × Nat)} {pos : Pos} {wi : TI} {g : TG} {tt : L2.TT} {tk tv : TE} {wI : PIc} {wG : PG'} {wT : PXT} {wK wE : PX} {ts : List Nat} (hc : X.calm = true) (hN : X.N.Nodup) (hi : XIc X tg iter wi wI) (ok : BlkOk X.N X.env.scope scope own)
    (hg : ∀ (s : Shared) (H : Hp) (C : Addr) (cl : List (Str × Addr)) (fp : List Addr), XG (X.blk s H scope (compEnvC scope cl C X.env) fp) tg g wG ts) (ht : ∀ (s : Shared) (H : Hp) (C : Addr) (cl : List (Str × Addr)) (fp : List Addr), XTs (X.blk s H scope (compEnvC scope cl C X.env) fp) ifs tt wT)
    (hk : ∀ (s : Shared) (H : Hp) (C : Addr) (cl : List (Str × Addr)) (fp : List Addr), XE (X.blk s H scope (compEnvC scope cl C X.env) fp) kx tk wK)
    (he : ∀ (s : Shared) (H : Hp) (C : Addr) (cl : List (Str × Addr)) (fp : List Addr), XE (X.blk s H scope (compEnvC scope cl C X.env) fp) vx tv wE) (hts : ∀ i ∈ ts, i ∈ own.map (·.2) := by decide) (hs : ∀ x, foldedSetIterable iter X.env x = pure x := by intro _; rfl) :
    XE X (.DictComp kx vx [⟨tg, iter, ifs, 0⟩] scope pos) (tDc wi g tt tk tv (own.map (·.2))) (wDcomp (own.map (·.2)) wI wG wT wK wE) := by
  refine ⟨pe_dc hc hN hi.1 ok (fun s H C cl fp => (hg s H C cl fp).1) (fun s H C cl fp => (ht s H C cl fp).1) (fun s H C cl fp => (hk s H C cl fp).1) (fun s H C cl fp => (he s H C cl fp).1) hs, fun C hK n f Γ σ H Q Φ off R w k => ?_⟩
  generalize own.map (·.2) = vs at hts w ⊢
  have dG := (hg X.s_0 (fun _ => none) 0 [] []).2 C ⟨hK.k, hK.i⟩
  have dT := (ht X.s_0 (fun _ => none) 0 [] []).2 C ⟨hK.k, hK.i⟩
  have dK := (hk X.s_0 (fun _ => none) 0 [] []).2 C ⟨hK.k, hK.i⟩
  have dE := (he X.s_0 (fun _ => none) 0 [] []).2 C ⟨hK.k, hK.i⟩
  refine hi.2 C hK n f Γ σ H _ _ off R w ?_
  intro ds G J Γ1 H1 n' f' Hd φ hn off' low R1 hd st okJ D hD
  have hdl : ∀ o, Hd (upF f' n' o) := fun o => st f' _ (fun m _ hm => upF_low m hm) hd
  refine ⟨fun i m H2 => m = ds.length - i ∧ i ≤ ds.length ∧ ∃ acc Γ2, Rel C (upF f' n' (some (.own (dkD acc), .ref D))) Γ2 σ H2 ∧ compK vs wG wT wK wE G (ds.drop i) acc Γ2 fun acc Γ2 => Φ (.own (dkD acc)) Γ2,
    ⟨_, rfl, Nat.zero_le _, [], Γ1, R1.mine off' hD (fun W H' t e => Ow.dk e .nil), by simpa using φ⟩, ?_⟩
  rintro i m H2 ⟨rfl, hi2, acc, Γ2, R2, φ2⟩
  rcases Nat.lt_or_ge i ds.length with lt | ge
  · have hd' : ds[i]? = some ds[i] := List.getElem?_eq_getElem lt
    rw [List.drop_eq_getElem_cons lt] at φ2
    obtain ⟨hG, hz, φ2⟩ := φ2
    refine .inr ⟨okJ.go _ Γ2 σ H2 i (hdl _) hG R2 lt, fun H3 => ∃ acc Γ3, Rel C (upF f' n' (some (.own (dkD acc), .ref D))) Γ3 σ H3 ∧ compK vs wG wT wK wE G (ds.drop (i + 1)) acc Γ3 fun acc Γ2 => Φ (.own (dkD acc)) Γ2, fun H3 z => ⟨ds.length - (i + 1), by omega, rfl, lt, z⟩, fun x H3 y => ?_⟩
    obtain ⟨gr, a⟩ := okJ.yld _ Γ2 σ H2 i _ x H3 (hdl _) hG R2 hd' y
    have R3 := R2.grow gr
    have R4 := R3.hide.wipes (hide_nb _) vs
    have offh : Off (hide (upF f' n' (some (.own (dkD acc), .ref D)))) (n' + 1) := hide_off off'.up
    have fn : hide (upF f' n' (some (.own (dkD acc), .ref D))) n' = some (.own (dkD acc), .ref D) := hide_keep (fun i z => by cases z) upF_same
    have bors : ∀ (acc' : KD) m i x, upF f' n' (some (.own (dkD acc'), .ref D)) m = some (.bor i, x) → upF f' n' (some (.own (dkD acc), .ref D)) m = some (.bor i, x) := by
      intro acc' m i x z
      unfold upF at z ⊢
      by_cases e : m = n'
      · rw [if_pos e] at z; cases z
      · rw [if_neg e] at z ⊢; exact z
    have aw : Ac C.K (WE C (ent (hide (upF f' n' (some (.own (dkD acc), .ref D)))) (wipeG Γ2 vs) (L2.wipe σ vs))) H3 x ds[i] := by
      refine Ac.tr (Tr.less ?_) _ a
      rintro b (z | ⟨k, d, z⟩)
      · exact .inl z
      · cases k with
        | inl m => exact .inr ⟨.inl m, d, hide_some z⟩
        | inr j =>
          obtain ⟨z1, z2⟩ := slotE_some z
          obtain ⟨z1, zo⟩ := wipeG_some z1
          refine .inr ⟨.inr j, d, ?_⟩
          show slotE Γ2[j]? σ[j]? = _
          rw [z1, (wipe_some z2).1]; rfl
    refine dG (n' + 1) _ _ _ H3 x _ _ _ offh (hide_nb _) R4 aw φ2 ?_
    intro Γ5 σ5 H5 φ5 R5 _ hw5
    have hw : L2.wipe σ5 vs = L2.wipe σ vs := by
      rw [hw5 vs hts]
      have : ∀ us : List Nat, (∀ u ∈ us, u ∈ vs) → L2.wipe (L2.wipe σ us) vs = L2.wipe σ vs := by
        intro us
        induction us with
        | nil => intro _; rfl
        | cons u us ih =>
          intro h
          show L2.wipe ((L2.wipe σ us).set u none) vs = _
          rw [wipe_in (h u (by simp))]
          exact ih fun v hv => h v (List.mem_cons_of_mem _ hv)
      exact this vs fun _ z => z
    refine ⟨by rw [hw5 vs hts]; exact (hw5 vs hts).symm.trans hw, ?_⟩
    refine dT (n' + 1) _ Γ5 σ5 H5 _ _ offh R5 φ5 ?_
    rintro b Γ6 H6 ⟨φt, φf⟩ R6
    cases b with
    | false =>
      rw [if_neg (by decide)]
      exact ⟨acc, _, R6.unhide R3 (bors acc) hw, φf rfl⟩
    | true =>
      rw [if_pos rfl]
      refine dK (n' + 1) _ Γ6 σ5 H6 _ _ offh R6 (φt rfl) ?_
      intro s ky Γ7 H7 φ7 R7
      refine dE (n' + 2) _ Γ7 σ5 H7 _ _ offh.up R7 φ7 ?_
      rintro r y Γ8 H8 ⟨kk, yd, Γ9, hs8, hz8, φ8⟩ R8
      have ek := keyV ((R8.drop offh.up).rv (k := .inl (n' + 1)) ent_held hs8)
      have R9 := R8.frzR offh.up hz8
      have fn9 : upF (upF (hide (upF f' n' (some (.own (dkD acc), .ref D)))) (n' + 1) (some (s, ky))) (n' + 2) (some (.v yd, y)) n' = some (.own (dkD acc), .ref D) := by
        unfold upF
        rw [if_neg (by omega), if_neg (by omega)]
        exact fn
      have ay := R9.heldV
      cases R9.e.ok (.inl n') _ _ fn9 with
      | own ow =>
        obtain ⟨kvs, h1, h2⟩ := ow.isDk
        refine ⟨kvs, kk, ek, h1, by rw [h2.len]; exact hz, ?_⟩
        have R10 := R9.putHeld (d' := dkD (putD acc kk yd)) (o := .dK (putK kvs kk y)) fn9 fun W H' t e => Ow.dk e ((h2.tr t).put (Ac.tr t _ ay))
        have e9 : upF (upF (upF (hide (upF f' n' (some (.own (dkD acc), .ref D)))) (n' + 1) (some (s, ky))) (n' + 2) (some (.v yd, y))) n' (some (.own (dkD (putD acc kk yd)), .ref D)) = upF (upF (hide (upF f' n' (some (.own (dkD (putD acc kk yd)), .ref D)))) (n' + 1) (some (s, ky))) (n' + 2) (some (.v yd, y)) := by
          funext m
          by_cases q : m = n'
          · subst q
            rw [upF_same]
            unfold upF
            rw [if_neg (by omega), if_neg (by omega)]
            exact (hide_keep (fun i z => by cases z) upF_same).symm
          · by_cases q2 : m = n' + 1
            · subst q2
              unfold upF
              rw [if_neg (by omega), if_neg (by omega), if_pos rfl, if_neg (by omega), if_pos rfl]
            · by_cases q3 : m = n' + 2
              · subst q3
                unfold upF
                rw [if_neg (by omega), if_pos rfl, if_pos rfl]
              · unfold upF hide
                rw [if_neg q, if_neg q3, if_neg q2, if_neg q3, if_neg q2]
                simp only [if_neg q]
        rw [e9] at R10
        have offh' : Off (hide (upF f' n' (some (.own (dkD (putD acc kk yd)), .ref D)))) (n' + 1) := hide_off off'.up
        have R11 := (R10.drop offh'.up).drop offh'
        exact ⟨putD acc kk yd, _, R11.unhide R3 (bors _) hw, φ8⟩
  · refine .inl ⟨okJ.stop _ Γ2 σ H2 i (hdl _) ?_ R2 ge, ?_⟩
    · rw [List.drop_eq_nil_of_le ge] at φ2
      exact φ2.1
    · rw [List.drop_eq_nil_of_le ge] at φ2
      exact k _ _ _ _ φ2.2 (R2.down off hn low)
end
end Px
namespace Px
open PySem PySem.Spec PyProof.Rows L2 Dh
section
variable {X : Cx} [IK]
/-! ### a local name that holds one of some defs: x(e, ..) -/
abbrev FnS := List (Addr × FuncData × PF)
def tCallVs (Fs : FnS) (i : Nat) (t : TA) : TE := fun σ H Q => ∃ p ∈ Fs, σ[i]? = some (some (.ref p.1)) ∧ t σ H fun vs H1 => spD X.K IK.ks p.2.2 vs H1 Q fun _ _ _ => False
def wCallVs (Fs : FnS) (i : Nat) (wA : PXP) : PX := fun Γ Φ => ∃ p ∈ Fs, Γ[i]? = some (some (.raw (.ref p.1))) ∧ wA Γ fun Δ Γ1 => p.2.2 Δ fun r => Φ r Γ1
structure FnsOk (X : Cx) (k : Nat) (ps : List Str) (Fs : FnS) : Prop where
  ok : ∀ p ∈ Fs, FnG X.prog X.w X.K X.mg X.base CX0 k p.1 p.2.1 ps (spD X.K IK.ks p.2.2)
  kp : ∀ p ∈ Fs, PySem.W.keepIn X.K (.ref p.1) = true
  bd : ∀ p ∈ Fs, Binds X.K p.2.1 ps []
theorem xe_callVs {e : Expr} {es : List Expr} {x : Str} {p pos : Pos} {i k : Nat} {ps : List Str} {Fs : FnS} {t : TA} {wA : PXP} (F : FnsOk X k ps Fs) (noG : X.A.guards = some []) (room : Room k X.A) (hN : X.N[i]? = some x) (hv : Vis X.env.scope x) (hA : XP X (e :: es) t wA)
    (hd : (x == ("__debug__" : Str)) = false := by decide) (hcd : (x == ("__classdict__" : Str)) = false := by decide)
    (he : starEach (e :: es) X.env = (false, eval e X.env) :: starEach es X.env := by rfl) (hpl : (backTo pos (starEach es X.env)).any (·.1) = false := by rfl) :
    XE X (.Call (.Name x p) (e :: es) [] pos) (tCallVs (X := X) Fs i t) (wCallVs Fs i wA) := by
  refine ⟨⟨fun pins s σ H Q I h => ?_⟩, fun C hK n f' Γ σ H Q Φ off R w k => ?_⟩
  · obtain ⟨q, hq, hs, h⟩ := h
    refine wpAny_Call_Name_kw (thn ((pe_var (pos := p) (i := i) hN hv hd hcd).run pins s σ H (fun v H1 => v = .ref q.1 ∧ H1 = H) I ⟨.ref q.1, hs, rfl, rfl⟩) fun u s1 ⟨v, H1, I1, r1, ev, eH⟩ => ?_)
    subst ev
    rw [eH] at I1
    cases r1
    refine PySem.W.callWith_K (h₀ := X.base) I.ok.mod.kin (F.kp q hq) ?_ he hpl
    refine thn (hA.1.run pos pins s1 σ H _ I1 h) ?_
    rintro us s2 ⟨vs, H2, I2, r, z⟩
    refine ⟨I2.kIn, wpAny_call ?_⟩
    have hl : (us ++ []).length = ps.length := by rw [List.append_nil, ← r.length]; exact (F.ok q hq).ln _ _ _ _ z
    have bd := F.bd q hq s2 us I2.kIn hl
    rw [List.append_nil] at bd
    refine codeAny_mono ((F.ok q hq).go X.A X.stack s2 H2 ⟨us, []⟩ us vs Q _ noG room I2.env0 bd r z) ?_
    intro res s' zz
    cases res with
    | error err => exact zz.elim
    | ok fl =>
      cases fl with
      | ret u => exact I2.after zz
      | next => exact zz.elim
      | brk => exact zz.elim
      | cont => exact zz.elim
  · obtain ⟨q, hq, hi, w⟩ := w
    obtain ⟨x', hx', he'⟩ := R.at hi
    have : x' = .ref q.1 := by cases R.e.ok _ _ _ he'; rfl
    subst this
    exact ⟨q, hq, hx', de_call (φ := q.2.2) hK (hA.2 C hK) (fun _ _ _ => False) n f' Γ σ H Q Φ off R w k⟩
/-! ### for x in a tuple of the module that holds defs -/
def loopR (i : Nat) (b : PXS) : List V → PXS
  | [], Γ, Φ => Φ.nx Γ
  | x :: xs, Γ, Φ => i < Γ.length ∧ b (Γ.set i (some (.raw x))) { nx := fun Γ2 => loopR i b xs Γ2 Φ, rt := Φ.rt, bk := Φ.nx, ct := fun Γ2 => loopR i b xs Γ2 Φ }
def wForR (i : Nat) (xs : List V) (b : PXS) : PXS := fun Γ Φ => loopR i b xs Γ Φ
theorem xs_forR {iter tg : Expr} {body : List Stmt} {t3 : TS} {b : PXS} {i : Nat} {a : Addr} {xs : List V} {pos : Pos} (hp : PassesOwn (model X.prog X.w) X.A X.env X.xe) (hc : X.calm = true) (hi : PE X iter (tC (.ref a))) (hT : KT X.K a xs) (hg : PG X tg (gName i)) (hb : XSs X body t3 b)
    (hs : ∀ x, foldedSetIterable iter X.env x = pure x := by intro _; rfl) : XS X (.For tg iter body [] pos) (tFor (iTup X.K (tC (.ref a))) (gName i) t3) (wForR i xs b) := by
  obtain ⟨p3, g3⟩ := hb
  refine ⟨ps_for hp hc (pi_tup hi) hg p3 hs, fun C hK n f Γ σ H D Φ off nb R w F => ?_⟩
  have sq : ∀ H, SqT X.K H a xs := fun H => .inr hT
  refine ⟨a, rfl, ⟨xs, sq H⟩, for_tup (K := X.K) (xs := xs) (fun j σ2 H2 => ∃ Γ2, Rel C f Γ2 σ2 H2 ∧ loopR i b (xs.drop j) Γ2 Φ) ⟨Γ, R, (by rw [List.drop_zero]; exact w)⟩ (fun _ _ H _ _ => sq H) ?_ ?_⟩
  · rintro j x σ2 H2 hj ⟨Γ2, R2, w2⟩
    have lt : j < xs.length := (List.getElem?_eq_some_iff.mp hj).1
    have ex : xs[j] = x := (List.getElem?_eq_some_iff.mp hj).2
    rw [List.drop_eq_getElem_cons lt, ex] at w2
    obtain ⟨hl2, w2⟩ := w2
    have R3 := (R2.hold (n := n) (d := .raw x) (x := x) off (fun _ z => by cases z) .raw).toSlot off nb (fun j z => by cases z) hl2
    exact g3 C hK n f _ _ H2 _ _ off nb R3 w2 ⟨fun Γ5 σ5 H5 z R5 => ⟨Γ5, R5, z⟩, F.rt, fun Γ5 σ5 H5 z R5 => F.nx _ _ _ z R5, fun Γ5 σ5 H5 z R5 => ⟨Γ5, R5, z⟩⟩
  · rintro σ2 H2 ⟨Γ2, R2, w2⟩
    rw [List.drop_length] at w2
    exact F.nx _ _ _ w2 R2
end
end Px
namespace Px
open PySem PySem.Spec PyProof.Rows L2 Dh
section
variable {X : Cx} [IK]
/-! ### for .. in zip(tuple, tuple) -/
def wZipS (w u : PX) : PI' := fun Γ Φ => w Γ fun r Γ1 => ∃ ds Γ2, frz Γ1 r = some (.tuple ds, Γ2) ∧ u Γ2 fun s Γ3 => ∃ es Γ4, frz Γ3 s = some (.tuple es, Γ4) ∧ Φ (zipD ds es) Γ4
theorem xi_zipT {e e2 : Expr} {t t2 : TE} {w u : PX} {p pos tpos : Pos} {elts : List Expr} {kk : Nat} (hg : Gl X "zip") (hm : X.mg "zip" = none) (h : XE X e t w) (h2 : XE X e2 t2 u)
    (hs : starEach [e, e2] X.env = (false, eval e X.env) :: starEach [e2] X.env := by rfl) (hs2 : starEach [e2] X.env = (false, eval e2 X.env) :: starEach [] X.env := by rfl) (hpl : (backTo pos (starEach [e2] X.env)).any (·.1) = false := by rfl) :
    XI X (.Tuple elts kk tpos) (.Call (.Name "zip" p) [e, e2] [] pos) (RZ.iZipA X.K (tCons t (tCons t2 tNil))) (wZipS w u) := by
  obtain ⟨pp, g⟩ := h
  obtain ⟨pp2, g2⟩ := h2
  refine ⟨RZ.pi_zipA hg hm (pa_cons pp (pa_cons pp2 pa_nil hs2) hs) hs hpl, fun C hK n f Γ σ H R Φ off Re w k => g C hK n f Γ σ H _ _ off Re w ?_⟩
  rintro r x Γ1 H1 ⟨ds, Γ2, hz, φ1⟩ R1
  have R2 := R1.frzR off hz
  refine g2 C hK (n + 1) _ Γ2 σ H1 _ _ off.up R2 φ1 ?_
  rintro s y Γ3 H2 ⟨es, Γ4, hz2, φ⟩ R3
  have R4 := R3.frzR off.up hz2
  have e1 : upF (upF f n (some (.v (.tuple ds), x))) (n + 1) (some (.v (.tuple es), y)) n = some (.v (.tuple ds), x) := by
    unfold upF; rw [if_neg (by omega), if_pos rfl]
  obtain ⟨a, xs, rfl, hq, _⟩ := (R4.rv (k := .inl n) (r := .v (.tuple ds)) e1 rfl).tup
  obtain ⟨b, ys, rfl, hq2, _⟩ := (R4.rv (k := .inl (n + 1)) (r := .v (.tuple es)) ent_held rfl).tup
  refine ⟨a, b, xs, ys, rfl, .inr ⟨by rw [← hK.k]; exact hq, by rw [← hK.k]; exact hq2, ?_⟩⟩
  rw [← hK.k]
  refine k _ _ _ _ (n + 2) _ (fun g => g n = some (.v (.tuple ds), .ref a) ∧ g (n + 1) = some (.v (.tuple es), .ref b)) φ (by omega) off.up.up (fun m hm => by unfold upF; rw [if_neg (by omega), if_neg (by omega)]) (fun m i x hm hx => ?_) R4 ⟨e1, upF_same⟩ (fun g g' e z => ⟨by rw [e n (Nat.le_refl _) (by omega)]; exact z.1, by rw [e (n + 1) (by omega) (by omega)]; exact z.2⟩) ?_
  · unfold upF at hx
    by_cases h1 : m = n + 1
    · rw [if_pos h1] at hx; cases hx
    · by_cases h2 : m = n
      · rw [if_neg h1, if_pos h2] at hx; cases hx
      · rw [if_neg h1, if_neg h2, off m hm] at hx; cases hx
  refine itok_zipT fun g Γ5 σ5 H5 hg _ R5 => ?_
  obtain ⟨a', xs', e, hq', ha'⟩ := (held_rv hg.1 R5 (d := .tuple ds) rfl).tup
  obtain ⟨b', ys', e2, hq2', hb'⟩ := (held_rv hg.2 R5 (d := .tuple es) rfl).tup
  cases e; cases e2
  exact ⟨⟨xs', hq', ha'⟩, ys', hq2', hb'⟩
/-! ### found.extend(a tuple) -/
def wExtendT (i : Nat) (w : PX) : PX := fun Γ Φ => w Γ fun r Γ1 => ∃ es ds, res Γ1 r = some (.tuple es) ∧ Γ1[i]? = some (some (.own (.list ds))) ∧ ds.length + es.length ≤ sizeLine ∧ Φ (.v .none) (Γ1.set i (some (.own (.list (ds ++ es)))))
theorem xe_extendT {e o : Expr} {t : TE} {i : Nat} {w : PX} (h : XE X e t w) (hp : ∀ t, PA X [e] t → PE X o (tBM X.K "list" (rExtendT X.K) (tVar i) t)) (h0 : starEach [e] X.env = (false, eval e X.env) :: starEach [] X.env := by rfl) :
    XE X o (tBM X.K "list" (rExtendT X.K) (tVar i) (tCons t tNil)) (fun Γ Φ => (∃ ds, Γ[i]? = some (some (.own (.list ds)))) ∧ wExtendT i w Γ Φ) := by
  refine ⟨hp _ (pa_cons h.1 pa_nil h0), fun C hK n f Γ σ H Q Φ off R w k => ?_⟩
  obtain ⟨⟨ds0, hds0⟩, w⟩ := w
  obtain ⟨a, xs, hσ, hH, _⟩ := R.slotL hds0
  refine ⟨_, hσ, .inl ⟨rfl, xs, .inl (.inl hH)⟩, ?_⟩
  refine h.2 C hK n f Γ σ H _ _ off R w ?_
  rintro r x Γ1 H1 ⟨es, ds, hz, hds, hl, φ⟩ R1
  obtain ⟨b, ys, rfl, hB, hb⟩ := (R1.rv (k := .inl n) ent_held hz).tup
  obtain ⟨a', xs', hσ', hH', ha'⟩ := R1.slotL hds
  rw [hσ] at hσ'; cases hσ'
  refine ⟨a, b, xs', ys, rfl, rfl, hH', by rw [← hK.k]; exact hB, by rw [ha'.len, hb.len]; exact hl, ?_⟩
  have R3 := R1.put (d' := .list (ds ++ es)) (o := .lst (xs' ++ ys)) hds hσ fun W H' t e => .lst e (AcL.tr t _ (ha'.app hb))
  exact k _ _ _ _ φ ((R3.drop off).holdV off .non)
end
end Px
namespace Px
open PySem PySem.Spec PyProof.Rows L2 Dh
section
variable {X : Cx} [IK]
/-! ### e[::-1] of a list -/
def wRevL (w : PX) : PX := fun Γ Φ => w Γ fun r Γ1 => ∃ ds, res Γ1 r = some (.list ds) ∧ Φ (.own (.list ds.reverse)) Γ1
theorem xe_revL {e : Expr} {te : TE} {w : PX} {k : Nat} {p1 p2 p3 pos : Pos} (h : XE X e te w) : XE X (.Subscript e (.Slice none none (some (.UnaryOp .USub (.Constant (.int 1) k p1) p2)) p3) pos) (tRevL X.K te) (wRevL w) := by
  refine ⟨pe_revL h.1, fun C hK n f Γ σ H Q Φ off R w k => h.2 C hK n f Γ σ H _ _ off R w ?_⟩
  rintro r x Γ1 H1 ⟨ds, hz, φ⟩ R1
  obtain ⟨a, xs, rfl, hq, ha⟩ := (R1.rv (k := .inl n) ent_held hz).lst
  have R0 := R1.drop off
  exact ⟨a, xs, rfl, by rw [← hK.k]; exact hq, fun p hp => k _ _ _ _ φ (R0.mineL off hp (AcL.rev (AcL.tr (Tr.drop off) _ ha)))⟩
end
end Px
namespace Px
open PySem PySem.Spec PyProof.Rows L2 Dh
section
variable {X : Cx} [IK]
/-! ### for over the one or the other; for over a caller's list -/
theorem xi_or {tg e : Expr} {t1 t2 : TI} {w1 w2 : PI'} (h1 : XI X tg e t1 w1) (h2 : XI X tg e t2 w2) : XI X tg e (fun σ H R => t1 σ H R ∨ t2 σ H R) (fun Γ Φ => w1 Γ Φ ∨ w2 Γ Φ) :=
  ⟨⟨fun pins s σ H R I h => h.elim (fun h => h1.1.run pins s σ H R I h) fun h => h2.1.run pins s σ H R I h⟩,
    fun C hK n f Γ σ H R Φ off Re w k => w.elim (fun w => .inl (h1.2 C hK n f Γ σ H R Φ off Re w k)) fun w => .inr (h2.2 C hK n f Γ σ H R Φ off Re w k)⟩
def wItR (w : PX) : PI' := fun Γ Φ => w Γ fun r Γ1 => ∃ ds, r = .ro (.list ds) ∧ Φ ds Γ1
theorem held_nbR {f : Fr} {n : Nat} {d : PyData} {x : V} (hf : Off f n) : ∀ m (i : Nat) (y : V), n ≤ m → upF f n (some (.ro d, x)) m ≠ some (.bor i, y) := by
  intro m i y hm
  unfold upF
  split
  · intro z; cases z
  · rw [hf m hm]; intro z; cases z
theorem xi_roS {tg e : Expr} {t : TE} {w : PX} (h : XE X e t w) : XI X tg e (iList X.K t) (wItR w) := by
  obtain ⟨p, g⟩ := h
  refine ⟨pi_list p, fun C hK n f Γ σ H R Φ off Re w k => g C hK n f Γ σ H _ _ off Re w ?_⟩
  rintro r x Γ1 H1 ⟨ds, rfl, φ⟩ R1
  obtain ⟨a, xs, rfl, hq, _⟩ := (R1.rv (k := .inl n) (r := .ro (.list ds)) ent_held rfl).lst
  refine ⟨a, rfl, ⟨xs, by rw [← hK.k]; exact hq⟩, ?_⟩
  rw [← hK.k]
  refine k ds _ _ _ (n + 1) _ (fun g => g n = some (.ro (.list ds), .ref a)) φ (by omega) off.up upF_low (held_nbR off) R1 upF_same (fun g g' e z => by rw [e n (Nat.le_refl _) (by omega)]; exact z) ?_
  refine itok_list fun g Γ3 σ3 H3 hg _ R3 => ?_
  obtain ⟨a', xs', e, hq', ha'⟩ := (R3.rv (k := .inl n) (r := .ro (.list ds)) hg rfl).lst
  cases e
  exact ⟨xs', hq', ha'⟩
end
end Px
namespace Px
open PySem PySem.Spec PyProof.Rows L2 Dh
theorem compK_inv {vs : List Nat} {g : PG'} {tt : PXT} {tk tv : PX} {G : Env → Prop} {Φ : KD → Env → Prop} (I : List PyData → KD → Env → Prop)
    (step : ∀ d r acc Γ (N : KD → Env → Prop), I (d :: r) acc Γ → (∀ acc' Γ', I r acc' Γ' → N acc' Γ') → G Γ ∧ acc.length < sizeLine ∧ g d (wipeG Γ vs) fun Γ1 => tt Γ1 fun b Γ2 =>
      (b = true → tk Γ2 fun s Γ3 => tv Γ3 fun r Γ4 => ∃ k y Γ5, res Γ4 s = some (keyD k) ∧ frz Γ4 r = some (y, Γ5) ∧ N (putD acc k y) (wipeG Γ5 vs)) ∧ (b = false → N acc (wipeG Γ2 vs)))
    (fin : ∀ acc Γ, I [] acc Γ → G Γ ∧ Φ acc Γ) : ∀ (ds : List PyData) (acc : KD) (Γ : Env), I ds acc Γ → compK vs g tt tk tv G ds acc Γ Φ
  | [], acc, Γ, h => fin acc Γ h
  | d :: ds, acc, Γ, h => step d ds acc Γ _ h fun acc' Γ' h' => compK_inv I step fin ds acc' Γ' h'
end Px
namespace Px
open PySem PySem.Spec PyProof.Rows L2 Dh
theorem loopR_inv {i : Nat} {b : PXS} {Φ : PEnds} (I : List V → Env → Prop) (step : ∀ x xs Γ (N : Env → Prop), I (x :: xs) Γ → (∀ Γ', I xs Γ' → N Γ') → i < Γ.length ∧ b (Γ.set i (some (.raw x))) { nx := N, rt := Φ.rt, bk := Φ.nx, ct := N }) (fin : ∀ Γ, I [] Γ → Φ.nx Γ) :
    ∀ (xs : List V) (Γ : Env), I xs Γ → loopR i b xs Γ Φ
  | [], Γ, h => fin Γ h
  | x :: xs, Γ, h => step x xs Γ _ h fun Γ' h' => loopR_inv I step fin xs Γ' h'
theorem FnG.up {P : Program} {w : World} {K : PySem.W.Frag} {mg : Str → Option Value} {base : Heap} {cx : CXT} {k k' : Nat} {f : Addr} {fd : FuncData} {ps : List Str} {sp : Sp} (F : FnG P w K mg base cx k f fd ps sp) (h : k ≤ k') : FnG P w K mg base cx k' f fd ps sp :=
  ⟨F.ln, fun A outer s H args us vs Q E a b c d e f => F.go A outer s H args us vs Q E a (b.mono h) c d e f⟩
end Px
end

/-! PxQ -/
section
set_option Elab.async false
set_option linter.all false
set_option maxRecDepth 100000
set_option maxHeartbeats 4000000
set_option autoImplicit false
/-! a list held against an empty one, whatever stands in it -/
namespace Px
open PySem PySem.Spec PyProof.Rows L2 Dh
def rEqNil (K : PySem.W.Frag) : R2 := fun x y H Q => ∃ a b xs, x = .ref a ∧ y = .ref b ∧ SqL K H a xs ∧ SqL K H b [] ∧ Q (.bl xs.isEmpty) H
def rNeNil (K : PySem.W.Frag) : R2 := fun x y H Q => ∃ a b xs, x = .ref a ∧ y = .ref b ∧ SqL K H a xs ∧ SqL K H b [] ∧ Q (.bl (!xs.isEmpty)) H
section
variable {X : Cx}
theorem lists_nil {pins : List (Addr × Obj)} {σ : SS} {H : Hp} {s : Shared} {a b : Addr} {xs : List V} (I : Inv X pins σ H s) (h1 : SqL X.K H a xs) (h2 : SqL X.K H b []) (u : X.A.units < cLine) : SeqAt.RcAt X.A s (.ref a) (.ref b) xs.isEmpty := by
  obtain ⟨its, rv, ⟨o, n, ho, hc, nd, hd⟩, _⟩ := I.list h1
  obtain ⟨its2, rv2, ⟨o2, n2, ho2, hc2, nd2, hd2⟩, _⟩ := I.list h2
  cases rv2
  have l1 : s.heap.IsList a its.toArray := ⟨o, ho, hc, n, hd⟩
  have l2 : s.heap.IsList b ([] : List Value).toArray := ⟨o2, ho2, hc2, n2, hd2⟩
  cases rv with
  | nil => exact SeqAt.RcAt.lists (e := fun _ => true) l1 l2 rfl u fun j h1 => absurd h1 (by simp)
  | cons r rs => exact SeqAt.RcAt.lists_lengths l1 l2 (by simp) u
theorem op_eqNil (hu : X.A.units + 64 < cLine) : OpR X (compareOp .Eq) (rEqNil X.K) := by
  intro pins s σ H x y v u Q I rx ry h
  obtain ⟨a, b, xs, rfl, rfl, h1, h2, q⟩ := h
  cases rx
  cases ry
  exact lists_nil I h1 h2 (by omega) X.prog X.w _ _ ⟨.bl xs.isEmpty, H, I, rfl, q⟩
end
def pEqNil : PO' | [.list ds, .list []], Ψ => Ψ (.v (.bool ds.isEmpty)) | _, _ => False
theorem PEqNil {K} : PureR2 K (rEqNil K) pEqNil := by
  intro W H x y d e Q Ψ hx hy hφ P
  unfold pEqNil at hφ
  split at hφ
  · rename_i ds eq
    obtain ⟨rfl, rfl⟩ : d = .list ds ∧ e = .list [] := by simpa using eq
    obtain ⟨a, xs, rfl, h1, h2⟩ := Rv.lst hx
    obtain ⟨b, ys, rfl, h3, h4⟩ := Rv.lst hy
    cases h4
    refine ⟨a, b, xs, rfl, rfl, h1, h3, ?_⟩
    have : xs.isEmpty = ds.isEmpty := by cases h2 <;> rfl
    rw [this]
    exact P.val _ _ hφ (.bl _)
  · exact hφ.elim
end Px
end

/-! PxV -/
section
set_option Elab.async false
set_option linter.all false
set_option maxRecDepth 100000
set_option maxHeartbeats 4000000
set_option autoImplicit false
namespace Px
open PySem PySem.Spec PyProof.Rows L2 Dh
/-- int of a text -/
def pIntS : PO' | [.str a], Ψ => ∃ n, PySem.intText? a = some n ∧ a.length ≤ 640 ∧ Ψ (.v (.int n)) | _, _ => False
theorem PIntS {K} : PureR K (fun xs H Q => ∃ a n, xs = [.str a] ∧ PySem.intText? a = some n ∧ a.length ≤ 640 ∧ Q (.int n) H) pIntS := by
  intro W H xs ds Q Ψ r h P
  unfold pIntS at h
  split at h
  · rename_i a
    obtain ⟨n, h1, h2, h3⟩ := h
    cases r with
    | cons a b =>
      cases b
      rw [Rv.str a]
      exact ⟨_, n, rfl, h1, h2, P.val _ _ h3 (.int _)⟩
  · exact h.elim
/-- a loop over what is known, by a word -/
theorem for_cut {wi : PI'} {g : PG'} {b : PXS} {Γ : Env} {Φ : PEnds} (ds : List PyData) (I : List PyData → Env → Prop) (h1 : ∀ (Φ' : List PyData → Env → Prop), Φ' ds Γ → wi Γ Φ') (h0 : I ds Γ)
    (step : ∀ d ds Γ (N : Env → Prop), I (d :: ds) Γ → (∀ Γ', I ds Γ' → N Γ') → g d Γ fun Γ1 => b Γ1 { nx := N, rt := Φ.rt, bk := Φ.nx, ct := N }) (fin : ∀ Γ, I [] Γ → Φ.nx Γ) : wFor wi g b Γ Φ :=
  h1 _ (loop_inv I step fin ds Γ h0)
end Px
end

/-! PxY -/
section
set_option Elab.async false
set_option linter.all false
set_option maxRecDepth 100000
set_option maxHeartbeats 4000000
set_option autoImplicit false
namespace Px
open PySem PySem.Spec PyProof.Rows L2 Dh
section
variable {X : Cx} [IK]
/-- a loop over enumerate of a tuple -/
def wItES (w : PX) : PI' := fun Γ Φ => w Γ fun r Γ1 => ∃ ds Γ2, frz Γ1 r = some (.tuple ds, Γ2) ∧ Φ (enumFrom 0 ds) Γ2
theorem xi_enumT {e : Expr} {t : TE} {w : PX} {p pos tpos : Pos} {elts : List Expr} {kk : Nat} (hg : Gl X "enumerate") (hm : X.mg "enumerate" = none) (h : XE X e t w) (hs : starEach [e] X.env = [(false, eval e X.env)] := by rfl) :
    XI X (.Tuple elts kk tpos) (.Call (.Name "enumerate" p) [e] [] pos) (iEnumT X.K (tCons t tNil)) (wItES w) := by
  obtain ⟨pp, g⟩ := h
  refine ⟨pi_enumT hg hm (pa_cons pp pa_nil (hs.trans rfl)) hs, fun C hK n f Γ σ H R Φ off Re w k => g C hK n f Γ σ H _ _ off Re w ?_⟩
  rintro r x Γ1 H1 ⟨ds, Γ2, hz, φ⟩ R1
  have R2 := R1.frzR off hz
  obtain ⟨a, xs, rfl, hq, _⟩ := (R2.rv (k := .inl n) (r := .v (.tuple ds)) ent_held rfl).tup
  refine ⟨a, xs, rfl, by rw [← hK.k]; exact hq, ?_⟩
  rw [← hK.k]
  refine k (enumFrom 0 ds) _ _ _ (n + 1) _ (fun g => g n = some (.v (.tuple ds), .ref a)) φ (by omega) off.up upF_low (held_nb off) R2 upF_same (fun g g' e z => by rw [e n (Nat.le_refl _) (by omega)]; exact z) ?_
  refine itok_enumT fun g Γ3 σ3 H3 hg _ R3 => ?_
  obtain ⟨a', xs', e, hq', ha'⟩ := (held_rv hg R3 (d := .tuple ds) rfl).tup
  cases e
  exact ⟨xs', hq', ha'⟩
end
end Px
end

/-! Pg -/
section
set_option Elab.async false
set_option linter.all false
set_option maxRecDepth 100000
set_option maxHeartbeats 2000000
set_option autoImplicit false
/-! programs as trees: heads and parts -/
namespace Pg
open PySem PySem.Spec PyProof.Rows L2 Dh
inductive Hd where
  | int (i : Int)
  | nam (x : Str)
  | call (f : Str)
  | make (t : Str)
  | cas (bs : List (Str × List Str))
  | lt (x : Str)
  | iff (t : Str)
  | op (s : Str)
  | delay
  | force
inductive Ex where
  | nd (h : Hd) (es : List Ex)
def brD (b : Str × List Str) (d : PyData) : PyData := .tuple [.str b.1, .tuple (b.2.map .str), d]
def Hd.w : Hd → Str
  | .int _ => "int"
  | .nam _ => "name"
  | .call _ => "call"
  | .make _ => "make"
  | .cas _ => "case"
  | .lt _ => "let"
  | .iff _ => "if"
  | .op _ => "op"
  | .delay => "delay"
  | .force => "force"
/-- what stands behind the word -/
def Hd.rest : Hd → List PyData → List PyData
  | .int i, _ => [.int i]
  | .nam x, _ => [.str x]
  | .call f, ds => [.str f, .tuple ds]
  | .make t, ds => [.str t, .tuple ds]
  | .cas bs, ds => [ds.headD .none, .tuple (List.zipWith brD bs ds.tail)]
  | .lt x, ds => .str x :: ds
  | .iff t, ds => .str t :: ds
  | .op s, ds => .str s :: ds
  | .delay, ds => ds
  | .force, ds => ds
mutual
def Ex.d : Ex → PyData
  | .nd h es => .tuple (.str h.w :: h.rest (dL es))
def dL : List Ex → List PyData
  | [] => []
  | e :: es => e.d :: dL es
end
theorem dL_map : ∀ es : List Ex, dL es = es.map Ex.d
  | [] => rfl
  | e :: es => by rw [dL, dL_map es]; rfl
theorem Ex.d_nd (h : Hd) (es : List Ex) : (Ex.nd h es).d = .tuple (.str h.w :: h.rest (es.map Ex.d)) := by rw [Ex.d, dL_map]
def Ex.hd : Ex → Hd
  | .nd h _ => h
def Ex.es : Ex → List Ex
  | .nd _ es => es
/-- how many parts a head has -/
def Hd.fits : Hd → Nat → Bool
  | .int _, n => n == 0
  | .nam _, n => n == 0
  | .call _, _ => true
  | .make _, _ => true
  | .cas bs, n => decide (bs ≠ [] ∧ n = bs.length + 1 ∧ bs.length ≤ 4000 ∧ ∀ b ∈ bs, b.2.length ≤ 4000)
  | .lt _, n => n == 2
  | .iff _, n => n == 4
  | .op _, n => n == 2
  | .delay, n => n == 1
  | .force, n => n == 1
mutual
/-- its heads have their parts -/
def Ex.fit : Ex → Bool
  | .nd h es => h.fits es.length && fitL es
def fitL : List Ex → Bool
  | [] => true
  | e :: es => e.fit && fitL es
end
theorem fitL_iff : ∀ {es : List Ex}, fitL es = true ↔ ∀ e ∈ es, e.fit = true
  | [] => by simp [fitL]
  | e :: es => by rw [fitL, Bool.and_eq_true, fitL_iff]; simp
theorem Ex.fit_nd {h : Hd} {es : List Ex} (z : (Ex.nd h es).fit = true) : h.fits es.length = true ∧ ∀ e ∈ es, e.fit = true := by
  rw [Ex.fit, Bool.and_eq_true] at z
  exact ⟨z.1, fitL_iff.mp z.2⟩
theorem fit_cas {bs : List (Str × List Str)} {es : List Ex} (z : (Hd.cas bs).fits es.length = true) : ∃ e0 bodies, es = e0 :: bodies ∧ bodies.length = bs.length ∧ bs ≠ [] ∧ bs.length ≤ 4000 ∧ ∀ b ∈ bs, b.2.length ≤ 4000 := by
  have z := of_decide_eq_true z
  cases es with
  | nil => simp at z
  | cons e0 bodies => exact ⟨e0, bodies, rfl, by simpa using z.2.1, z.1, z.2.2⟩
/-- induction over trees -/
theorem Ex.ind {P : Ex → Prop} (h : ∀ hd es, (∀ e ∈ es, P e) → P (.nd hd es)) : ∀ e, P e := by
  intro e
  exact Ex.rec (motive_1 := P) (motive_2 := fun es => ∀ e ∈ es, P e) (fun hd es ih => h hd es ih) (fun _ z => nomatch z) (fun e es a b x hx => by
    rcases List.mem_cons.mp hx with rfl | hx
    · exact a
    · exact b x hx) e
/-- how many names a head binds -/
def Hd.bn : Hd → Nat
  | .cas bs => (bs.map (·.2.length)).sum
  | .lt _ => 1
  | _ => 0
mutual
def Ex.n : Ex → Nat
  | .nd h es => 1 + h.bn + nL es
def nL : List Ex → Nat
  | [] => 0
  | e :: es => e.n + nL es
end
theorem nL_app (a b : List Ex) : nL (a ++ b) = nL a + nL b := by
  induction a with
  | nil => simp [nL]
  | cons e r ih => simp only [List.cons_append, nL, ih]; omega
theorem nL_rev (a : List Ex) : nL a.reverse = nL a := by
  induction a with
  | nil => rfl
  | cons e r ih => rw [List.reverse_cons, nL_app, ih]; simp only [nL]; omega
theorem Ex.n_pos (e : Ex) : 1 ≤ e.n := by
  cases e
  rw [Ex.n]; omega
theorem nL_len : ∀ es : List Ex, es.length ≤ nL es
  | [] => Nat.le_refl _
  | e :: es => by have := e.n_pos; have := nL_len es; simp only [List.length_cons, nL]; omega
/-! ### rows of a program -/
abbrev Rw := Str × List Str × Ex
def rowD (r : Rw) : PyData := .tuple [.str r.1, .tuple (r.2.1.map .str), r.2.2.d]
def progD (rows : List Rw) : PyData := .tuple (rows.map rowD)
/-! ### the first that stands again -/
def firstRep : List Str → List Str → Option Str
  | [], _ => none
  | w :: ws, seen => if w ∈ seen then some w else firstRep ws (seen ++ [w])
theorem firstRep_none : ∀ {ws seen : List Str}, firstRep ws seen = none ↔ ws.Nodup ∧ ∀ w ∈ ws, w ∉ seen
  | [], seen => by simp [firstRep]
  | w :: ws, seen => by
    unfold firstRep
    by_cases h : w ∈ seen
    · rw [if_pos h]
      simp only [List.mem_cons, forall_eq_or_imp, reduceCtorEq, false_iff]
      exact fun z => z.2.1 h
    · rw [if_neg h, firstRep_none, List.nodup_cons]
      constructor
      · rintro ⟨h1, h2⟩
        refine ⟨⟨fun z => ?_, h1⟩, fun x hx => ?_⟩
        · exact h2 w z (by simp)
        · rcases List.mem_cons.mp hx with rfl | hx
          · exact h
          · exact fun z => h2 x hx (by simp [z])
      · rintro ⟨⟨h1, h2⟩, h3⟩
        refine ⟨h2, fun x hx z => ?_⟩
        rcases List.mem_append.mp z with z | z
        · exact h3 x (by simp [hx]) z
        · rw [List.mem_singleton.mp z] at hx
          exact h1 hx
def strO : Option Str → PyData
  | none => .none
  | some x => .str x
/-! ### places, in the order of the text -/
inductive Pl where
  | nd (e : Ex)
  | br (b : Str × List Str) (e : Ex)
def Pl.w : Pl → Str
  | .nd e => e.hd.w
  | .br _ _ => "branch"
def Pl.x : Pl → PyData
  | .nd e => e.d
  | .br b e => brD b e.d
def Pl.d (p : Pl) : PyData := .tuple [.str p.w, p.x]
def Pl.e : Pl → Ex
  | .nd e => e
  | .br _ e => e
def Hd.brs (h : Hd) (i : Nat) (e : Ex) : List Pl := match h with
  | .cas bs => match i with
    | 0 => []
    | i + 1 => match bs[i]? with
      | some b => [.br b e]
      | none => []
  | _ => []
mutual
def pre : Ex → List Pl
  | .nd h es => .nd (.nd h es) :: preL h 0 es
def preL (h : Hd) : Nat → List Ex → List Pl
  | _, [] => []
  | i, e :: es => (h.brs i e ++ pre e) ++ preL h (i + 1) es
end
def pres : Pl → List Pl
  | .nd e => pre e
  | .br b e => .br b e :: pre e
def within : Pl → List Pl
  | .nd (.nd (.cas bs) (e0 :: es)) => .nd e0 :: List.zipWith Pl.br bs es
  | .nd (.nd _ es) => es.map .nd
  | .br _ e => [.nd e]
theorem preL_plain {h : Hd} (z : ∀ i e, h.brs i e = []) : ∀ (i : Nat) (es : List Ex), preL h i es = (es.map Pl.nd).flatMap pres
  | _, [] => by simp [preL]
  | i, e :: es => by
    rw [preL, z, preL_plain z]
    simp [pres]
theorem preL_cas (bs : List (Str × List Str)) : ∀ (i : Nat) (es : List Ex), es.length = bs.length - i → preL (.cas bs) (i + 1) es = (List.zipWith Pl.br (bs.drop i) es).flatMap pres
  | _, [], _ => by simp [preL]
  | i, e :: es, hl => by
    have lt : i < bs.length := by simp at hl; omega
    rw [preL, preL_cas bs (i + 1) es (by simp at hl; omega), List.drop_eq_getElem_cons lt]
    show (Hd.brs (.cas bs) (i + 1) e ++ pre e) ++ _ = _
    have : Hd.brs (.cas bs) (i + 1) e = [.br bs[i] e] := by
      show (match bs[i]? with | some b => [Pl.br b e] | none => []) = _
      rw [List.getElem?_eq_getElem lt]
    rw [this, List.zipWith_cons_cons, List.flatMap_cons]
    rfl
theorem pres_within {p : Pl} (z : p.e.fit = true) : pres p = p :: (within p).flatMap pres := by
  cases p with
  | br b e => simp [pres, within]
  | nd e =>
    obtain ⟨h, es⟩ := e
    have z := (Ex.fit_nd z).1
    show pre (.nd h es) = _
    rw [pre]
    congr 1
    cases h with
    | cas bs =>
      obtain ⟨e0, bodies, rfl, hl, _⟩ := fit_cas z
      rw [preL, preL_cas bs 0 bodies (by omega)]
      simp [within, Hd.brs, pres]
    | _ => exact preL_plain (fun _ _ => rfl) 0 es
theorem within_fit {p q : Pl} (z : p.e.fit = true) (h : q ∈ within p) : q.e.fit = true := by
  cases p with
  | br b e =>
    rw [List.mem_singleton.mp h]; exact z
  | nd e =>
    obtain ⟨hd, es⟩ := e
    obtain ⟨z1, z2⟩ := Ex.fit_nd z
    have plain : ∀ q ∈ es.map Pl.nd, q.e.fit = true := by
      intro q hq
      obtain ⟨e, he, rfl⟩ := List.mem_map.mp hq
      exact z2 e he
    cases hd with
    | cas bs =>
      obtain ⟨e0, bodies, rfl, hl, _⟩ := fit_cas z1
      have h : q ∈ Pl.nd e0 :: List.zipWith Pl.br bs bodies := h
      rcases List.mem_cons.mp h with rfl | h
      · exact z2 e0 (by simp)
      · rw [List.zipWith_eq_zipWith_take_min] at h
        obtain ⟨i, hi, e⟩ := List.getElem_of_mem h
        rw [List.getElem_zipWith] at e
        rw [← e]
        exact z2 _ (List.mem_cons_of_mem _ (List.mem_of_mem_take (List.getElem_mem _)))
    | _ => exact plain q h
/-- names that are bound for the part i -/
def Hd.binds (h : Hd) (i : Nat) : List Str := match h with
  | .cas bs => match i with
    | 0 => []
    | i + 1 => match bs[i]? with
      | some b => b.2
      | none => []
  | .lt x => if i = 1 then [x] else []
  | _ => []
/-- a name that is not bound -/
def Hd.free (h : Hd) (sc : List Str) : List Str := match h with
  | .nam x => if x ∈ sc then [] else [x]
  | _ => []
mutual
/-- the names that are bound nowhere, in the order of the text -/
def ub : Ex → List Str → List Str
  | .nd h es, sc => h.free sc ++ ubL h 0 es sc
def ubL (h : Hd) : Nat → List Ex → List Str → List Str
  | _, [], _ => []
  | i, e :: es, sc => ub e (sc ++ h.binds i) ++ ubL h (i + 1) es sc
end
/-! ### dicts of the names that are bound -/
open Px in
theorem valD_cons (p : Key × PyData) (r : KD) (j : Key) : valD (p :: r) j = if p.1 = j then some p.2 else valD r j := by
  unfold valD
  by_cases h : p.1 = j
  · simp [List.find?_cons, h]
  · simp [List.find?_cons, h]
open Px in
theorem valD_map_ne {k j : Key} {d : PyData} (n : j ≠ k) : ∀ kds : KD, valD (kds.map fun p => if p.1 = k then (p.1, d) else p) j = valD kds j
  | [] => rfl
  | p :: r => by
    rw [List.map_cons, valD_cons, valD_cons, valD_map_ne n r]
    by_cases h : p.1 = k
    · rw [if_pos h]
      have : ¬ p.1 = j := fun z => n (z.symm.trans h)
      rw [if_neg this, if_neg this]
    · rw [if_neg h]
open Px in
theorem valD_map_eq {k : Key} {d : PyData} : ∀ kds : KD, (kds.any fun p => decide (p.1 = k)) = true → valD (kds.map fun p => if p.1 = k then (p.1, d) else p) k = some d
  | [], h => by simp at h
  | p :: r, h => by
    rw [List.map_cons, valD_cons]
    by_cases hp : p.1 = k
    · rw [if_pos hp, if_pos hp]
    · rw [if_neg hp, if_neg hp]
      rw [List.any_cons, decide_eq_false hp, Bool.false_or] at h
      exact valD_map_eq r h
open Px in
theorem valD_app (a b : KD) (j : Key) : valD (a ++ b) j = (valD a j).or (valD b j) := by
  induction a with
  | nil => simp [valD]
  | cons p r ih =>
    rw [List.cons_append, valD_cons, valD_cons, ih]
    by_cases h : p.1 = j
    · rw [if_pos h, if_pos h]; rfl
    · rw [if_neg h, if_neg h]
open Px in
theorem valD_none {kds : KD} {k : Key} (h : ¬ (kds.any fun p => decide (p.1 = k)) = true) : valD kds k = none := by
  induction kds with
  | nil => rfl
  | cons p r ih =>
    rw [List.any_cons, Bool.or_eq_true, decide_eq_true_eq] at h
    rw [valD_cons, if_neg fun z => h (.inl z), ih fun z => h (.inr z)]
open Px in
theorem valD_put {kds : KD} {k : Key} {d : PyData} (j : Key) : valD (putD kds k d) j = if j = k then some d else valD kds j := by
  unfold putD
  by_cases h : (kds.any fun p => decide (p.1 = k)) = true
  · rw [if_pos h]
    by_cases n : j = k
    · rw [if_pos n, n, valD_map_eq kds h]
    · rw [if_neg n, valD_map_ne n]
  · rw [if_neg h, valD_app, valD_cons]
    by_cases n : j = k
    · rw [if_pos n, n, valD_none h, if_pos rfl]; rfl
    · rw [if_neg n, if_neg fun z => n z.symm]
      cases valD kds j <;> rfl
open Px in
theorem putD_len (kds : KD) (k : Key) (d : PyData) : (putD kds k d).length ≤ kds.length + 1 := by
  unfold putD
  split
  · rw [List.length_map]; omega
  · simp
open Px in
/-- the dict with some names more -/
def bindD (kds : KD) (ns : List Str) : KD := ns.foldl (fun acc x => putD acc (.inr x) (.bool true)) kds
open Px in
theorem bindD_len : ∀ (ns : List Str) (kds : KD), (bindD kds ns).length ≤ kds.length + ns.length
  | [], kds => Nat.le_refl _
  | x :: ns, kds => by
    have h1 := bindD_len ns (putD kds (.inr x) (.bool true))
    have h2 := putD_len kds (.inr x) (.bool true)
    show (bindD (putD kds (.inr x) (.bool true)) ns).length ≤ _
    rw [List.length_cons]; omega
open Px in
theorem bindD_is (x : Str) : ∀ (ns : List Str) (kds : KD), (valD (bindD kds ns) (.inr x)).isSome = ((valD kds (.inr x)).isSome || decide (x ∈ ns))
  | [], kds => by simp [bindD]
  | y :: ns, kds => by
    show (valD (bindD (putD kds (.inr y) (.bool true)) ns) (.inr x)).isSome = _
    rw [bindD_is x ns, valD_put]
    by_cases h : x = y
    · rw [if_pos (by rw [h])]; simp [h]
    · rw [if_neg (fun z => h (Sum.inr.inj z))]; simp [h]
open Px in
/-- what a dict of bound names stands for -/
def Bd (kds : KD) (sc : List Str) : Prop := ∀ x, (valD kds (.inr x)).isSome = decide (x ∈ sc)
theorem Bd.nil : Bd [] [] := fun x => by simp [Px.valD]
theorem Bd.bind {kds : Px.KD} {sc ns : List Str} (h : Bd kds sc) : Bd (bindD kds ns) (sc ++ ns) := fun x => by
  rw [bindD_is, h x]; simp [Bool.decide_or]
/-! ### what is bound nowhere -/
theorem ub_nd (h : Hd) (es : List Ex) (sc : List Str) : ub (.nd h es) sc = h.free sc ++ ubL h 0 es sc := by rw [ub]
/-- the parts of a row with the dicts that belong to them -/
def scL (h : Hd) (kds : Px.KD) : Nat → List Ex → List (Ex × Px.KD)
  | _, [] => []
  | i, e :: es => (e, bindD kds (h.binds i)) :: scL h kds (i + 1) es
def scopes : Ex × Px.KD → List (Ex × Px.KD)
  | (.nd h es, kds) => scL h kds 0 es
def itemD (p : Ex × Px.KD) : PyData := .tuple [p.1.d, Px.dkD p.2]
structure Fault where
  word : Str
  f : Str
  x : Str
def Fault.d (z : Fault) : PyData := .tuple [.str z.word, .str z.f, .str z.x]
def unbF (rows : List Rw) : Option (Str × Str) := rows.findSome? fun r => (ub r.2.2 r.2.1).head?.map fun x => (r.1, x)
end Pg
end

/-! Q10hG -/
section
set_option Elab.async false
set_option linter.all false
set_option maxRecDepth 100000
set_option maxHeartbeats 4000000
namespace Dh
open PySem PySem.Spec PyProof.Rows L2
abbrev St1 := List (Option V)

def top (i : Nat) : Stmt := PySem.Challenge.pw_debtsheld_k10_two_faults_at_once.main.body.getD i (.Pass ⟨0, 0, 0, 0⟩)
abbrev sDeck : Stmt := top 47
abbrev sDraw : Stmt := top 48
abbrev sPick : Stmt := top 49
abbrev sShuf : Stmt := top 51
abbrev sName : Stmt := top 52
abbrev sTag : Stmt := top 53
abbrev sLeaf : Stmt := top 54
abbrev sExpr : Stmt := top 55
abbrev sSigns : Stmt := top 56
abbrev sProg : Stmt := top 57

/-! ### the deck -/
abbrev kLeft : Key := .inr "left"
abbrev kMixed : Key := .inr "mixed"
abbrev kDraws : Key := .inr "draws"
abbrev kFuel : Key := .inr "fuel"
structure Dk (H : Hp) (dk lf : Addr) : Prop where
  d : ∃ kvs : List (Key × V), H dk = some (.dK kvs) ∧ kvs.length ≤ 10 ∧ valV kvs kLeft = some (.ref lf) ∧ (∃ m, valV kvs kMixed = some (.int m)) ∧ (∃ m, valV kvs kDraws = some (.int m)) ∧ ∃ m, valV kvs kFuel = some (.int m)
  l : ∃ ls : List Int, H lf = some (.lst (ls.map V.int)) ∧ ls.length ≤ 63
theorem Dk.ne {H : Hp} {dk lf : Addr} (D : Dk H dk lf) : dk ≠ lf := by
  obtain ⟨kvs, h1, _⟩ := D.d
  obtain ⟨ls, h2, _⟩ := D.l
  exact ne_of h1 h2 (by intro z; cases z)
theorem put_len {kvs : List (Key × V)} {k : Key} {v : V} (h : (valV kvs k).isSome = true) : (putK kvs k v).length = kvs.length := by
  unfold putK
  rw [valV_any, h, if_pos rfl, List.length_map]
/-- a number of the deck's own is stored -/
theorem Dk.put {H : Hp} {dk lf : Addr} {kvs : List (Key × V)} (D : Dk H dk lf) (h : H dk = some (.dK kvs)) {k : Key} {i : Int} (hk : k = kDraws ∨ k = kFuel ∨ k = kMixed) : Dk (upd H dk (.dK (putK kvs k (.int i)))) dk lf := by
  obtain ⟨kvs', h1, h2, h3, ⟨m1, h4⟩, ⟨m2, h5⟩, ⟨m3, h6⟩⟩ := D.d
  rw [h] at h1; cases h1
  obtain ⟨ls, hl, hn⟩ := D.l
  have nl : kLeft ≠ k := by
    rcases hk with rfl | rfl | rfl
    · intro z; exact absurd (Sum.inr.inj z) (by decide +kernel)
    · intro z; exact absurd (Sum.inr.inj z) (by decide +kernel)
    · intro z; exact absurd (Sum.inr.inj z) (by decide +kernel)
  have some_of : (valV kvs k).isSome = true := by
    rcases hk with rfl | rfl | rfl
    · rw [h5]; rfl
    · rw [h6]; rfl
    · rw [h4]; rfl
  have step : ∀ (j : Key) (m : Int), valV kvs j = some (.int m) → ∃ m', valV (putK kvs k (.int i)) j = some (.int m') := by
    intro j m e
    rw [valV_put]
    by_cases q : j = k
    · rw [if_pos q]; exact ⟨_, rfl⟩
    · rw [if_neg q]; exact ⟨_, e⟩
  refine ⟨⟨_, upd_same, by rw [put_len some_of]; exact h2, ?_, step _ _ h4, step _ _ h5, step _ _ h6⟩, ⟨ls, by rw [upd_ne D.ne.symm]; exact hl, hn⟩⟩
  rw [valV_put, if_neg nl]; exact h3
/-- its numbers left are others -/
theorem Dk.left {H : Hp} {dk lf : Addr} (D : Dk H dk lf) {ls : List Int} (h : ls.length ≤ 63) : Dk (upd H lf (.lst (ls.map V.int))) dk lf := by
  obtain ⟨kvs, h1, r⟩ := D.d
  exact ⟨⟨kvs, by rw [upd_ne D.ne]; exact h1, r⟩, ⟨ls, upd_same, h⟩⟩
/-- a new object beside it -/
theorem Dk.new {H : Hp} {dk lf p : Addr} {o : HO} (D : Dk H dk lf) (h : H p = none) : Dk (upd H p o) dk lf := by
  obtain ⟨kvs, h1, r⟩ := D.d
  obtain ⟨ls, h2, r2⟩ := D.l
  exact ⟨⟨kvs, by rw [upd_ne (ne_of_none h1 h)]; exact h1, r⟩, ⟨ls, by rw [upd_ne (ne_of_none h2 h)]; exact h2, r2⟩⟩
theorem Dk.put_other {H : Hp} {dk lf p : Addr} {o : HO} (D : Dk H dk lf) (h1 : p ≠ dk) (h2 : p ≠ lf) : Dk (upd H p o) dk lf := by
  obtain ⟨kvs, e1, r⟩ := D.d
  obtain ⟨ls, e2, r2⟩ := D.l
  exact ⟨⟨kvs, by rw [upd_ne h1.symm]; exact e1, r⟩, ⟨ls, by rw [upd_ne h2.symm]; exact e2, r2⟩⟩
theorem Dk.mem {H : Hp} {dk lf p : Addr} (D : Dk H dk lf) (h : H p = none) : p ∉ [dk, lf] := by
  obtain ⟨kvs, h1, _⟩ := D.d
  obtain ⟨ls, h2, _⟩ := D.l
  intro z
  rcases List.mem_cons.mp z with rfl | z
  · rw [h1] at h; cases h
  · rcases List.mem_cons.mp z with rfl | z
    · rw [h2] at h; cases h
    · cases z

/-- what the text asks of the built-in names -/
structure Blt (mg : Str → Option Value) : Prop where
  int : mg "int" = none
  len : mg "len" = none
  max : mg "max" = none
  list : mg "list" = none
  range : mg "range" = none
  str : mg "str" = none
  tuple : mg "tuple" = none
/-- a def of the top: where it stands, how it is called -/
structure Df (P : Program) (w : World) (K : PySem.W.Frag) (mg : Str → Option Value) (base : Heap) (x : Str) (k : Nat) (f : Addr) (fd : FuncData) (ps : List Str) (sp : Sp) : Prop where
  ok : FnOk P w K mg base CX0 k f fd ps sp
  m : mg x = some (.ref f)
  k : PySem.W.keepIn K (.ref f) = true
  b : Binds K fd ps []

/-! ### promises -/
def spDraw : Sp := fun vs H Q _ => ∃ (dk lf : Addr) (m : Int), vs = [.ref dk, .int m] ∧ Dk H dk lf ∧ 1 ≤ m ∧ m ≤ 100000 ∧
  ∀ (H' : Hp) (i : Int), Dk H' dk lf → Kp [dk, lf] H H' → 0 ≤ i → i < m → Q (.int i) H'

section
variable {P : Program} {w : World} {K : PySem.W.Frag} {mg : Str → Option Value} {base : Heap}

theorem shaped_ints : ∀ ls : List Int, PyData.canLayAll0 (ls.map PyData.int) = true ∧ PyData.depthAll (ls.map PyData.int) = 0
  | [] => ⟨by simp [PyData.canLayAll0], by simp [PyData.depthAll]⟩
  | x :: r => by
    obtain ⟨a, b⟩ := shaped_ints r
    exact ⟨by simp [PyData.canLayAll0, PyData.canLay0, a], by simp [PyData.depthAll, PyData.depth, b]⟩
theorem shaped_ints' (ls : List Int) : SeqAt.shaped (.list (ls.map PyData.int)) = true := by
  obtain ⟨a, b⟩ := shaped_ints ls
  simp [SeqAt.shaped, PyData.canLay0, PyData.depth, a, b]
theorem shaped_nil : SeqAt.shaped (.list []) = true := by decide
theorem dp_ints {H : Hp} : ∀ ls : List Int, DpAll K H (ls.map V.int) (ls.map PyData.int)
  | [] => .nil
  | x :: r => .cons (.int x) (dp_ints r)
theorem eqv_nil (ls : List Int) : PyData.eqv (.list (ls.map PyData.int)) (.list []) = ls.isEmpty := by
  cases ls with
  | nil => simp [PyData.eqv, PyData.eqvAll]
  | cons x r => simp [PyData.eqv, PyData.eqvAll]

theorem scDraw : FnScope ["deck", "many", "figure", "cell"] ["deck", "many"] (defScope sDraw) := ⟨rfl, rfl, rfl, by decide +kernel, rfl, by decide +kernel, by decide +kernel⟩
theorem okDraw {f : Addr} {fd : FuncData} (F : Fun K "_law_draw" "_law_draw" sDraw f fd) (T : Blt mg) : FnOk P w K mg base CX0 1 f fd ["deck", "many"] spDraw := by
  refine F.ok scDraw (fun vs H Q E h => ?_) (fun cdv A outer s H vs Q E hr h => ?_)
  · obtain ⟨_, _, _, rfl, _⟩ := h
    rfl
  · obtain ⟨dk, lf, m, rfl, D, m1, m2, k⟩ := h
    have hu := hu_of hr
    refine ⟨_, (pss_cons (ps_dput hu (pv 0) pe_str (pe_op op_add (pe_dget hu (pv 0) pe_str (fun _ _ => rfl)) pe_int) rfl)
      (pss_cons (ps_set (i := 2) scDraw.nd rfl (Or.inl rfl) (pe_op op_add (pe_dget hu (pv 0) pe_str (fun _ _ => rfl)) (pe_op op_mul pe_int (pe_dget hu (pv 0) pe_str (fun _ _ => rfl)))))
      (Evl.pss_cut (ps_if (pt_cmpR (op_neD hr.units) (pe_dget hu (pv 0) pe_str (fun _ _ => rfl)) (pe_lst pa_nil) (nomark _)) (pss_cons (ps_set (i := 3) scDraw.nd rfl (Or.inl rfl) (pe_bm0 PySem.F.plainAttrs_list PySem.F.slot_list_pop PySem.F.type_list_pop mt_pop (pe_dget hu (pv 0) pe_str (fun _ _ => rfl))))
        (pss_cons (ps_if (pt_cmpR op_ge (pv 3) (pe_op op_pow pe_int pe_int) (nomark _)) (pss_cons (ps_expr (pe_bm PySem.F.plainAttrs_list PySem.F.slot_list_append PySem.F.type_list_append mt_append (pe_dget hu (pv 0) pe_str (fun _ _ => rfl)) (pa_cons (pe_op op_fdivW (pv 3) (pe_callB (call_max2 rfl) (by rfl) T.max (by decide +kernel) (pa_cons pe_int (pa_cons (pv 1) pa_nil)))) pa_nil)))
          (pss_one (ps_ret (pe_op op_modN (pe_callTy call_int1 (by rfl) T.int (by decide +kernel) (pa_cons (pv 3) pa_nil)) (pv 1))))) pss_nil)
        (pss_one (ps_set (i := 2) scDraw.nd rfl (Or.inl rfl) (pe_op op_add (pv 2) (pe_op op_mod (pe_callTy call_int1 (by rfl) T.int (by decide +kernel) (pa_cons (pv 3) pa_nil)) pe_int)))))) pss_nil)
      (pss_cons (ps_set (i := 2) scDraw.nd rfl (Or.inl rfl) (pe_op op_mod (pe_callTy call_int1 (by rfl) T.int (by decide +kernel) (pa_cons (pe_op op_add (pe_op op_mul (pv 2) pe_int) pe_int) pa_nil)) pe_int))
      (pss_cons (ps_set (i := 2) scDraw.nd rfl (Or.inl rfl) (pe_op op_mod (pe_callTy call_int1 (by rfl) T.int (by decide +kernel) (pa_cons (pe_op op_add (pe_op op_add (pe_op op_mul (pv 2) (pv 2)) (pe_op op_mul pe_int (pe_dget hu (pv 0) pe_str (fun _ _ => rfl)))) pe_int) pa_nil)) pe_int))
      (pss_cons (ps_set (i := 2) scDraw.nd rfl (Or.inl rfl) (pe_op op_mod (pe_callTy call_int1 (by rfl) T.int (by decide +kernel) (pa_cons (pe_op op_mul (pv 2) pe_int) pa_nil)) pe_int))
      (pss_one (ps_ret (pe_op op_modN (pe_callTy call_int1 (by rfl) T.int (by decide +kernel) (pa_cons (pe_op op_fdiv (pv 2) pe_int) pa_nil)) (pv 1)))))))))), ?_⟩
    obtain ⟨kvs, d1, d2, d3, ⟨mx, d4⟩, ⟨dr, d5⟩, d6⟩ := id D.d
    have get : ∀ {H1 : Hp} {es : List (Key × V)} {kk : Key} {v : V}, H1 dk = some (.dK es) → valV es kk = some v → DGet H1 dk (kV kk) (some v) := fun {H1 es kk v} a b => b ▸ DGet.k a
    -- deck['draws'] = deck['draws'] + 1
    refine ⟨_, rfl, dk, .int dr, rfl, get (kk := kDraws) d1 d5, dr, 1, rfl, rfl, _, rfl, dk, _, rfl, DPut.k (k := kDraws) d1 (small1000 (by omega)), ?_⟩
    generalize hH1 : upd H dk (HO.dK (putK kvs kDraws (V.int (dr + 1)))) = H1
    have D1 : Dk H1 dk lf := by rw [← hH1]; exact D.put d1 (.inl rfl)
    have K1 : Kp [dk, lf] H H1 := by rw [← hH1]; exact Kp.put (by simp)
    clear hH1 d1 d2 d3 d4 d5 d6
    -- figure = deck['mixed'] + 47363 * deck['draws']
    obtain ⟨es, d1, d2, d3, ⟨mx, d4⟩, ⟨dr, d5⟩, d6⟩ := id D1.d
    refine ⟨_, rfl, dk, .int mx, rfl, get (kk := kMixed) d1 d4, _, rfl, dk, .int dr, rfl, get (kk := kDraws) d1 d5, _, _, rfl, rfl, .inl (by decide), _, _, rfl, rfl, ?_⟩
    -- what holds behind the branch
    refine ⟨fun σ H2 => ∃ (g : Int) (c : Option V), σ = [some (.ref dk), some (.int m), some (.int g), c] ∧ Dk H2 dk lf ∧ Kp [dk, lf] H H2, ?_, ?_⟩
    rotate_left
    · rintro σ H2 ⟨g, c, rfl, D2, K2⟩
      obtain ⟨es, d1, d2, d3, ⟨mx, d4⟩, ⟨dr, d5⟩, d6⟩ := id D2.d
      have b31 : ∀ a b : Int, 0 < b → b < 2147483648 → -(2 ^ 64) < a % b ∧ a % b < 2 ^ 64 := fun a b h1 h2 => by
        have z1 := Int.emod_nonneg a (show b ≠ 0 by omega)
        have z2 := Int.emod_lt_of_pos a h1
        omega
      refine ⟨_, rfl, _, _, rfl, rfl, .inr (by decide), _, _, rfl, rfl, .inl ⟨_, rfl, _, _, rfl, rfl, (show (0 : Int) < _ by decide), ?_⟩⟩
      refine ⟨_, rfl, _, rfl, _, _, rfl, rfl, .inl (b31 _ _ (by decide) (by decide)), _, rfl, dk, .int dr, rfl, get (kk := kDraws) d1 d5, _, _, rfl, rfl, .inl (by decide), _, _, rfl, rfl, _, _, rfl, rfl, .inl ⟨_, rfl, _, _, rfl, rfl, (show (0 : Int) < _ by decide), ?_⟩⟩
      refine ⟨_, rfl, _, _, rfl, rfl, .inr (by decide), .inl ⟨_, rfl, _, _, rfl, rfl, (show (0 : Int) < _ by decide), ?_⟩⟩
      refine ⟨_, rfl, _, _, rfl, rfl, ⟨by decide, by decide⟩, .inl ⟨_, rfl, _, rfl, _, _, rfl, rfl, (by omega), ?_⟩⟩
      show Q (.int (Int.fmod _ m)) H2
      rw [Int.fmod_eq_emod_of_nonneg _ (by omega)]
      exact k H2 _ D2 K2 (Int.emod_nonneg _ (by omega)) (Int.emod_lt_of_pos _ (by omega))
    -- if deck['left'] != []
    obtain ⟨ls, l1, l2⟩ := D1.l
    refine ⟨_, rfl, dk, .ref lf, rfl, get (kk := kLeft) d1 d3, (by decide), fun p hp => ?_⟩
    have D2 := D1.new (o := .lst []) hp
    have K2 := K1.trans (Kp.new (M := [dk, lf]) (o := .lst []) hp)
    obtain ⟨e1, e2, e3⟩ : ∃ e3, (upd H1 p (HO.lst [])) dk = some (.dK es) ∧ True := ⟨trivial, by rw [upd_ne (ne_of_none d1 hp)]; exact d1, trivial⟩
    have l1' : (upd H1 p (HO.lst [])) lf = some (.lst (ls.map V.int)) := by rw [upd_ne (ne_of_none l1 hp)]; exact l1
    refine ⟨.list (ls.map PyData.int), .list [], .lst (SqL.of l1') (dp_ints ls), .lst (SqL.of upd_same) .nil, shaped_ints' ls, shaped_nil, _, rfl, ?_⟩
    rw [eqv_nil]
    cases ls with
    | nil =>
      refine iteF ?_
      exact ⟨_, none, rfl, D2, K2⟩
    | cons x r =>
      refine iteT ?_
      have hz : ((x :: r).map V.int)[((x :: r).map V.int).length - 1]? = some (.int ((x :: r).getLast (by simp))) := by
        rw [← List.getLast?_eq_getElem?, List.getLast?_map, List.getLast?_eq_some_getLast (by simp)]
        rfl
      generalize (x :: r).getLast (by simp) = cell at hz
      -- cell = deck['left'].pop()
      refine ⟨_, rfl, dk, .ref lf, rfl, get (kk := kLeft) e2 d3, Or.inl ⟨rfl, _, SqL.of l1'⟩, lf, _, _, rfl, rfl, l1', hz, ?_⟩
      have hd : ((x :: r).map V.int).dropLast = ((x :: r).dropLast).map V.int := by rw [List.map_dropLast]
      rw [hd]
      have hl : ((x :: r).dropLast).length + 1 ≤ 63 := by rw [List.length_dropLast]; simp at l2 ⊢; omega
      have D3 := D2.left (ls := (x :: r).dropLast) (by omega)
      have K3 := K2.trans (Kp.put (M := [dk, lf]) (H := upd H1 p (HO.lst [])) (o := .lst (((x :: r).dropLast).map V.int)) (p := lf) (by simp))
      generalize (x :: r).dropLast = ys at D3 K3 hl
      generalize hH3 : upd (upd H1 p (HO.lst [])) lf (HO.lst (ys.map V.int)) = H3 at D3 K3
      have l3 : H3 lf = some (.lst (ys.map V.int)) := by rw [← hH3, upd_same]
      have d1' : H3 dk = some (.dK es) := by rw [← hH3, upd_ne D.ne]; exact e2
      -- if cell >= 10 ** 18
      refine ⟨_, rfl, _, _, rfl, rfl, ⟨by decide, by decide, by decide⟩, _, _, rfl, rfl, _, rfl, ?_⟩
      refine ite2 (fun _ => ?_) (fun _ => ?_)
      · refine ⟨_, rfl, dk, .ref lf, rfl, get (kk := kLeft) d1' d3, Or.inl ⟨rfl, _, SqL.of l3⟩, _, rfl, _, rfl, _, _, rfl, _, _, rfl, rfl, ?_, lf, _, _, rfl, rfl, l3, (by rw [List.length_map]; exact small1000 (by omega)), ?_⟩
        · refine ⟨by split <;> omega, ?_⟩
          have z : (if m > 2 then m else 2).natAbs < 2 ^ 17 := by split <;> omega
          have z2 := (Nat.log2_lt (n := (if m > 2 then m else 2).natAbs) (k := 17) (by split <;> omega)).mpr z
          omega
        · refine ⟨_, rfl, .inl ⟨_, rfl, _, rfl, _, _, rfl, rfl, (by omega), ?_⟩⟩
          show Q (.int (Int.fmod cell m)) (upd H3 lf (.lst (ys.map V.int ++ [V.int _])))
          rw [Int.fmod_eq_emod_of_nonneg _ (by omega)]
          have e : ∀ z : Int, (ys.map V.int) ++ [V.int z] = (ys ++ [z]).map V.int := fun z => by simp
          rw [e]
          exact k _ _ (D3.left (by rw [List.length_append]; simp; omega)) (K3.trans (Kp.put (by simp))) (Int.emod_nonneg _ (by omega)) (Int.emod_lt_of_pos _ (by omega))
      · refine ⟨_, rfl, _, rfl, .inl ⟨_, rfl, _, _, rfl, rfl, (show (0 : Int) < _ by decide), _, _, rfl, rfl, ?_⟩⟩
        exact ⟨_, _, rfl, D3, K3⟩

/-! ### the deck is made -/
theorem yesI {σ : St1} {H : Hp} {A B : Hp → Prop} (h : A H) : tYes σ H (fun b H3 => if b = true then A H3 else B H3) := by
  show (if true = true then A H else B H)
  rw [if_pos rfl]; exact h
theorem cut_map {α : Type} (f : α → V) (xs : List α) (lo hi : Option Int) : ∃ ys : List α, cutV (xs.map f) lo hi = ys.map f ∧ ys.length ≤ xs.length ∧ ∀ y ∈ ys, y ∈ xs := by
  unfold cutV
  refine ⟨(xs.drop (HT.sIx (xs.map f).length 0 lo)).take (HT.sIx (xs.map f).length (xs.map f).length hi - HT.sIx (xs.map f).length 0 lo), ?_, ?_, ?_⟩
  · rw [List.map_take, List.map_drop]
  · rw [List.length_take, List.length_drop]; omega
  · intro y hy
    exact List.mem_of_mem_drop (List.mem_of_mem_take hy)
theorem map_at {α : Type} {f : α → V} {xs : List α} {i : Nat} {y : V} (h : (xs.map f)[i]? = some y) : ∃ x, xs[i]? = some x ∧ y = f x := by
  rw [List.getElem?_map] at h
  cases e : xs[i]? with
  | none => rw [e] at h; cases h
  | some x => rw [e] at h; exact ⟨x, rfl, (Option.some.inj h).symm⟩
def spDeck (K : PySem.W.Frag) : Sp := fun vs H Q _ => ∃ (a : Addr) (ns : List Int), vs = [.ref a] ∧ SqL K H a (ns.map V.int) ∧ ns.length ≤ 63 ∧
  ∀ (H' : Hp) (dk lf : Addr), H dk = none → H lf = none → Dk H' dk lf → Kp [] H H' → Q (.ref dk) H'
theorem scDeck : FnScope ["script", "mixed", "cell"] ["script"] (defScope sDeck) := ⟨rfl, rfl, rfl, by decide +kernel, rfl, by decide +kernel, by decide +kernel⟩
theorem okDeck {f : Addr} {fd : FuncData} (F : Fun K "_law_deck" "_law_deck" sDeck f fd) (T : Blt mg) : FnOk P w K mg base CX0 1 f fd ["script"] (spDeck K) := by
  refine F.ok scDeck (fun vs H Q E h => ?_) (fun cdv A outer s H vs Q E hr h => ?_)
  · obtain ⟨_, _, rfl, _⟩ := h
    rfl
  · obtain ⟨a, ns, rfl, hS, hn, k⟩ := h
    refine ⟨_, (pss_cons (ps_set (i := 1) scDeck.nd rfl (Or.inl rfl) pe_int)
      (pss_cons (ps_for PassesOwn.never rfl (pi_list (pe_slice sl_list (pv 0) po_none (po_some pe_int))) (pg_name (i := 2) scDeck.nd rfl (Or.inl rfl))
        (pss_one (ps_set (i := 1) scDeck.nd rfl (Or.inl rfl) (pe_op op_mod (pe_callTy call_int1 (by rfl) T.int (by decide +kernel) (pa_cons (pe_op op_add (pe_op op_add (pe_op op_mul (pv 1) pe_int) (pe_op op_mod (pe_callTy call_int1 (by rfl) T.int (by decide +kernel) (pa_cons (pv 2) pa_nil)) pe_int)) pe_int) pa_nil)) pe_int))))
      (pss_one (ps_ret (pe_disp (pps_cons pe_str (pe_revL (pe_lc (own := [("cell", 2)]) (g := gName 2) (tt := tYes) rfl scDeck.nd (pi_list (pe_slice sl_list (pv 0) po_none (po_some pe_int))) (blkOk_by (N := ["script", "mixed", "cell"]) (sc := defScope sDeck) (by decide +kernel)) (fun _ _ _ _ _ => pg_name (i := 2) scDeck.nd rfl (Or.inl rfl)) (fun _ _ _ _ _ => pts_nil) (fun _ _ _ _ _ => (pe_callTy call_int1 (by rfl) T.int (by decide +kernel) (pa_cons (pv 2) pa_nil))))) (pps_cons pe_str (pv 1) (pps_cons pe_str pe_int (pps_cons pe_str pe_int pps_nil)))) (by rfl) (by rfl) (fun z => by cases z) (by decide)))))), ?_⟩
    -- for cell in script[:63]
    refine ⟨_, rfl, _, rfl, a, _, rfl, hS, fun p hp => ?_⟩
    obtain ⟨ms, hms, hml, _⟩ := cut_map V.int ns none (some 63)
    rw [hms]
    refine ⟨p, rfl, ⟨_, SqL.of upd_same⟩, for_list (K := K) (a := p) (xs := ms.map V.int) (fun i σ H2 => H2 = upd H p (.lst (ms.map V.int)) ∧ ∃ (m : Int) (c : Option V), σ = [some (.ref a), some (.int m), c]) ⟨rfl, _, none, rfl⟩ ?_ ?_ ?_⟩
    · rintro i σ H2 _ ⟨rfl, _⟩
      exact SqL.of upd_same
    · rintro i y σ H2 hi ⟨rfl, m, c, rfl⟩
      obtain ⟨x, _, rfl⟩ := map_at hi
      refine ⟨_, rfl, _, _, rfl, rfl, .inr (by decide), _, rfl, .inl ⟨_, rfl, _, _, rfl, rfl, (show (0 : Int) < _ by decide), _, _, rfl, rfl, _, _, rfl, rfl, .inl ⟨_, rfl, _, _, rfl, rfl, (show (0 : Int) < _ by decide), ?_⟩⟩⟩
      exact ⟨rfl, _, _, rfl⟩
    · rintro σ H2 ⟨rfl, m, c, rfl⟩
      -- return {..}
      have k1 : Kp [] H (upd H p (.lst (ms.map V.int))) := Kp.new hp
      have hS1 : SqL K (upd H p (.lst (ms.map V.int))) a (ns.map V.int) := k1.sqL (by simp) hS
      generalize upd H p (.lst (ms.map V.int)) = H2 at k1 hS1
      intro dk hdk
      have k2 : Kp [] H2 (upd H2 dk (.dK [])) := Kp.new hdk
      refine ⟨_, rfl, _, rfl, a, _, rfl, k2.sqL (by simp) hS1, fun q hq => ?_⟩
      rw [hms]
      have ndq : dk ≠ q := ne_of_none upd_same hq
      have k3 : Kp [] (upd H2 dk (.dK [])) (upd (upd H2 dk (.dK [])) q (.lst (ms.map V.int))) := Kp.new hq
      have dk3 : (upd (upd H2 dk (.dK [])) q (.lst (ms.map V.int))) dk = some (.dK []) := by rw [upd_ne ndq, upd_same]
      have q3 : (upd (upd H2 dk (.dK [])) q (.lst (ms.map V.int))) q = some (.lst (ms.map V.int)) := upd_same
      generalize upd (upd H2 dk (.dK [])) q (.lst (ms.map V.int)) = H3 at k3 dk3 q3
      refine ⟨q, rfl, ⟨_, SqL.of q3⟩, fun D hD => ?_⟩
      have nD : q ≠ D := ne_of_none q3 hD
      have nD2 : dk ≠ D := ne_of_none dk3 hD
      refine lc_list (K := K) (a := q) (xs := ms.map V.int) (fun i H4 => ∃ acc : List Int, acc.length = i ∧ H4 = upd H3 D (.lst (acc.map V.int))) ⟨[], rfl, rfl⟩ ?_ ?_ ?_
      · rintro i H4 _ ⟨acc, _, rfl⟩
        exact SqL.of (by rw [upd_ne nD]; exact q3)
      · rintro i y H4 hi ⟨acc, hacc, rfl⟩
        obtain ⟨x, hx, rfl⟩ := map_at hi
        have hil : i < ms.length := (List.getElem?_eq_some_iff.mp hx).1
        refine ⟨rfl, yesI ?_⟩
        refine ⟨_, rfl, .inl ⟨_, rfl, acc.map V.int, upd_same, by rw [List.length_map]; exact small1000 (by omega), acc ++ [x], by simp [hacc], ?_⟩⟩
        rw [upd_upd]; simp
      · rintro H4 ⟨acc, hacc, rfl⟩
        rw [List.length_map] at hacc
        have k4 : Kp [] H3 (upd H3 D (.lst (acc.map V.int))) := Kp.new hD
        have dk4 : (upd H3 D (.lst (acc.map V.int))) dk = some (.dK []) := by rw [upd_ne nD2]; exact dk3
        refine ⟨D, _, rfl, SqL.of upd_same, fun lf hlf => ?_⟩
        generalize upd H3 D (.lst (acc.map V.int)) = H4 at k4 dk4 hlf
        have nl : dk ≠ lf := ne_of_none dk4 hlf
        have k5 : Kp [] H4 (upd H4 lf (.lst (acc.map V.int).reverse)) := Kp.new hlf
        refine ⟨_, rfl, by rw [upd_ne nl]; exact dk4, [(kLeft, .ref lf), (kMixed, .int m), (kDraws, .int 0), (kFuel, .int 0)], rfl, (show 4 ≤ 15 by decide), ?_⟩
        have back : ∀ {b : Addr} {H' : Hp}, Kp [] H H' → H' b = none → H b = none := fun {b H'} kk e => by
          cases z : H b with
          | none => rfl
          | some o => rw [kk b o z (by simp)] at e; cases e
        refine k _ dk lf (back k1 hdk) (back (((k1.trans k2).trans k3).trans k4) hlf) ⟨⟨_, upd_same, (by show 4 ≤ 10; decide), by rfl, ⟨_, by rfl⟩, ⟨_, by rfl⟩, ⟨_, by rfl⟩⟩, ⟨acc.reverse, ?_, ?_⟩⟩ ?_
        · rw [upd_ne nl.symm, upd_same, List.map_reverse]
        · rw [List.length_reverse]; omega
        · intro b o e _
          have e2 := k5 b o (k4 b o (k3 b o (k2 b o (k1 b o e (by simp)) (by simp)) (by simp)) (by simp)) (by simp)
          have nb : b ≠ dk := ne_of_none (k1 b o e (by simp)) hdk
          rw [upd_ne nb]
          exact e2
end
end Dh
end

/-! Q10hH -/
section
set_option Elab.async false
set_option linter.all false
set_option maxRecDepth 100000
set_option maxHeartbeats 4000000
namespace Dh
open PySem PySem.Spec PyProof.Rows L2

/-! ### what is picked from -/
def Pk (K : PySem.W.Frag) (M : List Addr) (H : Hp) (s : V) (xs : List V) : Prop :=
  (∃ a, s = .ref a ∧ (SqL K H a xs ∨ SqT K H a xs) ∧ a ∉ M) ∨ ∃ z : Str, s = .str z ∧ xs = z.cps.toList.map fun c => V.str ⟨#[c]⟩
theorem Pk.kp {K : PySem.W.Frag} {M : List Addr} {H H' : Hp} {s : V} {xs : List V} (k : Kp M H H') (h : Pk K M H s xs) : Pk K M H' s xs := by
  rcases h with ⟨a, e, h | h, n⟩ | h
  · exact .inl ⟨a, e, .inl (k.sqL n h), n⟩
  · exact .inl ⟨a, e, .inr (k.sqT n h), n⟩
  · exact .inr h
theorem str_len (z : Str) : z.cps.toList.length = z.length := by
  show z.cps.toList.length = z.cps.size
  simp
theorem Pk.len {K : PySem.W.Frag} {M : List Addr} {H : Hp} {s : V} {xs : List V} (h : Pk K M H s xs) (hl : xs.length ≤ sizeLine) : LenV K s H xs.length := by
  rcases h with ⟨a, rfl, h | h, _⟩ | ⟨z, rfl, e⟩
  · exact .inl ⟨_, h, rfl⟩
  · exact .inr ⟨_, h, rfl⟩
  · have e2 : xs.length = z.length := by rw [e, List.length_map, str_len]
    exact ⟨by rw [← e2]; exact hl, e2⟩
theorem Pk.at {K : PySem.W.Frag} {M : List Addr} {H : Hp} {s : V} {xs : List V} (h : Pk K M H s xs) (hl : xs.length ≤ sizeLine) {i : Nat} {x : V} (hx : xs[i]? = some x) {Q : VK} (q : Q x H) : rIx K s (.int (i : Int)) H Q := by
  rcases h with ⟨a, rfl, h | h, _⟩ | ⟨z, rfl, e⟩
  · exact .inl ⟨a, xs, i, x, rfl, rfl, h, atI_nat hx, q⟩
  · exact .inr (.inl ⟨a, xs, i, x, rfl, rfl, h, atI_nat hx, q⟩)
  · have e2 : xs.length = z.length := by rw [e, List.length_map, str_len]
    rw [e, List.getElem?_map] at hx
    cases hc : z.cps.toList[i]? with
    | none => rw [hc] at hx; cases hx
    | some c =>
      rw [hc] at hx
      have ex : x = V.str ⟨#[c]⟩ := (Option.some.inj hx).symm
      subst ex
      exact .inr (.inr ⟨z, i, c, rfl, rfl, by rw [← e2]; exact hl, atI_nat hc, q⟩)
theorem Kp.mut {M : List Addr} {H H' : Hp} {p : Addr} {o : HO} (k : Kp M H H') (h : H p = none) : Kp M H (upd H' p o) := fun b u e n => by
  rw [upd_ne (ne_of_none e h)]; exact k b u e n
theorem Kp.back {M : List Addr} {H H' : Hp} {b : Addr} (k : Kp M H H') (n : b ∉ M) (e : H' b = none) : H b = none := by
  cases z : H b with
  | none => rfl
  | some o => rw [k b o z n] at e; cases e
theorem Kp.free {dk lf : Addr} {H H' : Hp} {b : Addr} (k : Kp [dk, lf] H H') (D : Dk H' dk lf) (e : H' b = none) : H b = none := k.back (D.mem e) e
theorem big1000 {n : Nat} (h : n ≤ 1000) : n ≤ sizeLine := Nat.le_of_lt (small1000 h)

def spPick (K : PySem.W.Frag) : Sp := fun vs H Q _ => ∃ (dk lf : Addr) (s : V) (xs : List V), vs = [.ref dk, s] ∧ Dk H dk lf ∧ Pk K [dk, lf] H s xs ∧ xs ≠ [] ∧ xs.length ≤ 1000 ∧
  ∀ (H' : Hp) (x : V), x ∈ xs → Dk H' dk lf → Kp [dk, lf] H H' → Q x H'
def spShuf (K : PySem.W.Frag) : Sp := fun vs H Q _ => ∃ (dk lf a : Addr) (xs : List V), vs = [.ref dk, .ref a] ∧ Dk H dk lf ∧ (SqL K H a xs ∨ SqT K H a xs) ∧ a ∉ [dk, lf] ∧ xs.length ≤ 1000 ∧
  ∀ (H' : Hp) (l : Addr) (ys : List V), ys.Perm xs → H l = none → l ∉ [dk, lf] → H' l = some (.lst ys) → Dk H' dk lf → Kp [dk, lf] H H' → Q (.ref l) H'
section
variable {P : Program} {w : World} {K : PySem.W.Frag} {mg : Str → Option Value} {base : Heap}

theorem scPick : FnScope ["deck", "some"] ["deck", "some"] (defScope sPick) := ⟨rfl, rfl, rfl, by decide +kernel, rfl, by decide +kernel, by decide +kernel⟩
theorem okPick {f g : Addr} {fd gd : FuncData} (F : Fun K "_law_pick" "_law_pick" sPick f fd) (T : Blt mg) (Ddraw : Df P w K mg base "_law_draw" 1 g gd ["deck", "many"] spDraw) : FnOk P w K mg base CX0 2 f fd ["deck", "some"] (spPick K) := by
  refine F.ok scPick (fun vs H Q E h => ?_) (fun cdv A outer s H vs Q E hr h => ?_)
  · obtain ⟨_, _, _, _, rfl, _⟩ := h
    rfl
  · obtain ⟨dk, lf, so, xs, rfl, D, pk, ne, hl, k⟩ := h
    refine ⟨_, (pss_one (ps_ret (pe_ix ix_seq (pv 1) (pe_call Ddraw.ok (hr.mono (by decide)) (by rfl) Ddraw.m Ddraw.k Ddraw.b .nil pass0 (pa_cons (pv 0) (pa_cons (pe_callB call_len (by rfl) T.len (by decide +kernel) (pa_cons (pv 1) pa_nil)) pa_nil))) (fun _ _ => rfl)))), ?_⟩
    have pos : 0 < xs.length := List.length_pos_iff.mpr ne
    refine ⟨_, rfl, _, rfl, _, rfl, _, _, rfl, pk.len (big1000 hl), dk, lf, _, rfl, D, by omega, by omega, fun H' i D' K' i0 im => ?_⟩
    obtain ⟨j, rfl⟩ : ∃ j : Nat, i = (j : Int) := ⟨i.toNat, by omega⟩
    have hj : j < xs.length := by omega
    exact (pk.kp K').at (big1000 hl) (List.getElem?_eq_getElem hj) (k H' _ (List.getElem_mem hj) D' K')

theorem perm_erase {α : Type} : ∀ (l : List α) (i : Nat) (x : α), l[i]? = some x → (x :: l.eraseIdx i).Perm l
  | [], _, _, h => by simp at h
  | a :: r, 0, x, h => by simp at h; subst h; simp
  | a :: r, i + 1, x, h => by
    have ih := perm_erase r i x (by simpa using h)
    simp only [List.eraseIdx_cons_succ]
    exact (List.Perm.swap a x _).trans (ih.cons a)
theorem scShuf : FnScope ["deck", "some", "left", "found", "go"] ["deck", "some"] (defScope sShuf) := ⟨rfl, rfl, rfl, by decide +kernel, rfl, by decide +kernel, by decide +kernel⟩
theorem okShuf {f g : Addr} {fd gd : FuncData} (F : Fun K "_law_shuffled" "_law_shuffled" sShuf f fd) (T : Blt mg) (Ddraw : Df P w K mg base "_law_draw" 1 g gd ["deck", "many"] spDraw) : FnOk P w K mg base CX0 2 f fd ["deck", "some"] (spShuf K) := by
  refine F.ok scShuf (fun vs H Q E h => ?_) (fun cdv A outer s H vs Q E hr h => ?_)
  · obtain ⟨_, _, _, _, rfl, _⟩ := h
    rfl
  · obtain ⟨dk, lf, a, xs, rfl, D, sq, na, hl, k⟩ := h
    refine ⟨_, (pss_cons (ps_par (i := 2) (j := 3) rfl scShuf.nd rfl rfl (by decide) rfl rfl (pa_cons (pe_callTy call_list_of (by rfl) T.list (by decide +kernel) (pa_cons (pv 1) pa_nil)) (pa_cons (pe_lst pa_nil) pa_nil)) (by rfl))
      (pss_cons (ps_for PassesOwn.never rfl (pi_range1 (by rfl) T.range (pa_cons (pe_callB call_len (by rfl) T.len (by decide +kernel) (pa_cons (pv 1) pa_nil)) pa_nil)) (pg_name (i := 4) scShuf.nd rfl (Or.inl rfl))
        (pss_one (ps_expr (pe_bm PySem.F.plainAttrs_list PySem.F.slot_list_append PySem.F.type_list_append mt_append (pv 3) (pa_cons (pe_bm PySem.F.plainAttrs_list PySem.F.slot_list_pop PySem.F.type_list_pop mt_popAt (pv 2) (pa_cons (pe_call Ddraw.ok (hr.mono (by decide)) (by rfl) Ddraw.m Ddraw.k Ddraw.b .nil pass0 (pa_cons (pv 0) (pa_cons (pe_callB call_len (by rfl) T.len (by decide +kernel) (pa_cons (pv 2) pa_nil)) pa_nil))) pa_nil)) pa_nil)))))
      (pss_one (ps_ret (pv 3))))), ?_⟩
    -- left, found = list(some), []
    refine ⟨_, rfl, a, xs, rfl, sq, fun l1 h1 => ⟨by decide, fun l2 h2 => ⟨_, _, rfl, ?_⟩⟩⟩
    have n12 : l1 ≠ l2 := ne_of_none upd_same h2
    have D1 := (D.new (o := .lst xs) h1).new (o := .lst []) h2
    have h2' : H l2 = none := by rw [upd_ne n12.symm] at h2; exact h2
    have K1 : Kp [dk, lf] H (upd (upd H l1 (.lst xs)) l2 (.lst [])) := ((Kp.refl _ H).mut h1).mut h2'
    have sq1 : SqL K (upd (upd H l1 (.lst xs)) l2 (.lst [])) a xs ∨ SqT K (upd (upd H l1 (.lst xs)) l2 (.lst [])) a xs := sq.elim (fun z => .inl (K1.sqL na z)) (fun z => .inr (K1.sqT na z))
    refine ⟨_, rfl, _, xs.length, rfl, sq1.elim (fun z => .inl ⟨_, z, rfl⟩) (fun z => .inr ⟨_, z, rfl⟩), xs.length, rfl, by omega, by omega, ?_⟩
    refine for_range (lo := 0) (n := xs.length) (fun i σ H' => ∃ (left found : List V) (c : Option V), σ = [some (.ref dk), some (.ref a), some (.ref l1), some (.ref l2), c] ∧
      H' l1 = some (.lst left) ∧ H' l2 = some (.lst found) ∧ (found ++ left).Perm xs ∧ found.length = i ∧ Dk H' dk lf ∧ Kp [dk, lf] H H')
      ⟨xs, [], none, rfl, by rw [upd_ne n12]; exact upd_same, upd_same, .refl _, rfl, D1, K1⟩ ?_ ?_
    · rintro i σ H' hi ⟨left, found, c, rfl, e1, e2, pm, fl, D', K'⟩
      have lens : left.length + i = xs.length := by
        have := pm.length_eq
        rw [List.length_append] at this; omega
      refine ⟨_, rfl, Or.inl ⟨rfl, _, SqL.of e2⟩, _, rfl, Or.inl ⟨rfl, _, SqL.of e1⟩, _, rfl, _, rfl, _, left.length, rfl, .inl ⟨_, SqL.of e1, rfl⟩, dk, lf, _, rfl, D', by omega, by omega, fun H2 z D2 K2 z0 zm => ?_⟩
      obtain ⟨j, rfl⟩ : ∃ j : Nat, z = (j : Int) := ⟨z.toNat, by omega⟩
      have hj : j < left.length := by omega
      have m1 : l1 ∉ [dk, lf] := D.mem h1
      have m2 : l2 ∉ [dk, lf] := D.mem h2'
      have e1' := K2 _ _ e1 m1
      have e2' := K2 _ _ e2 m2
      refine ⟨l1, left, _, j, left[j], rfl, rfl, e1', by omega, by omega, by rw [seqIndex_of (by omega) (by omega)]; simp, List.getElem?_eq_getElem hj, ?_⟩
      have e2'' : (upd H2 l1 (HO.lst (left.eraseIdx j))) l2 = some (.lst found) := by rw [upd_ne n12.symm]; exact e2'
      refine ⟨l2, found, _, rfl, rfl, e2'', small1000 (by omega), ?_⟩
      have no1 : l1 ≠ dk ∧ l1 ≠ lf := ⟨fun z => m1 (by simp [z]), fun z => m1 (by simp [z])⟩
      have no2 : l2 ≠ dk ∧ l2 ≠ lf := ⟨fun z => m2 (by simp [z]), fun z => m2 (by simp [z])⟩
      refine ⟨left.eraseIdx j, found ++ [left[j]], _, rfl, by rw [upd_ne n12, upd_same], upd_same, ?_, by simp [fl], (D2.put_other no1.1 no1.2).put_other no2.1 no2.2, ((K'.trans K2).mut h1).mut h2'⟩
      rw [List.append_assoc]
      exact (List.Perm.append_left found (perm_erase left j _ (List.getElem?_eq_getElem hj))).trans pm
    · rintro σ H' ⟨left, found, c, rfl, e1, e2, pm, fl, D', K'⟩
      have lens : left.length = 0 := by
        have := pm.length_eq
        rw [List.length_append] at this; omega
      have e0 : left = [] := List.length_eq_zero_iff.mp lens
      subst e0
      rw [List.append_nil] at pm
      exact ⟨_, rfl, k H' l2 found pm h2' (D.mem h2') e2 D' K'⟩
end
end Dh
end

/-! Q10hN -/
section
set_option Elab.async false
set_option linter.all false
set_option maxRecDepth 100000
set_option maxHeartbeats 4000000
namespace Dh
open PySem PySem.Spec PyProof.Rows L2

/-! ### words: names and tags, by their signs -/
def lowS : Str := "abcdefghijklmnopqrstuvwxyz"
def alnS : Str := lowS ++ "0123456789"
def uppS : Str := "ABCDEFGHIJKLMNOPQRSTUVWXYZ"
def bothS : Str := lowS ++ uppS ++ "0123456789"
def wordOf (first others : Str) (x : Str) : Bool := match x.cps.toList with
  | [] => false
  | c :: r => decide (c ∈ first.cps.toList) && r.all (fun d => decide (d ∈ others.cps.toList)) && decide (r.length ≤ 11)
def resv : List Str := ["def", "case", "let", "if", "delay", "force"]
def nameOk (x : Str) : Bool := wordOf lowS alnS x && !(resv.contains x)
def tagOk (x : Str) : Bool := wordOf uppS bothS x

theorem inV_strs (x : Str) (us : List Str) : inV (.str x) (us.map V.str) = us.contains x := by
  unfold inV
  rw [List.any_map, List.contains_eq_any_beq]
  congr 1
  funext y
  show (y == x) = (x == y)
  exact BEq.comm
theorem flat_strs (us : List Str) : (us.map V.str).all flatV = true := by
  rw [List.all_map]
  exact List.all_eq_true.mpr fun _ _ => rfl
theorem str_map_at {us : List Str} {x : V} (h : x ∈ us.map V.str) : ∃ y, y ∈ us ∧ x = .str y := by
  obtain ⟨y, hy, e⟩ := List.mem_map.mp h
  exact ⟨y, hy, e.symm⟩

theorem nodup_len {α : Type} [BEq α] [LawfulBEq α] : ∀ (l m : List α), l.Nodup → (∀ x ∈ l, x ∈ m) → l.length ≤ m.length
  | [], _, _, _ => Nat.zero_le _
  | a :: r, m, nd, h => by
    obtain ⟨n1, n2⟩ := List.nodup_cons.mp nd
    have ha := h a List.mem_cons_self
    have ih := nodup_len r (m.erase a) n2 fun x hx => by
      have hne : x ≠ a := fun z => n1 (z ▸ hx)
      exact (List.mem_erase_of_ne hne).mpr (h x (List.mem_cons_of_mem _ hx))
    have e := List.length_erase_of_mem ha
    have pos : 0 < m.length := List.length_pos_of_mem ha
    rw [List.length_cons]
    omega
def spares (p : Str) (n : Nat) : List Str := (List.range n).map fun (i : Nat) => p ++ Str.ofString (toString (i : Int))
theorem spare_there {l us : List Str} (nd : l.Nodup) (h : us.length < l.length) : (l.filter fun s => !us.contains s) ≠ [] := by
  intro e
  have all : ∀ x ∈ l, x ∈ us := fun x hx => by
    cases q : us.contains x with
    | true => exact List.contains_iff_mem.mp q
    | false =>
      have : x ∈ l.filter fun s => !us.contains s := List.mem_filter.mpr ⟨hx, by rw [q]; rfl⟩
      rw [e] at this; cases this
  have := nodup_len l us nd all
  omega
theorem spares_len (p : Str) (n : Nat) : (spares p n).length = n := by simp [spares]
theorem sparesV_nd : (spares "v" 200).Nodup := by decide +kernel
theorem sparesV_ok : (spares "v" 200).all nameOk = true := by decide +kernel
theorem sparesT_nd : (spares "T" 90).Nodup := by decide +kernel
theorem sparesT_ok : (spares "T" 90).all tagOk = true := by decide +kernel
end Dh
end

/-! Q10hM -/
section
set_option Elab.async false
set_option linter.all false
set_option maxRecDepth 100000
set_option maxHeartbeats 4000000
namespace Dh
open PySem PySem.Spec PyProof.Rows L2

/-- where a body stands: the deck, and what has been kept since the entry -/
structure Sn (M : List Addr) (H0 H : Hp) (dk lf : Addr) : Prop where
  d : Dk H dk lf
  k : Kp M H0 H
  i : ∀ b ∈ [dk, lf], b ∈ M
theorem Sn.start {H : Hp} {dk lf : Addr} (D : Dk H dk lf) : Sn [dk, lf] H H dk lf := ⟨D, Kp.refl _ _, fun _ h => h⟩
theorem Sn.start3 {H : Hp} {dk lf u : Addr} (D : Dk H dk lf) : Sn [dk, lf, u] H H dk lf := ⟨D, Kp.refl _ _, fun b hb => by
  rcases List.mem_cons.mp hb with rfl | hb
  · simp
  · rcases List.mem_cons.mp hb with rfl | hb
    · simp
    · cases hb⟩
theorem Sn.stp {M : List Addr} {H0 H H1 : Hp} {dk lf p : Addr} {o : HO} (s : Sn M H0 H dk lf) (hp : H p = none) (e : upd H p o = H1) : H1 p = some o ∧ Sn M H0 H1 dk lf ∧ Kp [] H H1 := by
  subst e
  exact ⟨upd_same, ⟨s.d.new hp, s.k.trans (Kp.new hp), s.i⟩, Kp.new hp⟩
theorem Sn.call {M : List Addr} {H0 H H1 : Hp} {dk lf : Addr} (s : Sn M H0 H dk lf) (D : Dk H1 dk lf) (k : Kp [dk, lf] H H1) : Sn M H0 H1 dk lf := ⟨D, s.k.trans (k.more s.i), s.i⟩
theorem Sn.ext {M : List Addr} {H0 H H1 : Hp} {dk lf : Addr} (s : Sn M H0 H dk lf) (k : Kp [] H H1) : Sn M H0 H1 dk lf := by
  obtain ⟨kvs, h1, r⟩ := s.d.d
  obtain ⟨ls, h2, r2⟩ := s.d.l
  exact ⟨⟨⟨kvs, k _ _ h1 (by simp), r⟩, ⟨ls, k _ _ h2 (by simp), r2⟩⟩, s.k.trans (k.more fun _ h => nomatch h), s.i⟩
theorem Sn.out3 {H0 H : Hp} {dk lf u p : Addr} {o : HO} (s : Sn [dk, lf, u] H0 H dk lf) (hu : H u = some o) (hp : H p = none) : p ∉ [dk, lf, u] := by
  have h := s.d.mem hp
  intro z
  rcases List.mem_cons.mp z with rfl | z
  · simp at h
  · rcases List.mem_cons.mp z with rfl | z
    · simp at h
    · rcases List.mem_cons.mp z with rfl | z
      · rw [hu] at hp; cases hp
      · cases z
theorem Sn.mut {M : List Addr} {H0 H : Hp} {dk lf p : Addr} {o : HO} (s : Sn M H0 H dk lf) (h0 : H0 p = none) (n : p ∉ [dk, lf]) : Sn M H0 (upd H p o) dk lf :=
  ⟨s.d.put_other (fun z => n (by simp [z])) (fun z => n (by simp [z])), s.k.mut h0, s.i⟩
theorem joinL_one : ∀ ds : List Nat, TL.joinL [] (ds.map fun d => [d]) = ds
  | [] => rfl
  | [d] => rfl
  | d :: e :: r => by
    have ih := joinL_one (e :: r)
    show [d] ++ ([] ++ TL.joinL [] ((e :: r).map fun d => [d])) = _
    rw [ih]; rfl
theorem join1 (ds : List Nat) : (Txt.join (Str.ofString "") (ds.map fun d => (⟨#[d]⟩ : Str))).cps.toList = ds := by
  rw [TL.join_eq]
  show TL.tl (Str.join _ _) = ds
  rw [TL.tl_join]
  have e1 : TL.tl (Str.ofString "") = [] := by decide +kernel
  have e2 : (ds.map fun d => (⟨#[d]⟩ : Str)).map TL.tl = ds.map fun d => [d] := by
    rw [List.map_map]; rfl
  rw [e1, e2, joinL_one]
theorem word_make {c : Nat} {ds : List Nat} (first others : Str) (hc : c ∈ first.cps.toList) (hd : ∀ d ∈ ds, d ∈ others.cps.toList) (hl : ds.length ≤ 11) :
    wordOf first others ((⟨#[c]⟩ : Str) ++ Txt.join (Str.ofString "") (ds.map fun d => (⟨#[d]⟩ : Str))) = true := by
  have e : ((⟨#[c]⟩ : Str) ++ Txt.join (Str.ofString "") (ds.map fun d => (⟨#[d]⟩ : Str))).cps.toList = c :: ds := by
    rw [Str.cps_append, Array.toList_append, join1]; rfl
  unfold wordOf
  rw [e]
  simp only [Bool.and_eq_true, decide_eq_true_eq, List.all_eq_true]
  exact ⟨⟨hc, hd⟩, hl⟩
theorem word_len {first others x : Str} (h : wordOf first others x = true) : 1 ≤ x.length ∧ x.length ≤ 12 := by
  unfold wordOf at h
  have e := str_len x
  cases q : x.cps.toList with
  | nil => rw [q] at h; cases h
  | cons c r =>
    rw [q] at h e
    simp only [Bool.and_eq_true, decide_eq_true_eq] at h
    rw [List.length_cons] at e
    omega
def namesW : List Str := ["a", "x", "y", "q", "put", "rest", "x1", "defs", "cases", "lets", "iff", "delays", "forced", "abcdefghijkl", "int", "name", "call", "make", "op", "of", "cell", "value"]
theorem namesW_ok : namesW.all (wordOf lowS alnS) = true := by decide +kernel
theorem Kp.three {dk lf u : Addr} {H H' : Hp} (k : Kp [dk, lf] H H') : Kp [dk, lf, u] H H' := k.more fun b hb => by
  rcases List.mem_cons.mp hb with rfl | hb
  · simp
  · rcases List.mem_cons.mp hb with rfl | hb
    · simp
    · cases hb

abbrev rAddT : R2 := fun x y H Q => ∃ i j, x = V.str i ∧ y = V.str j ∧ i.length + j.length ≤ sizeLine ∧ Q (V.str (i ++ j)) H
abbrev rStrI : List V → Hp → VK → Prop := fun xs H Q => ∃ i : Int, xs = [V.int i] ∧ i.natAbs.log2 < 1920 ∧ Q (V.str (Str.ofString (toString i))) H
theorem set_in {σ : St1} {i : Nat} {x : Option V} (h : i < σ.length) : (σ.set i x)[i]? = some x := List.getElem?_set_self h
theorem not_contains {us : List Str} {x : Str} : (!us.contains x) = true → us.contains x = false := by
  cases us.contains x <;> simp
/-- [s for s in [p + str(at) for at in range(n)] if s not in used][0] -/
theorem spare_ok {K : PySem.W.Frag} {σ : St1} {i j n : Nat} {u : Addr} {p : Str} {us : List Str} {H : Hp} {Q : VK} (hi : i < σ.length) (hj : j < σ.length) (h1 : σ[1]? = some (some (.ref u))) (n1 : j ≠ 1) (hu : H u = some (.lst (us.map V.str)))
    (hn : n ≤ 500) (nd : (spares p n).Nodup) (hl : us.length < n) (pl : ∀ m : Nat, m < n → p.length + (Str.ofString (toString ((m : Nat) : Int))).length ≤ sizeLine)
    (k : ∀ (H' : Hp) (z : Str), z ∈ spares p n → us.contains z = false → Kp [] H H' → Q (.str z) H') :
    tOp (rIxL K) (tLc (iList K (tLc (iRng1 (tCons (tC (V.int (n : Int))) tNil)) (gName i) tYes (tOp rAddT (tC (V.str p)) (tCB rStrI (tCons (tVar i) tNil))) [i])) (gName j) (tTest (tOp (rIn K true) (tVar j) (tVar 1))) (tVar j) [j]) (tC (V.int 0)) σ H Q := by
  refine ⟨(n : Int), rfl, by omega, by omega, fun D hD => ?_⟩
  have nuD : u ≠ D := ne_of_none hu hD
  refine lc_range (lo := 0) (n := (n : Int).toNat) (fun m H' => H' = upd H D (.lst ((spares p m).map V.str))) rfl ?_ ?_
  · rintro m H' hm rfl
    refine ⟨by show ((σ.set i none).set i _).set i none = σ.set i none; rw [List.set_set, List.set_set], yesI ?_⟩
    refine ⟨_, set_in (by rw [wipe_length]; exact hi), (0 : Int) + (m : Int), rfl, ?_, _, _, rfl, rfl, ?_, _, upd_same, ?_, ?_⟩
    · have z : ((0 : Int) + (m : Int)).natAbs < 2 ^ 10 := by omega
      by_cases h0 : ((0 : Int) + (m : Int)).natAbs = 0
      · rw [h0]; decide
      · have := (Nat.log2_lt h0).mpr z
        omega
    · rw [Int.zero_add]; exact pl m (by omega)
    · rw [List.length_map, spares_len]; exact small1000 (by omega)
    · rw [upd_upd, Int.zero_add]
      congr 2
      unfold spares
      rw [List.range_succ, List.map_append, List.map_append]; rfl
  · rintro H' rfl
    rw [Int.toNat_natCast]
    have kD : Kp [] H (upd H D (.lst ((spares p n).map V.str))) := Kp.new hD
    have hu2 : (upd H D (.lst ((spares p n).map V.str))) u = some (.lst (us.map V.str)) := by rw [upd_ne nuD]; exact hu
    have eD : (upd H D (.lst ((spares p n).map V.str))) D = some (.lst ((spares p n).map V.str)) := upd_same
    generalize upd H D (.lst ((spares p n).map V.str)) = H2 at kD hu2 eD
    refine ⟨D, rfl, ⟨_, SqL.of eD⟩, fun L hL => ?_⟩
    have nDL : D ≠ L := ne_of_none eD hL
    have nuL : u ≠ L := ne_of_none hu2 hL
    refine lc_list (K := K) (a := D) (xs := (spares p n).map V.str) (fun m H' => H' = upd H2 L (.lst ((((spares p n).take m).filter fun s => !us.contains s).map V.str))) rfl ?_ ?_ ?_
    · rintro m H' _ rfl
      exact SqL.of (by rw [upd_ne nDL]; exact eD)
    · rintro m y H' hm rfl
      obtain ⟨s, hs, rfl⟩ := map_at hm
      have hml : m < n := by
        have := (List.getElem?_eq_some_iff.mp hs).1
        rw [spares_len] at this; exact this
      have e : ((spares p n).take (m + 1)) = (spares p n).take m ++ [s] := by rw [List.take_add_one, hs]; rfl
      refine ⟨by show ((σ.set j none).set j _).set j none = σ.set j none; rw [List.set_set, List.set_set], ?_⟩
      refine ⟨_, set_in (by rw [wipe_length]; exact hj), _, ?_, u, _, rfl, .inl (SqL.of (by rw [upd_ne nuL]; exact hu2)), rfl, flat_strs us, _, rfl, ?_⟩
      · rw [List.getElem?_set_ne n1]
        show (σ.set j none)[1]? = _
        rw [List.getElem?_set_ne n1]; exact h1
      · rw [inV_strs, if_pos rfl]
        refine ite2 (fun hc => ?_) (fun hc => ?_)
        · refine ⟨_, set_in (by rw [wipe_length]; exact hj), _, upd_same, ?_, ?_⟩
          · rw [List.length_map]
            have := List.length_filter_le (fun s => !us.contains s) ((spares p n).take m)
            rw [List.length_take, spares_len] at this
            exact small1000 (by omega)
          · rw [upd_upd, e, List.filter_append, List.map_append]
            congr 3
            rw [List.filter_cons_of_pos (p := fun s => !us.contains s) hc]; rfl
        · rw [e, List.filter_append, List.filter_cons_of_neg (p := fun s => !us.contains s) hc, List.filter_nil, List.append_nil]
    · rintro H' rfl
      rw [List.length_map]
      have et : (spares p n).take (spares p n).length = spares p n := List.take_length
      rw [et]
      have kL : Kp [] H2 (upd H2 L (.lst (((spares p n).filter fun s => !us.contains s).map V.str))) := Kp.new hL
      have eL : (upd H2 L (.lst (((spares p n).filter fun s => !us.contains s).map V.str))) L = some (.lst (((spares p n).filter fun s => !us.contains s).map V.str)) := upd_same
      generalize upd H2 L (.lst (((spares p n).filter fun s => !us.contains s).map V.str)) = H3 at kL eL
      have ne := spare_there nd (us := us) (by rw [spares_len]; exact hl)
      cases hf : (spares p n).filter fun s => !us.contains s with
      | nil => exact absurd hf ne
      | cons z r =>
        rw [hf] at eL
        have mz : z ∈ (spares p n).filter fun s => !us.contains s := by rw [hf]; exact List.mem_cons_self
        obtain ⟨m1, m2⟩ := List.mem_filter.mp mz
        exact ⟨L, _, 0, .str z, rfl, rfl, SqL.of eL, atI_nat (j := 0) rfl, k H3 z m1 (not_contains m2) (kD.trans kL)⟩

def spName : Sp := fun vs H Q _ => ∃ (dk lf u : Addr) (us : List Str), vs = [.ref dk, .ref u] ∧ Dk H dk lf ∧ u ∉ [dk, lf] ∧ H u = some (.lst (us.map V.str)) ∧ us.length ≤ 80 ∧
  ∀ (H' : Hp) (x : Str), nameOk x = true → us.contains x = false → H' u = some (.lst ((us ++ [x]).map V.str)) → Dk H' dk lf → Kp [dk, lf, u] H H' → Q (.str x) H'
section
variable {P : Program} {w : World} {K : PySem.W.Frag} {mg : Str → Option Value} {base : Heap}
theorem scName : FnScope ["deck", "used", "words", "way", "name", "letters", "signs", "go", "spare", "at"] ["deck", "used"] (defScope sName) := ⟨rfl, rfl, rfl, by decide +kernel, rfl, by decide +kernel, by decide +kernel⟩
theorem okName {f g g2 : Addr} {fd gd gd2 : FuncData} (F : Fun K "_law_name" "_law_name" sName f fd) (T : Blt mg) (Ddraw : Df P w K mg base "_law_draw" 1 g gd ["deck", "many"] spDraw)
    (Dpick : Df P w K mg base "_law_pick" 2 g2 gd2 ["deck", "some"] (spPick K)) : FnOk P w K mg base CX0 3 f fd ["deck", "used"] spName := by
  refine F.ok scName (fun vs H Q E h => ?_) (fun cdv A outer s H vs Q E hr h => ?_)
  · obtain ⟨_, _, _, _, rfl, _⟩ := h
    rfl
  · obtain ⟨dk, lf, u, us, rfl, D, hu2, hus, hul, k⟩ := h
    have hu := hu_of hr
    refine ⟨_, (pss_cons (ps_set (i := 2) scName.nd rfl (Or.inl rfl) (pe_lst (pa_cons pe_str (pa_cons pe_str (pa_cons pe_str (pa_cons pe_str (pa_cons pe_str (pa_cons pe_str (pa_cons pe_str (pa_cons pe_str (pa_cons pe_str (pa_cons pe_str (pa_cons pe_str (pa_cons pe_str (pa_cons pe_str (pa_cons pe_str pa_nil))))))))))))))))
      (pss_cons (ps_set (i := 2) scName.nd rfl (Or.inl rfl) (pe_op op_cat (pv 2) (pe_lst (pa_cons pe_str (pa_cons pe_str (pa_cons pe_str (pa_cons pe_str (pa_cons pe_str (pa_cons pe_str (pa_cons pe_str (pa_cons pe_str pa_nil)))))))))))
      (pss_cons (ps_set (i := 3) scName.nd rfl (Or.inl rfl) (pe_call Ddraw.ok (hr.mono (by decide)) (by rfl) Ddraw.m Ddraw.k Ddraw.b .nil pass0 (pa_cons (pv 0) (pa_cons pe_int pa_nil))))
      (pss_cons (ps_set (i := 4) scName.nd rfl (Or.inl rfl) (pe_call Dpick.ok (hr.mono (by decide)) (by rfl) Dpick.m Dpick.k Dpick.b .nil pass0 (pa_cons (pv 0) (pa_cons (pv 2) pa_nil))))
      (Evl.pss_cut (ps_if (pt_cmpR op_eq (pv 3) pe_int (nomark _)) (pss_cons (ps_set (i := 5) scName.nd rfl (Or.inl rfl) pe_str)
        (pss_cons (ps_set (i := 6) scName.nd rfl (Or.inr rfl) (pe_op op_add_str (pv 5) pe_str))
        (pss_one (ps_set (i := 4) scName.nd rfl (Or.inl rfl) (pe_op op_add_str (pe_call Dpick.ok (hr.mono (by decide)) (by rfl) Dpick.m Dpick.k Dpick.b .nil pass0 (pa_cons (pv 0) (pa_cons (pv 5) pa_nil))) (pe_join pe_str (pe_lc (own := [("go", 7)]) (g := gName 7) (tt := tYes) rfl scName.nd (pi_range1 (by rfl) T.range (pa_cons (pe_call Ddraw.ok (hr.mono (by decide)) (by rfl) Ddraw.m Ddraw.k Ddraw.b .nil pass0 (pa_cons (pv 0) (pa_cons pe_int pa_nil))) pa_nil)) (blkOk_by (N := ["deck", "used", "words", "way", "name", "letters", "signs", "go", "spare", "at"]) (sc := defScope sName) (by decide +kernel)) (fun _ _ _ _ _ => pg_name (i := 7) scName.nd rfl (Or.inl rfl)) (fun _ _ _ _ _ => pts_nil) (fun _ _ _ _ _ => (pe_call Dpick.ok (hr.mono (by decide)) (by rfl) Dpick.m Dpick.k Dpick.b .nil pass0 (pa_cons (pv 0) (pa_cons (pv 6) pa_nil))))))))))) pss_nil)
      (Evl.pss_cut (ps_if (PW.pt (pw_or (pt_cmpR op_in_seq (pv 4) (pv 1) (by rfl)) (pw_or1 (pt_cmpR op_in_seq (pv 4) (pe_tup (pa_cons pe_str (pa_cons pe_str (pa_cons pe_str (pa_cons pe_str (pa_cons pe_str (pa_cons pe_str pa_nil))))))) (by rfl))))) (pss_one (ps_set (i := 4) scName.nd rfl (Or.inl rfl) (pe_ix ix_list (pe_lc (own := [("spare", 8)]) (g := gName 8) (tt := tTest (tOp (rIn K true) (tVar 8) (tVar 1))) rfl scName.nd (pi_list (pe_lc (own := [("at", 9)]) (g := gName 9) (tt := tYes) rfl scName.nd (pi_range1 (by rfl) T.range (pa_cons pe_int pa_nil)) (blkOk_by (N := ["deck", "used", "words", "way", "name", "letters", "signs", "go", "spare", "at"]) (sc := defScope sName) (by decide +kernel)) (fun _ _ _ _ _ => pg_name (i := 9) scName.nd rfl (Or.inl rfl)) (fun _ _ _ _ _ => pts_nil) (fun _ _ _ _ _ => (pe_op op_add_str pe_str (pe_callTy call_str_int (by rfl) T.str (by decide +kernel) (pa_cons (pv 9) pa_nil)))))) (blkOk_by (N := ["deck", "used", "words", "way", "name", "letters", "signs", "go", "spare", "at"]) (sc := defScope sName) (by decide +kernel)) (fun _ _ _ _ _ => pg_name (i := 8) scName.nd rfl (Or.inl rfl)) (fun _ _ _ _ _ => (pts_one (pt_cmpR op_notIn_seq (pv 8) (pv 1) (by rfl)))) (fun _ _ _ _ _ => (pv 8))) pe_int (fun _ _ => rfl)))) pss_nil)
      (pss_cons (ps_expr (pe_bm PySem.F.plainAttrs_list PySem.F.slot_list_append PySem.F.type_list_append mt_append (pv 1) (pa_cons (pv 4) pa_nil)))
      (pss_one (ps_ret (pv 4)))))))))), ?_⟩
    have s0 := Sn.start3 (u := u) D
    -- words
    refine ⟨by decide, fun p1 h1 => ?_⟩
    generalize hG : upd H p1 _ = H1
    obtain ⟨e1, s1, x1⟩ := s0.stp h1 hG
    clear hG
    refine ⟨_, rfl, by decide, fun p2 h2 => ?_⟩
    generalize hG : upd H1 p2 _ = H2
    obtain ⟨e2, s2, x2⟩ := s1.stp h2 hG
    clear hG
    refine ⟨p1, p2, _, _, rfl, rfl, x2.at e1, e2, by decide, fun p3 h3 => ?_⟩
    generalize hG : upd H2 p3 _ = H3
    obtain ⟨e3, s3, x3⟩ := s2.stp h3 hG
    clear hG
    have n3 : p3 ∉ [dk, lf] := s2.d.mem h3
    have hus3 := x3.at (x2.at (x1.at hus))
    have e3 : H3 p3 = some (.lst (namesW.map V.str)) := e3
    clear e1 e2 x1 x2 x3 h1 h2 h3 hus s0 s1 s2
    -- way, name
    refine ⟨_, rfl, dk, lf, 3, rfl, s3.d, by decide, by decide, fun H4 way D4 K4 _ _ => ?_⟩
    have s4 := s3.call D4 K4
    have hus4 := K4 _ _ hus3 hu2
    have e4 := K4 _ _ e3 n3
    refine ⟨_, rfl, _, rfl, dk, lf, _, _, rfl, s4.d, .inl ⟨p3, rfl, .inl (SqL.of e4), n3⟩, by decide, by decide, fun H5 xv hx D5 K5 => ?_⟩
    obtain ⟨x, hxw, rfl⟩ := str_map_at hx
    have s5 := s4.call D5 K5
    have hus5 := K5 _ _ hus4 hu2
    have wx : wordOf lowS alnS x = true := List.all_eq_true.mp namesW_ok x hxw
    clear hx hxw e4 hus4 s4 D4 K4 D5 K5
    -- if way == 0
    refine ⟨fun σ H' => ∃ (y : Str) (c5 c6 : Option V), σ = [some (.ref dk), some (.ref u), some (.ref p3), some (.int way), some (.str y), c5, c6, none, none, none] ∧ wordOf lowS alnS y = true ∧ Sn [dk, lf, u] H H' dk lf ∧ H' u = some (.lst (us.map V.str)), ?_, ?_⟩
    · refine ⟨_, rfl, rfl, _, rfl, ite2 (fun _ => ?_) (fun _ => ⟨x, none, none, rfl, wx, s5, hus5⟩)⟩
      refine ⟨_, rfl, _, _, rfl, rfl, by decide, _, rfl, _, rfl, dk, lf, _, _, rfl, s5.d, .inr ⟨_, rfl, rfl⟩, by decide +kernel, by decide +kernel, fun H6 c hc D6 K6 => ?_⟩
      obtain ⟨cc, hcc, rfl⟩ := List.mem_map.mp hc
      have s6 := s5.call D6 K6
      have hus6 := K6 _ _ hus5 hu2
      refine ⟨⟨_, rfl⟩, _, rfl, dk, lf, 12, rfl, D6, by decide, by decide, fun H7 i D7 K7 i0 i12 => ?_⟩
      have s7 := s6.call D7 K7
      have hus7 := K7 _ _ hus6 hu2
      refine ⟨i, rfl, by omega, by omega, fun L hL => ?_⟩
      have nL := s7.d.mem hL
      have nL3 := s7.out3 hus7 hL
      have hL0 := s7.k.back nL3 hL
      have nuL : u ≠ L := fun z => nL3 (by simp [z])
      refine lc_range (lo := 0) (n := i.toNat) (fun j H' => ∃ ds : List Nat, ds.length = j ∧ (∀ d ∈ ds, d ∈ alnS.cps.toList) ∧ H' L = some (.lst (ds.map fun d => V.str ⟨#[d]⟩)) ∧ Sn [dk, lf, u] H H' dk lf ∧ H' u = some (.lst (us.map V.str)))
        ⟨[], rfl, (fun _ h => nomatch h), upd_same, s7.mut hL0 nL, by rw [upd_ne nuL]; exact hus7⟩ ?_ ?_
      · rintro j H' hj ⟨ds, dl, dm, eL, s', hu'⟩
        refine ⟨rfl, yesI ?_⟩
        refine ⟨_, rfl, _, rfl, dk, lf, _, _, rfl, s'.d, .inr ⟨_, rfl, rfl⟩, by decide +kernel, by decide +kernel, fun H9 y hy D9 K9 => ?_⟩
        obtain ⟨yy, hyy, rfl⟩ := List.mem_map.mp hy
        have s9 := s'.call D9 K9
        refine ⟨_, K9 _ _ eL nL, by rw [List.length_map]; exact small1000 (by omega), ds ++ [yy], by simp [dl], ?_, by rw [upd_same]; simp, s9.mut hL0 nL, by rw [upd_ne nuL]; exact K9 _ _ hu' hu2⟩
        intro d hd
        rcases List.mem_append.mp hd with hd | hd
        · exact dm d hd
        · rw [List.mem_singleton.mp hd]; exact hyy
      · rintro H' ⟨ds, dl, dm, eL, s', hu'⟩
        have em : (ds.map fun d => V.str ⟨#[d]⟩) = (ds.map fun d => (⟨#[d]⟩ : Str)).map V.str := by rw [List.map_map]; rfl
        rw [em] at eL
        have ls : ((ds.map fun d => (⟨#[d]⟩ : Str)).map (·.length)).sum = ds.length := by
          rw [List.map_map]
          clear em eL dm dl
          induction ds with
          | nil => rfl
          | cons a r ih => rw [List.map_cons, List.sum_cons, ih, List.length_cons]; show 1 + r.length = r.length + 1; omega
        have dl11 : ds.length ≤ 11 := by omega
        have wm := word_make lowS alnS hcc dm dl11
        have wl := word_len wm
        rw [Str.length_append] at wl
        refine ⟨_, L, _, rfl, rfl, .inl (SqL.of eL), by rw [ls, List.length_map, show (Str.ofString "").length = 0 from by decide +kernel]; omega, _, _, rfl, rfl, ?_, ?_⟩
        · exact big1000 (by omega)
        · exact ⟨_, _, _, rfl, wm, s', hu'⟩
    · rintro σ H6 ⟨y, c5, c6, rfl, wy, s6, hus6⟩
      clear s5 hus5 wx
      -- if name in used or name in (..)
      refine ⟨fun σ H' => ∃ (z : Str) (c5 c6 : Option V), σ = [some (.ref dk), some (.ref u), some (.ref p3), some (.int way), some (.str z), c5, c6, none, none, none] ∧ nameOk z = true ∧ us.contains z = false ∧ Sn [dk, lf, u] H H' dk lf ∧ H' u = some (.lst (us.map V.str)), ?_, ?_⟩
      · have big : ∀ m : Nat, m < 200 → (Str.ofString "v").length + (Str.ofString (toString ((m : Nat) : Int))).length ≤ sizeLine := by decide +kernel
        refine ⟨_, rfl, _, rfl, u, _, rfl, .inl (SqL.of hus6), rfl, flat_strs us, _, rfl, ?_⟩
        rw [inV_strs]
        cases hc : us.contains y with
        | true =>
          refine iteT ?_
          refine iteT ?_
          refine spare_ok (K := K) (i := 9) (j := 8) (n := 200) (p := "v") (u := u) (us := us) (by show 9 < 10; decide) (by show 8 < 10; decide) rfl (by decide) hus6 (by decide) sparesV_nd (by omega) big fun H8 z hz nz k8 => ?_
          exact ⟨z, _, _, rfl, List.all_eq_true.mp sparesV_ok z hz, nz, s6.ext k8, k8.at hus6⟩
        | false =>
          refine iteF ?_
          refine ⟨_, rfl, by decide, fun p4 h4 => ?_⟩
          generalize hG : upd H6 p4 _ = H7
          obtain ⟨e4, s7, x4⟩ := s6.stp h4 hG
          clear hG
          have e4 : H7 p4 = some (.tup (resv.map V.str)) := e4
          refine ⟨p4, _, rfl, .inr (SqT.of e4), rfl, flat_strs resv, _, rfl, ?_⟩
          rw [inV_strs]
          cases hr : resv.contains y with
          | true =>
            refine iteT ?_
            refine spare_ok (K := K) (i := 9) (j := 8) (n := 200) (p := "v") (u := u) (us := us) (by show 9 < 10; decide) (by show 8 < 10; decide) rfl (by decide) (x4.at hus6) (by decide) sparesV_nd (by omega) big fun H8 z hz nz k8 => ?_
            exact ⟨z, _, _, rfl, List.all_eq_true.mp sparesV_ok z hz, nz, s7.ext k8, k8.at (x4.at hus6)⟩
          | false =>
            refine iteF ?_
            exact ⟨y, c5, c6, rfl, by unfold nameOk; rw [wy, hr]; rfl, hc, s7, x4.at hus6⟩
      · rintro σ H7 ⟨z, c5, c6, rfl, oz, nz, s7, hus7⟩
        refine ⟨_, rfl, Or.inl ⟨rfl, _, SqL.of hus7⟩, _, rfl, u, _, _, rfl, rfl, hus7, by rw [List.length_map]; exact small1000 (by omega), ?_⟩
        have e : us.map V.str ++ [V.str z] = (us ++ [z]).map V.str := by simp
        rw [e]
        exact ⟨_, rfl, k _ z oz nz upd_same (s7.d.put_other (fun q => hu2 (by simp [q])) (fun q => hu2 (by simp [q]))) (s7.k.trans (Kp.put (by simp)))⟩
end
end Dh
end

/-! Q10hT -/
section
set_option Elab.async false
set_option linter.all false
set_option maxRecDepth 100000
set_option maxHeartbeats 4000000
namespace Dh
open PySem PySem.Spec PyProof.Rows L2

def tagsW : List Str := ["N", "C", "Q", "Box", "Def", "Case", "T1", "IF", "Abcdefghijkl", "Z9z", "GHJKLM", "OPRSUVWXY", "E2345678mnoq"]
theorem tagsW_ok : tagsW.all tagOk = true := by decide +kernel
def spTag : Sp := fun vs H Q _ => ∃ (dk lf u : Addr) (us : List Str), vs = [.ref dk, .ref u] ∧ Dk H dk lf ∧ u ∉ [dk, lf] ∧ H u = some (.lst (us.map V.str)) ∧ us.length ≤ 80 ∧
  ∀ (H' : Hp) (x : Str), tagOk x = true → us.contains x = false → H' u = some (.lst ((us ++ [x]).map V.str)) → Dk H' dk lf → Kp [dk, lf, u] H H' → Q (.str x) H'
section
variable {P : Program} {w : World} {K : PySem.W.Frag} {mg : Str → Option Value} {base : Heap}
theorem scTag : FnScope ["deck", "used", "name", "spare", "at"] ["deck", "used"] (defScope sTag) := ⟨rfl, rfl, rfl, by decide +kernel, rfl, by decide +kernel, by decide +kernel⟩
theorem okTag {f g2 : Addr} {fd gd2 : FuncData} (F : Fun K "_law_tag" "_law_tag" sTag f fd) (T : Blt mg)
    (Dpick : Df P w K mg base "_law_pick" 2 g2 gd2 ["deck", "some"] (spPick K)) : FnOk P w K mg base CX0 3 f fd ["deck", "used"] spTag := by
  refine F.ok scTag (fun vs H Q E h => ?_) (fun cdv A outer s H vs Q E hr h => ?_)
  · obtain ⟨_, _, _, _, rfl, _⟩ := h
    rfl
  · obtain ⟨dk, lf, u, us, rfl, D, hu2, hus, hul, k⟩ := h
    refine ⟨_, (pss_cons (ps_set (i := 2) scTag.nd rfl (Or.inl rfl) (pe_call Dpick.ok (hr.mono (by decide)) (by rfl) Dpick.m Dpick.k Dpick.b .nil pass0 (pa_cons (pv 0) (pa_cons (pe_lst (pa_cons pe_str (pa_cons pe_str (pa_cons pe_str (pa_cons pe_str (pa_cons pe_str (pa_cons pe_str (pa_cons pe_str (pa_cons pe_str (pa_cons pe_str (pa_cons pe_str (pa_cons pe_str (pa_cons pe_str (pa_cons pe_str pa_nil)))))))))))))) pa_nil))))
      (Evl.pss_cut (ps_if (pt_cmpR op_in_seq (pv 2) (pv 1) (by rfl)) (pss_one (ps_set (i := 2) scTag.nd rfl (Or.inl rfl) (pe_ix ix_list (pe_lc (own := [("spare", 3)]) (g := gName 3) (tt := tTest (tOp (rIn K true) (tVar 3) (tVar 1))) rfl scTag.nd (pi_list (pe_lc (own := [("at", 4)]) (g := gName 4) (tt := tYes) rfl scTag.nd (pi_range1 (by rfl) T.range (pa_cons pe_int pa_nil)) (blkOk_by (N := ["deck", "used", "name", "spare", "at"]) (sc := defScope sTag) (by decide +kernel)) (fun _ _ _ _ _ => pg_name (i := 4) scTag.nd rfl (Or.inl rfl)) (fun _ _ _ _ _ => pts_nil) (fun _ _ _ _ _ => (pe_op op_add_str pe_str (pe_callTy call_str_int (by rfl) T.str (by decide +kernel) (pa_cons (pv 4) pa_nil)))))) (blkOk_by (N := ["deck", "used", "name", "spare", "at"]) (sc := defScope sTag) (by decide +kernel)) (fun _ _ _ _ _ => pg_name (i := 3) scTag.nd rfl (Or.inl rfl)) (fun _ _ _ _ _ => (pts_one (pt_cmpR op_notIn_seq (pv 3) (pv 1) (by rfl)))) (fun _ _ _ _ _ => (pv 3))) pe_int (fun _ _ => rfl)))) pss_nil)
      (pss_cons (ps_expr (pe_bm PySem.F.plainAttrs_list PySem.F.slot_list_append PySem.F.type_list_append mt_append (pv 1) (pa_cons (pv 2) pa_nil)))
      (pss_one (ps_ret (pv 2)))))), ?_⟩
    have s0 := Sn.start3 (u := u) D
    refine ⟨_, rfl, by decide, fun p1 h1 => ?_⟩
    generalize hG : upd H p1 _ = H1
    obtain ⟨e1, s1, x1⟩ := s0.stp h1 hG
    clear hG
    have e1 : H1 p1 = some (.lst (tagsW.map V.str)) := e1
    refine ⟨dk, lf, _, _, rfl, s1.d, .inl ⟨p1, rfl, .inl (SqL.of e1), s0.d.mem h1⟩, by decide, by decide, fun H5 xv hx D5 K5 => ?_⟩
    obtain ⟨x, hxw, rfl⟩ := str_map_at hx
    have s6 := s1.call D5 K5
    have hus6 := K5 _ _ (x1.at hus) hu2
    have wx : tagOk x = true := List.all_eq_true.mp tagsW_ok x hxw
    have big : ∀ m : Nat, m < 90 → (Str.ofString "T").length + (Str.ofString (toString ((m : Nat) : Int))).length ≤ sizeLine := by decide +kernel
    -- if name in used
    refine ⟨fun σ H' => ∃ (z : Str), σ = [some (.ref dk), some (.ref u), some (.str z), none, none] ∧ tagOk z = true ∧ us.contains z = false ∧ Sn [dk, lf, u] H H' dk lf ∧ H' u = some (.lst (us.map V.str)), ?_, ?_⟩
    · refine ⟨_, rfl, _, rfl, u, _, rfl, .inl (SqL.of hus6), rfl, flat_strs us, _, rfl, ?_⟩
      rw [inV_strs]
      cases hc : us.contains x with
      | true =>
        refine iteT ?_
        refine spare_ok (K := K) (i := 4) (j := 3) (n := 90) (p := "T") (u := u) (us := us) (by show 4 < 5; decide) (by show 3 < 5; decide) rfl (by decide) hus6 (by decide) sparesT_nd (by omega) big fun H8 z hz nz k8 => ?_
        exact ⟨z, rfl, List.all_eq_true.mp sparesT_ok z hz, nz, s6.ext k8, k8.at hus6⟩
      | false =>
        refine iteF ?_
        exact ⟨x, rfl, wx, hc, s6, hus6⟩
    · rintro σ H7 ⟨z, rfl, oz, nz, s7, hus7⟩
      refine ⟨_, rfl, Or.inl ⟨rfl, _, SqL.of hus7⟩, _, rfl, u, _, _, rfl, rfl, hus7, by rw [List.length_map]; exact small1000 (by omega), ?_⟩
      have e : us.map V.str ++ [V.str z] = (us ++ [z]).map V.str := by simp
      rw [e]
      exact ⟨_, rfl, k _ z oz nz upd_same (s7.d.put_other (fun q => hu2 (by simp [q])) (fun q => hu2 (by simp [q]))) (s7.k.trans (Kp.put (by simp)))⟩
end
end Dh
end

/-! Q10hL -/
section
set_option Elab.async false
set_option linter.all false
set_option maxRecDepth 100000
set_option maxHeartbeats 4000000
namespace Dh
open PySem PySem.Spec PyProof.Rows L2

/-! ### texts of plain signs -/
def low (x : Str) : Prop := ∀ c ∈ x.cps.toList, c < 128
theorem low_strOk {x : Str} (h : low x) : PyData.strOk x = true := by
  unfold PyData.strOk
  rw [← Array.all_toList, List.all_eq_true]
  intro c hc
  have := h c hc
  exact decide_eq_true (by omega)
theorem word_low {first others x : Str} (hf : low first) (ho : low others) (h : wordOf first others x = true) : low x := by
  intro c hc
  unfold wordOf at h
  cases q : x.cps.toList with
  | nil => rw [q] at hc; cases hc
  | cons a r =>
    rw [q] at h hc
    simp only [Bool.and_eq_true, decide_eq_true_eq, List.all_eq_true] at h
    rcases List.mem_cons.mp hc with rfl | hc
    · exact hf _ h.1.1
    · exact ho _ (h.1.2 _ hc)
theorem low_of {x : Str} (h : x.cps.toList.all (fun c => decide (c < 128)) = true) : low x := fun c hc => by
  have := List.all_eq_true.mp h c hc
  simpa using this
theorem low_lowS : low lowS := low_of (by decide +kernel)
theorem low_alnS : low alnS := low_of (by decide +kernel)
theorem low_uppS : low uppS := low_of (by decide +kernel)
theorem low_bothS : low bothS := low_of (by decide +kernel)
theorem nameOk_word {x : Str} (h : nameOk x = true) : wordOf lowS alnS x = true := (Bool.and_eq_true_iff.mp h).1
theorem nameOk_low {x : Str} (h : nameOk x = true) : low x := word_low low_lowS low_alnS (nameOk_word h)
theorem tagOk_low {x : Str} (h : tagOk x = true) : low x := word_low low_uppS low_bothS h
theorem lay_strs : ∀ {us : List Str}, (∀ x ∈ us, low x) → PyData.canLayAll0 (us.map PyData.str) = true ∧ PyData.depthAll (us.map PyData.str) = 0
  | [], _ => ⟨by simp [PyData.canLayAll0], by simp [PyData.depthAll]⟩
  | x :: r, h => by
    obtain ⟨a, b⟩ := lay_strs (us := r) fun y hy => h y (List.mem_cons_of_mem _ hy)
    have c := low_strOk (h x List.mem_cons_self)
    exact ⟨by simp [PyData.canLayAll0, PyData.canLay0, a, c], by simp [PyData.depthAll, PyData.depth, b]⟩
theorem shaped_tstrs {us : List Str} (h : ∀ x ∈ us, low x) : SeqAt.shaped (.tuple (us.map PyData.str)) = true := by
  obtain ⟨a, b⟩ := lay_strs h
  simp [SeqAt.shaped, PyData.canLay0, PyData.depth, a, b]
theorem dp_strs {K : PySem.W.Frag} {H : Hp} : ∀ us : List Str, DpAll K H (us.map V.str) (us.map PyData.str)
  | [] => .nil
  | x :: r => .cons (.str x) (dp_strs r)
theorem eqv_tnil (us : List PyData) : PyData.eqv (.tuple us) (.tuple []) = us.isEmpty := by
  cases us <;> simp [PyData.eqv, PyData.eqvAll]

/-! ### tuples beside the deck -/
theorem Dk.tup {H : Hp} {dk lf a : Addr} {xs : List V} (D : Dk H dk lf) (h : H a = some (.tup xs)) : a ∉ [dk, lf] := by
  obtain ⟨kvs, h1, _⟩ := D.d
  obtain ⟨ls, h2, _⟩ := D.l
  intro z
  rcases List.mem_cons.mp z with rfl | z
  · rw [h1] at h; cases h
  · rcases List.mem_cons.mp z with rfl | z
    · rw [h2] at h; cases h
    · cases z
theorem AtL.mem {K : PySem.W.Frag} {M : List Addr} {H : Hp} : ∀ {vs : List V} {ds : List PyData}, AtL K M H vs ds → ∀ {v : V}, v ∈ vs → ∃ d, d ∈ ds ∧ At K M H v d
  | _, _, .cons h r, v, hv => by
    rcases List.mem_cons.mp hv with rfl | hv
    · exact ⟨_, List.mem_cons_self, h⟩
    · obtain ⟨d, hd, q⟩ := AtL.mem r hv
      exact ⟨d, List.mem_cons_of_mem _ hd, q⟩
theorem AtL.strs_inv {K : PySem.W.Frag} {M : List Addr} {H : Hp} : ∀ {us : List Str} {vs : List V}, AtL K M H vs (us.map PyData.str) → vs = us.map V.str
  | [], _, .nil => rfl
  | x :: r, _, .cons (.str _) h => by rw [AtL.strs_inv h]; rfl

/-! ### leaves -/
def isLeaf (sc : List Str) (d : PyData) : Prop := (∃ x, x ∈ sc ∧ d = .tuple [.str "name", .str x]) ∨ ∃ i : Int, i.natAbs ≤ 999999999999 ∧ d = .tuple [.str "int", .int i]
def leafV (sc : List Str) (xs : List V) : Prop := (∃ x, x ∈ sc ∧ xs = [.str "name", .str x]) ∨ ∃ i : Int, i.natAbs ≤ 999999999999 ∧ xs = [.str "int", .int i]
def intsL : List Int := [0, 1, -1, 7, 10, -30, 999999999999, -999999999999, 4, 2, 86, 35, -968]
theorem intsL_ok : ∀ i ∈ intsL, i.natAbs ≤ 999999999999 := by decide
def spLeaf (K : PySem.W.Frag) : Sp := fun vs H Q _ => ∃ (dk lf sa : Addr) (sc : List Str), vs = [.ref dk, .ref sa] ∧ Dk H dk lf ∧ H sa = some (.tup (sc.map V.str)) ∧ (∀ x ∈ sc, low x) ∧ sc.length ≤ 1000 ∧
  ∀ (H' : Hp) (t : Addr) (xs : List V), leafV sc xs → H' t = some (.tup xs) → Dk H' dk lf → Kp [dk, lf] H H' → Q (.ref t) H'
section
variable {P : Program} {w : World} {K : PySem.W.Frag} {mg : Str → Option Value} {base : Heap}
theorem scLeaf : FnScope ["deck", "scope"] ["deck", "scope"] (defScope sLeaf) := ⟨rfl, rfl, rfl, by decide +kernel, rfl, by decide +kernel, by decide +kernel⟩
theorem okLeaf {f g g2 : Addr} {fd gd gd2 : FuncData} (F : Fun K "_law_leaf" "_law_leaf" sLeaf f fd) (T : Blt mg) (Ddraw : Df P w K mg base "_law_draw" 1 g gd ["deck", "many"] spDraw)
    (Dpick : Df P w K mg base "_law_pick" 2 g2 gd2 ["deck", "some"] (spPick K)) : FnOk P w K mg base CX0 3 f fd ["deck", "scope"] (spLeaf K) := by
  refine F.ok scLeaf (fun vs H Q E h => ?_) (fun cdv A outer s H vs Q E hr h => ?_)
  · obtain ⟨_, _, _, _, rfl, _⟩ := h
    rfl
  · obtain ⟨dk, lf, sa, sc, rfl, D, hsa, hlow, hlen, k⟩ := h
    refine ⟨_, (pss_cons (ps_if (PW.pt (pw_and (pt_cmpR (op_neD hr.units) (pv 1) (pe_tup pa_nil) (nomark _)) (pw_and1 (pt_cmpR op_gt (pe_call Ddraw.ok (hr.mono (by decide)) (by rfl) Ddraw.m Ddraw.k Ddraw.b .nil pass0 (pa_cons (pv 0) (pa_cons pe_int pa_nil))) pe_int (nomark _))))) (pss_one (ps_ret (pe_tup (pa_cons pe_str (pa_cons (pe_call Dpick.ok (hr.mono (by decide)) (by rfl) Dpick.m Dpick.k Dpick.b .nil pass0 (pa_cons (pv 0) (pa_cons (pv 1) pa_nil))) pa_nil))))) pss_nil)
      (pss_one (ps_ret (pe_tup (pa_cons pe_str (pa_cons (pe_call Dpick.ok (hr.mono (by decide)) (by rfl) Dpick.m Dpick.k Dpick.b .nil pass0 (pa_cons (pv 0) (pa_cons (pe_tup (pa_cons pe_int (pa_cons pe_int (pa_cons (pe_un un_neg pe_int) (pa_cons pe_int (pa_cons pe_int (pa_cons (pe_un un_neg pe_int) (pa_cons pe_int (pa_cons (pe_un un_neg pe_int) (pa_cons pe_int (pa_cons pe_int (pa_cons pe_int (pa_cons pe_int (pa_cons (pe_un un_neg pe_int) pa_nil)))))))))))))) pa_nil))) pa_nil)))))), ?_⟩
    have s0 := Sn.start D
    have nsa := D.tup hsa
    -- the last row: an int
    have last : ∀ H1, Sn [dk, lf] H H1 dk lf → ∀ (p2 : Addr) (H2 : Hp), H1 p2 = none → H2 p2 = some (.tup (intsL.map V.int)) → Sn [dk, lf] H H2 dk lf →
        (spPick K) [.ref dk, .ref p2] H2 (fun x H3 => [V.str "int", x].length ≤ sizeLine ∧ ∀ p, H3 p = none → Q (.ref p) (upd H3 p (.tup [.str "int", x]))) E0 := by
      intro H1 s1 p2 H2 f2 e2 s2
      refine ⟨dk, lf, _, _, rfl, s2.d, .inl ⟨p2, rfl, .inr (SqT.of e2), s2.d.tup e2⟩, by decide, by decide, fun H3 x hx D3 K3 => ⟨by show 2 ≤ sizeLine; decide, fun p hp => ?_⟩⟩
      obtain ⟨i, hi, rfl⟩ := List.mem_map.mp hx
      have s3 := s2.call D3 K3
      obtain ⟨e4, s4, x4⟩ := s3.stp hp rfl
      exact k _ p _ (.inr ⟨i, intsL_ok i hi, rfl⟩) e4 s4.d s4.k
    -- if scope != () ..
    refine ⟨_, rfl, by decide, fun p1 h1 => ?_⟩
    generalize hG : upd H p1 _ = H1
    obtain ⟨e1, s1, x1⟩ := s0.stp h1 hG
    clear hG
    refine ⟨.tuple (sc.map PyData.str), .tuple [], .tup (SqT.of (x1.at hsa)) (dp_strs sc), .tup (SqT.of e1) .nil, shaped_tstrs hlow, by decide, _, rfl, ?_⟩
    rw [eqv_tnil]
    cases hsc : (sc.map PyData.str).isEmpty with
    | true =>
      refine iteF ?_
      refine iteF ?_
      refine ⟨_, rfl, _, rfl, _, rfl, _, rfl, _, rfl, by show 13 ≤ sizeLine; decide, fun p2 h2 => ?_⟩
      obtain ⟨e2, s2, x2⟩ := s1.stp h2 rfl
      exact last _ s1 p2 _ h2 e2 s2
    | false =>
      refine iteT ?_
      have ne : sc ≠ [] := by
        intro z; rw [z] at hsc; simp at hsc
      refine ⟨_, rfl, dk, lf, 3, rfl, s1.d, by decide, by decide, fun H2 i D2 K2 i0 i3 => ⟨_, _, rfl, rfl, _, rfl, ?_⟩⟩
      have s2 := s1.call D2 K2
      have hsa2 := K2 _ _ (x1.at hsa) nsa
      refine ite2 (fun _ => ?_) (fun _ => ?_)
      · refine ⟨_, rfl, _, rfl, dk, lf, _, _, rfl, D2, .inl ⟨sa, rfl, .inr (SqT.of hsa2), nsa⟩, by intro z; exact ne (List.map_eq_nil_iff.mp z), by rw [List.length_map]; exact hlen, fun H3 x hx D3 K3 => ⟨by show 2 ≤ sizeLine; decide, fun p hp => ?_⟩⟩
        obtain ⟨y, hy, rfl⟩ := str_map_at hx
        have s3 := s2.call D3 K3
        obtain ⟨e4, s4, x4⟩ := s3.stp hp rfl
        exact k _ p _ (.inl ⟨y, hy, rfl⟩) e4 s4.d s4.k
      · refine ⟨_, rfl, _, rfl, _, rfl, _, rfl, _, rfl, by show 13 ≤ sizeLine; decide, fun p2 h2 => ?_⟩
        obtain ⟨e3, s3, x3⟩ := s2.stp h2 rfl
        exact last _ s2 p2 _ h2 e3 s3
end
end Dh
end

/-! Q10hE0 -/
section
set_option Elab.async false
set_option linter.all false
set_option maxRecDepth 100000
set_option maxHeartbeats 4000000
namespace Dh
open PySem PySem.Spec PyProof.Rows L2

/-! ### data of tuples alone: they never change -/
mutual
inductive Tp (H : Hp) : V → PyData → Prop
  | non : Tp H .non .none
  | bl (b : Bool) : Tp H (.bl b) (.bool b)
  | int (i : Int) : Tp H (.int i) (.int i)
  | str (x : Str) : Tp H (.str x) (.str x)
  | tup {a : Addr} {xs : List V} {ds : List PyData} : H a = some (.tup xs) → TpL H xs ds → Tp H (.ref a) (.tuple ds)
inductive TpL (H : Hp) : List V → List PyData → Prop
  | nil : TpL H [] []
  | cons {v : V} {vs : List V} {d : PyData} {ds : List PyData} : Tp H v d → TpL H vs ds → TpL H (v :: vs) (d :: ds)
end
/-- tuples stand -/
def TT (H H' : Hp) : Prop := ∀ a xs, H a = some (.tup xs) → H' a = some (.tup xs)
theorem TT.refl (H : Hp) : TT H H := fun _ _ h => h
theorem TT.trans {H H1 H2 : Hp} (a : TT H H1) (b : TT H1 H2) : TT H H2 := fun c xs h => b c xs (a c xs h)
theorem TT.ext {H H' : Hp} (k : Kp [] H H') : TT H H' := fun a xs h => k a _ h (by simp)
theorem TT.put {H : Hp} {D : Addr} {ys : List V} {o : HO} (h : H D = some (.lst ys)) : TT H (upd H D o) := fun a xs e => by
  rw [upd_ne (ne_of e h (by intro z; cases z))]; exact e
theorem TT.deck {H H' : Hp} {dk lf : Addr} (k : Kp [dk, lf] H H') (D : Dk H dk lf) : TT H H' := fun a xs e => k a _ e (D.tup e)
theorem TT.deck3 {H H' : Hp} {dk lf u : Addr} {xs : List V} (k : Kp [dk, lf, u] H H') (D : Dk H dk lf) (hu : H u = some (.lst xs)) : TT H H' := fun a ys e => k a _ e (by
  have h := D.tup e
  intro z
  rcases List.mem_cons.mp z with rfl | z
  · simp at h
  · rcases List.mem_cons.mp z with rfl | z
    · simp at h
    · rcases List.mem_cons.mp z with rfl | z
      · rw [hu] at e; cases e
      · cases z)
section
variable {H H' : Hp}
mutual
theorem Tp.tt (k : TT H H') : ∀ (d : PyData) {v : V}, Tp H v d → Tp H' v d
  | .none, _, h => by cases h; exact .non
  | .bool b, _, h => by cases h; exact .bl b
  | .int i, _, h => by cases h; exact .int i
  | .str x, _, h => by cases h; exact .str x
  | .tuple ds, _, h => by
    cases h with
    | tup h1 h3 => exact .tup (k _ _ h1) (TpL.tt k ds h3)
theorem TpL.tt (k : TT H H') : ∀ (ds : List PyData) {vs : List V}, TpL H vs ds → TpL H' vs ds
  | [], _, h => by cases h; exact .nil
  | d :: ds, _, h => by
    cases h with
    | cons h1 h2 => exact .cons (Tp.tt k d h1) (TpL.tt k ds h2)
end
variable {K : PySem.W.Frag} {M : List Addr}
mutual
theorem Tp.at (n : ∀ a xs, H a = some (.tup xs) → a ∉ M) : ∀ (d : PyData) {v : V}, Tp H v d → At K M H v d
  | .none, _, h => by cases h; exact .non
  | .bool b, _, h => by cases h; exact .bl b
  | .int i, _, h => by cases h; exact .int i
  | .str x, _, h => by cases h; exact .str x
  | .tuple ds, _, h => by
    cases h with
    | tup h1 h3 => exact .tup (SqT.of h1) (n _ _ h1) (TpL.at n ds h3)
theorem TpL.at (n : ∀ a xs, H a = some (.tup xs) → a ∉ M) : ∀ (ds : List PyData) {vs : List V}, TpL H vs ds → AtL K M H vs ds
  | [], _, h => by cases h; exact .nil
  | d :: ds, _, h => by
    cases h with
    | cons h1 h2 => exact .cons (Tp.at n d h1) (TpL.at n ds h2)
end
theorem TpL.mem : ∀ {vs : List V} {ds : List PyData}, TpL H vs ds → ∀ {v : V}, v ∈ vs → ∃ d, d ∈ ds ∧ Tp H v d
  | _, _, .cons h r, v, hv => by
    rcases List.mem_cons.mp hv with rfl | hv
    · exact ⟨_, List.mem_cons_self, h⟩
    · obtain ⟨d, hd, q⟩ := TpL.mem r hv
      exact ⟨d, List.mem_cons_of_mem _ hd, q⟩
theorem TpL.length : ∀ {vs : List V} {ds : List PyData}, TpL H vs ds → vs.length = ds.length
  | _, _, .nil => rfl
  | _, _, .cons _ h => by simp [TpL.length h]
theorem TpL.append : ∀ {vs ws : List V} {ds es : List PyData}, TpL H vs ds → TpL H ws es → TpL H (vs ++ ws) (ds ++ es)
  | _, _, _, _, .nil, h => h
  | _, _, _, _, .cons a b, h => .cons a (TpL.append b h)
theorem TpL.strs : ∀ (xs : List Str), TpL H (xs.map V.str) (xs.map PyData.str)
  | [] => .nil
  | x :: r => .cons (.str x) (TpL.strs r)
theorem TpL.snoc {vs : List V} {ds : List PyData} {v : V} {d : PyData} (a : TpL H vs ds) (b : Tp H v d) : TpL H (vs ++ [v]) (ds ++ [d]) := a.append (.cons b .nil)
end

/-! ### signs: functions, tags, names -/
structure Sg where
  fs : List (Str × Nat)
  ts : List (Str × Nat)
  loc : List Str
def prD (p : Str × Nat) : PyData := .tuple [.str p.1, .int (p.2 : Int)]
structure SgOk (S : Sg) : Prop where
  f1 : S.fs ≠ []
  f2 : S.fs.length ≤ 50
  f3 : ∀ p ∈ S.fs, p.2 ≤ 3
  t1 : S.ts ≠ []
  t2 : S.ts.length ≤ 50
  t3 : ∀ p ∈ S.ts, p.2 ≤ 3
  l1 : 3 ≤ S.loc.length
  l2 : S.loc.length ≤ 50
  l3 : ∀ x ∈ S.loc, nameOk x = true
  l4 : S.loc.Nodup
  f4 : ∀ p ∈ S.fs, nameOk p.1 = true
  t4 : ∀ p ∈ S.ts, tagOk p.1 = true
  t5 : (S.ts.map (·.1)).Nodup
structure SgAt (H : Hp) (dk lf sg a1 a2 a3 : Addr) (x1 x2 : List V) (S : Sg) : Prop where
  t : H sg = some (.tup [.ref a1, .ref a2, .ref a3])
  l1 : H a1 = some (.lst x1)
  n1 : a1 ∉ [dk, lf]
  p1 : TpL H x1 (S.fs.map prD)
  l2 : H a2 = some (.lst x2)
  n2 : a2 ∉ [dk, lf]
  p2 : TpL H x2 (S.ts.map prD)
  l3 : H a3 = some (.lst (S.loc.map V.str))
  n3 : a3 ∉ [dk, lf]
section
variable {H H' : Hp} {dk lf sg a1 a2 a3 : Addr} {x1 x2 : List V} {S : Sg}
theorem SgAt.kp (s : SgAt H dk lf sg a1 a2 a3 x1 x2 S) (k : Kp [dk, lf] H H') (D : Dk H dk lf) : SgAt H' dk lf sg a1 a2 a3 x1 x2 S :=
  ⟨TT.deck k D _ _ s.t, k _ _ s.l1 s.n1, s.n1, TpL.tt (TT.deck k D) _ s.p1, k _ _ s.l2 s.n2, s.n2, TpL.tt (TT.deck k D) _ s.p2, k _ _ s.l3 s.n3, s.n3⟩
theorem SgAt.ext (s : SgAt H dk lf sg a1 a2 a3 x1 x2 S) (k : Kp [] H H') : SgAt H' dk lf sg a1 a2 a3 x1 x2 S :=
  ⟨k.at s.t, k.at s.l1, s.n1, TpL.tt (TT.ext k) _ s.p1, k.at s.l2, s.n2, TpL.tt (TT.ext k) _ s.p2, k.at s.l3, s.n3⟩
theorem SgAt.put {D : Addr} {ys : List V} {o : HO} (s : SgAt H dk lf sg a1 a2 a3 x1 x2 S) (h : H D = some (.lst ys)) (m1 : a1 ≠ D) (m2 : a2 ≠ D) (m3 : a3 ≠ D) : SgAt (upd H D o) dk lf sg a1 a2 a3 x1 x2 S :=
  ⟨TT.put h _ _ s.t, by rw [upd_ne m1]; exact s.l1, s.n1, TpL.tt (TT.put h) _ s.p1, by rw [upd_ne m2]; exact s.l2, s.n2, TpL.tt (TT.put h) _ s.p2, by rw [upd_ne m3]; exact s.l3, s.n3⟩
end
/-- where the body of an expression stands -/
structure Bn (H0 H : Hp) (dk lf sg a1 a2 a3 : Addr) (x1 x2 : List V) (S : Sg) (sa : Addr) (sc : List Str) : Prop where
  s : Sn [dk, lf] H0 H dk lf
  g0 : SgAt H0 dk lf sg a1 a2 a3 x1 x2 S
  g : SgAt H dk lf sg a1 a2 a3 x1 x2 S
  a : H sa = some (.tup (sc.map V.str))
section
variable {H0 H H' : Hp} {dk lf sg a1 a2 a3 sa p D : Addr} {x1 x2 : List V} {S : Sg} {sc : List Str} {o : HO} {ys : List V}
theorem Bn.new (b : Bn H0 H dk lf sg a1 a2 a3 x1 x2 S sa sc) (hp : H p = none) (e : upd H p o = H') : H' p = some o ∧ Bn H0 H' dk lf sg a1 a2 a3 x1 x2 S sa sc ∧ Kp [] H H' := by
  obtain ⟨h1, h2, h3⟩ := b.s.stp hp e
  exact ⟨h1, ⟨h2, b.g0, b.g.ext h3, h3.at b.a⟩, h3⟩
theorem Bn.call (b : Bn H0 H dk lf sg a1 a2 a3 x1 x2 S sa sc) (D' : Dk H' dk lf) (k : Kp [dk, lf] H H') : Bn H0 H' dk lf sg a1 a2 a3 x1 x2 S sa sc :=
  ⟨b.s.call D' k, b.g0, b.g.kp k b.s.d, TT.deck k b.s.d _ _ b.a⟩
theorem Bn.tt (b : Bn H0 H dk lf sg a1 a2 a3 x1 x2 S sa sc) (k : Kp [dk, lf] H H') : TT H H' := TT.deck k b.s.d
/-- a list of this body's own is written -/
theorem Bn.put (b : Bn H0 H dk lf sg a1 a2 a3 x1 x2 S sa sc) (h0 : H0 D = none) (n : D ∉ [dk, lf]) (h : H D = some (.lst ys)) : Bn H0 (upd H D o) dk lf sg a1 a2 a3 x1 x2 S sa sc :=
  ⟨b.s.mut h0 n, b.g0, b.g.put h (ne_of_none b.g0.l1 h0) (ne_of_none b.g0.l2 h0) (ne_of_none b.g0.l3 h0), TT.put h _ _ b.a⟩
theorem Bn.free (b : Bn H0 H dk lf sg a1 a2 a3 x1 x2 S sa sc) (hp : H p = none) : H0 p = none ∧ p ∉ [dk, lf] := ⟨b.s.k.free b.s.d hp, b.s.d.mem hp⟩
end

/-! ### expressions that are made of them -/
def brD (b : Str × List Str × PyData) : PyData := .tuple [.str b.1, .tuple (b.2.1.map PyData.str), b.2.2]
inductive GE (S : Sg) : Nat → List Str → PyData → Prop
  | leaf {n : Nat} {sc : List Str} {d : PyData} : isLeaf sc d → GE S n sc d
  | call {n : Nat} {sc : List Str} {f : Str} {k : Nat} {ds : List PyData} : (f, k) ∈ S.fs → ds.length = k → (∀ d ∈ ds, GE S n sc d) → GE S (n + 1) sc (.tuple [.str "call", .str f, .tuple ds])
  | make {n : Nat} {sc : List Str} {f : Str} {k : Nat} {ds : List PyData} : (f, k) ∈ S.ts → ds.length = k → (∀ d ∈ ds, GE S n sc d) → GE S (n + 1) sc (.tuple [.str "make", .str f, .tuple ds])
  | case {n : Nat} {sc : List Str} {e : PyData} {bs : List (Str × List Str × PyData)} : GE S n sc e → bs ≠ [] → bs.length ≤ 3 → (bs.map (·.1)).Nodup → (∀ b ∈ bs, (b.1, b.2.1.length) ∈ S.ts) → (∀ b ∈ bs, b.2.1.Nodup ∧ ∀ x ∈ b.2.1, x ∈ S.loc) →
      (∀ b ∈ bs, GE S n (sc ++ b.2.1) b.2.2) → GE S (n + 1) sc (.tuple [.str "case", e, .tuple (bs.map brD)])
  | «let» {n : Nat} {sc : List Str} {x : Str} {e b : PyData} : x ∈ S.loc → GE S n sc e → GE S n (sc ++ [x]) b → GE S (n + 1) sc (.tuple [.str "let", .str x, e, b])
  | «if» {n : Nat} {sc : List Str} {o : Str} {ds : List PyData} : (o = "<" ∨ o = "=") → ds.length = 4 → (∀ d ∈ ds, GE S n sc d) → GE S (n + 1) sc (.tuple (.str "if" :: .str o :: ds))
  | op {n : Nat} {sc : List Str} {o : Str} {ds : List PyData} : (o = "+" ∨ o = "-" ∨ o = "*") → ds.length = 2 → (∀ d ∈ ds, GE S n sc d) → GE S (n + 1) sc (.tuple (.str "op" :: .str o :: ds))
  | one {n : Nat} {sc : List Str} {o : Str} {e : PyData} : (o = "delay" ∨ o = "force") → GE S n sc e → GE S (n + 1) sc (.tuple [.str o, e])
end Dh
end

/-! Q10hE -/
section
set_option Elab.async false
set_option linter.all false
set_option maxRecDepth 100000
set_option maxHeartbeats 4000000
namespace Dh
open PySem PySem.Spec PyProof.Rows L2

theorem perm_pairs {H : Hp} : ∀ {ys xs : List V}, ys.Perm xs → ∀ {l : List (Str × Nat)}, TpL H xs (l.map prD) → ∃ qs : List (Str × Nat), qs.Perm l ∧ TpL H ys (qs.map prD) := by
  intro ys xs h
  induction h with
  | nil =>
    intro l a
    cases l with
    | nil => exact ⟨[], .refl _, .nil⟩
    | cons p r => cases a
  | cons y _ ih =>
    intro l a
    cases l with
    | nil => cases a
    | cons p r =>
      cases a with
      | cons a1 a2 =>
        obtain ⟨qs, h1, h2⟩ := ih a2
        exact ⟨p :: qs, h1.cons p, .cons a1 h2⟩
  | swap y z r =>
    intro l a
    cases l with
    | nil => cases a
    | cons p l =>
      cases l with
      | nil => cases a with | cons _ b => cases b
      | cons q l =>
        cases a with
        | cons a1 a2 =>
          cases a2 with
          | cons a2 a3 => exact ⟨q :: p :: l, .swap p q l, .cons a2 (.cons a1 a3)⟩
  | trans _ _ ih1 ih2 =>
    intro l a
    obtain ⟨qs, h1, h2⟩ := ih2 a
    obtain ⟨rs, h3, h4⟩ := ih1 h2
    exact ⟨rs, h3.trans h1, h4⟩
theorem perm_strs : ∀ {ys xs : List V}, ys.Perm xs → ∀ {l : List Str}, xs = l.map V.str → ∃ qs : List Str, qs.Perm l ∧ ys = qs.map V.str := by
  intro ys xs h l e
  subst e
  have hm : ∀ y ∈ ys, ∃ s, y = V.str s := fun y hy => by
    obtain ⟨s, _, rfl⟩ := List.mem_map.mp (h.mem_iff.mp hy)
    exact ⟨s, rfl⟩
  have un : ∀ zs : List V, (∀ y ∈ zs, ∃ s, y = V.str s) → ∃ qs : List Str, zs = qs.map V.str := by
    intro zs
    induction zs with
    | nil => intro _; exact ⟨[], rfl⟩
    | cons z r ih =>
      intro hz
      obtain ⟨s, rfl⟩ := hz z List.mem_cons_self
      obtain ⟨qs, rfl⟩ := ih fun y hy => hz y (List.mem_cons_of_mem _ hy)
      exact ⟨s :: qs, rfl⟩
  obtain ⟨qs, rfl⟩ := un ys hm
  let g : V → Str := fun v => match v with | .str s => s | _ => Str.ofString ""
  have gi : ∀ us : List Str, (us.map V.str).map g = us := fun us => by
    rw [List.map_map]
    exact (List.map_congr_left fun _ _ => rfl).trans (List.map_id _)
  have h2 := h.map g
  rw [gi, gi] at h2
  exact ⟨qs, h2, rfl⟩
theorem cut_to (xs : List V) (k : Nat) : cutV xs none (some (k : Int)) = xs.take k := by
  unfold cutV
  rw [HT.sIx_none, HT.sIx_nat, List.drop_zero, Nat.sub_zero]
  rw [List.take_eq_take_iff]
  omega
theorem TpL.take {H : Hp} : ∀ (n : Nat) {vs : List V} {ds : List PyData}, TpL H vs ds → TpL H (vs.take n) (ds.take n)
  | 0, _, _, _ => by simp; exact .nil
  | n + 1, _, _, .nil => .nil
  | n + 1, _, _, .cons a b => .cons a (TpL.take n b)
theorem TpL.get {H : Hp} : ∀ {vs : List V} {ds : List PyData}, TpL H vs ds → ∀ {i : Nat} {v : V}, vs[i]? = some v → ∃ d, ds[i]? = some d ∧ Tp H v d
  | _, _, .nil, _, _, e => by simp at e
  | _, _, .cons h _, 0, _, e => by
    simp at e; subst e
    exact ⟨_, rfl, h⟩
  | _, _, .cons _ h, i + 1, v, e => by
    obtain ⟨d, h1, h2⟩ := TpL.get h (i := i) (v := v) (by simpa using e)
    exact ⟨d, by simpa using h1, h2⟩
theorem pair_open {H : Hp} {v : V} {p : Str × Nat} (h : Tp H v (prD p)) : ∃ t, v = .ref t ∧ H t = some (.tup [.str p.1, .int (p.2 : Int)]) := by
  cases h with
  | tup h1 h2 =>
    cases h2 with
    | cons a b =>
      cases a
      cases b with
      | cons a b =>
        cases a
        cases b
        exact ⟨_, rfl, h1⟩
theorem leaf_tp {H : Hp} {a : Addr} {sc : List Str} {xs : List V} (l : leafV sc xs) (e : H a = some (.tup xs)) : ∃ d, isLeaf sc d ∧ Tp H (.ref a) d := by
  rcases l with ⟨x, hx, rfl⟩ | ⟨i, hi, rfl⟩
  · exact ⟨_, .inl ⟨x, hx, rfl⟩, .tup e (.cons (.str _) (.cons (.str _) .nil))⟩
  · exact ⟨_, .inr ⟨i, hi, rfl⟩, .tup e (.cons (.str _) (.cons (.int _) .nil))⟩
theorem catA_ok {K : PySem.W.Frag} {H : Hp} {a b : Addr} {xs ys : List V} {Q : VK} (h1 : H a = some (.tup xs)) (h2 : H b = some (.tup ys)) (hl : xs.length + ys.length ≤ sizeLine) (k : ∀ (c : Addr) (H' : Hp), H' c = some (.tup (xs ++ ys)) → (H' = H ∨ (H c = none ∧ upd H c (.tup (xs ++ ys)) = H')) → Q (.ref c) H') :
    rCatA K (.ref a) (.ref b) H Q := by
  refine ⟨a, b, xs, ys, rfl, rfl, SqT.of h1, SqT.of h2, hl, fun e => ?_, fun _ e => ?_, fun _ _ c hc => ?_⟩
  · subst e; exact k b H h2 (.inl rfl)
  · subst e; exact k a H (by rw [List.append_nil]; exact h1) (.inl rfl)
  · exact k c _ upd_same (.inr ⟨hc, rfl⟩)
def spExpr (n : Nat) : Sp := fun vs H Q _ => ∃ (dk lf sg sa a1 a2 a3 : Addr) (x1 x2 : List V) (S : Sg) (sc : List Str), vs = [.ref dk, .ref sg, .ref sa, .int (n : Int)] ∧ Dk H dk lf ∧ SgOk S ∧ SgAt H dk lf sg a1 a2 a3 x1 x2 S ∧
  H sa = some (.tup (sc.map V.str)) ∧ (∀ x ∈ sc, low x) ∧ sc.length + 3 * n ≤ 900 ∧
  ∀ (H' : Hp) (v : V) (d : PyData), GE S n sc d → Tp H' v d → Dk H' dk lf → Kp [dk, lf] H H' → Q v H'
def spLt (n : Nat) : Sp := fun vs H Q E => ∃ m, m < n ∧ spExpr m vs H Q E

section
variable {P : Program} {w : World} {K : PySem.W.Frag} {mg : Str → Option Value} {base : Heap}
abbrev namesE : List Str := ["deck", "signs", "scope", "deep", "functions", "tags", "local", "way", "f", "many", "tag", "e", "branches", "names", "x", "parts", "go"]
theorem scExpr : FnScope namesE ["deck", "signs", "scope", "deep"] (defScope sExpr) := ⟨rfl, rfl, rfl, by decide +kernel, rfl, by decide +kernel, by decide +kernel⟩
/-- what [_law_expression(deck, signs, scope, deep - 1) for go in ..] has made at L behind i turns -/
def PvE (H0 : Hp) (dk lf sg a1 a2 a3 : Addr) (x1 x2 : List V) (S : Sg) (sa : Addr) (sc : List Str) (m : Nat) (L : Addr) (i : Nat) (H : Hp) : Prop :=
  ∃ (vs : List V) (ds : List PyData), ds.length = i ∧ (∀ d ∈ ds, GE S m sc d) ∧ H L = some (.lst vs) ∧ TpL H vs ds ∧ Bn H0 H dk lf sg a1 a2 a3 x1 x2 S sa sc
theorem exprs_turn {n m i : Nat} {σ : St1} {H0 H : Hp} {D dk lf sg sa a1 a2 a3 : Addr} {x1 x2 : List V} {S : Sg} {sc : List Str}
    (e0 : σ[0]? = some (some (.ref dk))) (e1 : σ[1]? = some (some (.ref sg))) (e2 : σ[2]? = some (some (.ref sa))) (e3 : σ[3]? = some (some (.int ((m + 1 : Nat) : Int)))) (hm : m < n)
    (ok : SgOk S) (hlow : ∀ x ∈ sc, low x) (hlen : sc.length + 3 * (m + 1) ≤ 900) (hD0 : H0 D = none) (nD : D ∉ [dk, lf]) (hi : i ≤ 900) (p : PvE H0 dk lf sg a1 a2 a3 x1 x2 S sa sc m D i H) (x : V) (R : Hp → Prop) :
    gName 16 x (wipe σ [16]) H fun σ2 H2 => wipe σ2 [16] = wipe σ [16] ∧ tYes σ2 H2 fun b H3 => if b = true then
      (tCall (spLt n) [] E0 (tCons (tVar 0) (tCons (tVar 1) (tCons (tVar 2) (tCons (tOp (rI0 fun i j => .int (i - j)) (tVar 3) (tC (.int 1))) tNil))))) σ2 H3 fun y H4 => ∃ acc, H4 D = some (.lst acc) ∧ acc.length < sizeLine ∧
        PvE H0 dk lf sg a1 a2 a3 x1 x2 S sa sc m D (i + 1) (upd H4 D (.lst (acc ++ [y]))) else R H3 := by
  obtain ⟨vs, ds, dl, dm, eD, tp, b⟩ := p
  have ne : ∀ j, j ≠ 16 → ((σ.set 16 none).set 16 (some x))[j]? = σ[j]? := fun j hj => by
    rw [List.getElem?_set_ne (Ne.symm hj), List.getElem?_set_ne (Ne.symm hj)]
  refine ⟨by show ((σ.set 16 none).set 16 _).set 16 none = σ.set 16 none; rw [List.set_set, List.set_set], yesI ?_⟩
  refine ⟨_, (ne 0 (by decide)).trans e0, _, (ne 1 (by decide)).trans e1, _, (ne 2 (by decide)).trans e2, _, (ne 3 (by decide)).trans e3, _, _, rfl, rfl, ?_⟩
  refine ⟨m, hm, dk, lf, sg, sa, a1, a2, a3, x1, x2, S, sc, ?_, b.s.d, ok, b.g, b.a, hlow, by omega, fun H' v d g t D' K' => ?_⟩
  · show [V.ref dk, V.ref sg, V.ref sa, V.int (((m + 1 : Nat) : Int) - 1)] = _
    rw [show ((m + 1 : Nat) : Int) - 1 = (m : Int) by omega]
  · have b' := b.call D' K'
    have eD' := K' _ _ eD nD
    have tt1 := b.tt K'
    have tt2 : TT H' (upd H' D (.lst (vs ++ [v]))) := TT.put eD'
    refine ⟨vs, eD', ?_, vs ++ [v], ds ++ [d], by simp [dl], ?_, upd_same, (TpL.tt (tt1.trans tt2) _ tp).snoc (Tp.tt tt2 _ t), b'.put hD0 nD eD'⟩
    · rw [tp.length]; exact small1000 (by omega)
    · intro e he
      rcases List.mem_append.mp he with he | he
      · exact dm e he
      · rw [List.mem_singleton.mp he]; exact g

set_option maxHeartbeats 16000000 in
theorem okStep {n : Nat} {f g g2 g3 g4 : Addr} {fd gd gd2 gd3 gd4 : FuncData} (F : Fun K "_law_expression" "_law_expression" sExpr f fd) (T : Blt mg) (Ddraw : Df P w K mg base "_law_draw" 1 g gd ["deck", "many"] spDraw)
    (Dpick : Df P w K mg base "_law_pick" 2 g2 gd2 ["deck", "some"] (spPick K)) (Dleaf : Df P w K mg base "_law_leaf" 3 g3 gd3 ["deck", "scope"] (spLeaf K)) (Dshuf : Df P w K mg base "_law_shuffled" 2 g4 gd4 ["deck", "some"] (spShuf K))
    (De : Df P w K mg base "_law_expression" (4 + n) f fd ["deck", "signs", "scope", "deep"] (spLt n)) : FnOk P w K mg base CX0 (4 + n + 1) f fd ["deck", "signs", "scope", "deep"] (spLt (n + 1)) := by
  refine F.ok scExpr (fun vs H Q E h => ?_) (fun cdv A outer s H vs Q E hr h => ?_)
  · obtain ⟨_, _, _, _, _, _, _, _, _, _, _, _, _, rfl, _⟩ := h
    rfl
  · obtain ⟨m, hmn, dk, lf, sg, sa, a1, a2, a3, x1, x2, S, sc, rfl, D, ok, G, hsa, hlow, hlen, k⟩ := h
    have hu := hu_of hr
    refine ⟨_, (pss_cons (ps_dput hu (pv 0) pe_str (pe_op op_sub (pe_dget hu (pv 0) pe_str (fun _ _ => rfl)) pe_int) rfl) 
    (pss_cons (ps_asg (pv 1) (pg_tup (by rfl) (pgs_cons (pg_name (i := 4) scExpr.nd rfl (Or.inl rfl)) (pgs_cons (pg_name (i := 5) scExpr.nd rfl (Or.inl rfl)) (pgs_cons (pg_name (i := 6) scExpr.nd rfl (Or.inl rfl)) pgs_nil))))) 
    (pss_cons (ps_set (i := 7) scExpr.nd rfl (Or.inl rfl) (pe_call Ddraw.ok (hr.mono (by omega)) (by rfl) Ddraw.m Ddraw.k Ddraw.b .nil pass0 (pa_cons (pv 0) (pa_cons pe_int pa_nil)))) 
    (pss_cons (ps_if (PW.pt (pw_or (pt_cmpR op_eq (pv 3) pe_int (nomark _)) (pw_or (pt_cmpR op_lt (pe_dget hu (pv 0) pe_str (fun _ _ => rfl)) pe_int (nomark _)) (pw_or1 (pt_cmpR op_lt (pv 7) pe_int (nomark _)))))) (pss_one (ps_ret (pe_call Dleaf.ok (hr.mono (by omega)) (by rfl) Dleaf.m Dleaf.k Dleaf.b .nil pass0 (pa_cons (pv 0) (pa_cons (pv 2) pa_nil))))) pss_nil) 
    (pss_cons (ps_if (pt_cmpR op_lt (pv 7) pe_int (nomark _)) (pss_cons (ps_asg (pe_call Dpick.ok (hr.mono (by omega)) (by rfl) Dpick.m Dpick.k Dpick.b .nil pass0 (pa_cons (pv 0) (pa_cons (pv 4) pa_nil))) (pg_tup (by rfl) (pgs_cons (pg_name (i := 8) scExpr.nd rfl (Or.inl rfl)) (pgs_cons (pg_name (i := 9) scExpr.nd rfl (Or.inl rfl)) pgs_nil)))) 
      (pss_one (ps_ret (pe_tup (pa_cons pe_str (pa_cons (pv 8) (pa_cons (pe_callTy call_tuple_of (by rfl) T.tuple (by decide +kernel) (pa_cons (pe_lc (own := [("go", 16)]) (g := gName 16) (tt := tYes) rfl scExpr.nd (pi_range1 (by rfl) T.range (pa_cons (pv 9) pa_nil)) (blkOk_by (N := ["deck", "signs", "scope", "deep", "functions", "tags", "local", "way", "f", "many", "tag", "e", "branches", "names", "x", "parts", "go"]) (sc := defScope sExpr) (by decide +kernel)) (fun _ _ _ _ _ => pg_name (i := 16) scExpr.nd rfl (Or.inl rfl)) (fun _ _ _ _ _ => pts_nil) (fun _ _ _ _ _ => (pe_call De.ok hr (by rfl) De.m De.k De.b .nil pass0 (pa_cons (pv 0) (pa_cons (pv 1) (pa_cons (pv 2) (pa_cons (pe_op op_sub (pv 3) pe_int) pa_nil))))))) pa_nil)) pa_nil))))))) pss_nil) 
    (pss_cons (ps_if (pt_cmpR op_lt (pv 7) pe_int (nomark _)) (pss_cons (ps_asg (pe_call Dpick.ok (hr.mono (by omega)) (by rfl) Dpick.m Dpick.k Dpick.b .nil pass0 (pa_cons (pv 0) (pa_cons (pv 5) pa_nil))) (pg_tup (by rfl) (pgs_cons (pg_name (i := 10) scExpr.nd rfl (Or.inl rfl)) (pgs_cons (pg_name (i := 9) scExpr.nd rfl (Or.inl rfl)) pgs_nil)))) 
      (pss_one (ps_ret (pe_tup (pa_cons pe_str (pa_cons (pv 10) (pa_cons (pe_callTy call_tuple_of (by rfl) T.tuple (by decide +kernel) (pa_cons (pe_lc (own := [("go", 16)]) (g := gName 16) (tt := tYes) rfl scExpr.nd (pi_range1 (by rfl) T.range (pa_cons (pv 9) pa_nil)) (blkOk_by (N := ["deck", "signs", "scope", "deep", "functions", "tags", "local", "way", "f", "many", "tag", "e", "branches", "names", "x", "parts", "go"]) (sc := defScope sExpr) (by decide +kernel)) (fun _ _ _ _ _ => pg_name (i := 16) scExpr.nd rfl (Or.inl rfl)) (fun _ _ _ _ _ => pts_nil) (fun _ _ _ _ _ => (pe_call De.ok hr (by rfl) De.m De.k De.b .nil pass0 (pa_cons (pv 0) (pa_cons (pv 1) (pa_cons (pv 2) (pa_cons (pe_op op_sub (pv 3) pe_int) pa_nil))))))) pa_nil)) pa_nil))))))) pss_nil) 
    (pss_cons (ps_if (pt_cmpR op_lt (pv 7) pe_int (nomark _)) (pss_cons (ps_par (i := 11) (j := 12) rfl scExpr.nd rfl rfl (by decide) rfl rfl (pa_cons (pe_call De.ok hr (by rfl) De.m De.k De.b .nil pass0 (pa_cons (pv 0) (pa_cons (pv 1) (pa_cons (pv 2) (pa_cons (pe_op op_sub (pv 3) pe_int) pa_nil))))) (pa_cons (pe_lst pa_nil) pa_nil)) (by rfl)) 
      (pss_cons (ps_for PassesOwn.never rfl (pi_list (pe_slice sl_list (pe_call Dshuf.ok (hr.mono (by omega)) (by rfl) Dshuf.m Dshuf.k Dshuf.b .nil pass0 (pa_cons (pv 0) (pa_cons (pv 5) pa_nil))) po_none (po_some (pe_op op_add pe_int (pe_call Ddraw.ok (hr.mono (by omega)) (by rfl) Ddraw.m Ddraw.k Ddraw.b .nil pass0 (pa_cons (pv 0) (pa_cons pe_int pa_nil))))))) (pg_tup (by rfl) (pgs_cons (pg_name (i := 10) scExpr.nd rfl (Or.inl rfl)) (pgs_cons (pg_name (i := 9) scExpr.nd rfl (Or.inl rfl)) pgs_nil)))
        (pss_cons (ps_set (i := 13) scExpr.nd rfl (Or.inl rfl) (pe_callTy call_tuple_of (by rfl) T.tuple (by decide +kernel) (pa_cons (pe_slice sl_list (pe_call Dshuf.ok (hr.mono (by omega)) (by rfl) Dshuf.m Dshuf.k Dshuf.b .nil pass0 (pa_cons (pv 0) (pa_cons (pv 6) pa_nil))) po_none (po_some (pv 9))) pa_nil))) 
        (pss_one (ps_expr (pe_bm PySem.F.plainAttrs_list PySem.F.slot_list_append PySem.F.type_list_append mt_append (pv 12) (pa_cons (pe_tup (pa_cons (pv 10) (pa_cons (pv 13) (pa_cons (pe_call De.ok hr (by rfl) De.m De.k De.b .nil pass0 (pa_cons (pv 0) (pa_cons (pv 1) (pa_cons (pe_op op_catA (pv 2) (pv 13)) (pa_cons (pe_op op_sub (pv 3) pe_int) pa_nil))))) pa_nil)))) pa_nil)))))) 
      (pss_one (ps_ret (pe_tup (pa_cons pe_str (pa_cons (pv 11) (pa_cons (pe_callTy call_tuple_of (by rfl) T.tuple (by decide +kernel) (pa_cons (pv 12) pa_nil)) pa_nil)))))))) pss_nil) 
    (pss_cons (ps_if (pt_cmpR op_eq (pv 7) pe_int (nomark _)) (pss_cons (ps_par (i := 14) (j := 11) rfl scExpr.nd rfl rfl (by decide) rfl rfl (pa_cons (pe_call Dpick.ok (hr.mono (by omega)) (by rfl) Dpick.m Dpick.k Dpick.b .nil pass0 (pa_cons (pv 0) (pa_cons (pv 6) pa_nil))) (pa_cons (pe_call De.ok hr (by rfl) De.m De.k De.b .nil pass0 (pa_cons (pv 0) (pa_cons (pv 1) (pa_cons (pv 2) (pa_cons (pe_op op_sub (pv 3) pe_int) pa_nil))))) pa_nil)) (by rfl)) 
      (pss_one (ps_ret (pe_tup (pa_cons pe_str (pa_cons (pv 14) (pa_cons (pv 11) (pa_cons (pe_call De.ok hr (by rfl) De.m De.k De.b .nil pass0 (pa_cons (pv 0) (pa_cons (pv 1) (pa_cons (pe_op op_catA (pv 2) (pe_tup (pa_cons (pv 14) pa_nil))) (pa_cons (pe_op op_sub (pv 3) pe_int) pa_nil))))) pa_nil)))))))) pss_nil) 
    (pss_cons (ps_if (pt_cmpR op_eq (pv 7) pe_int (nomark _)) (pss_cons (ps_setLc (i := 15) (own := [("go", 16)]) (g := gName 16) (tt := tYes) rfl scExpr.nd rfl rfl (sw_true rfl rfl rfl (by decide +kernel)) (pi_range1 (by rfl) T.range (pa_cons pe_int pa_nil)) (blkOk_by (N := ["deck", "signs", "scope", "deep", "functions", "tags", "local", "way", "f", "many", "tag", "e", "branches", "names", "x", "parts", "go"]) (sc := defScope sExpr) (by decide +kernel)) (fun _ _ _ _ _ => pg_name (i := 16) scExpr.nd rfl (Or.inl rfl)) (fun _ _ _ _ _ => pts_nil) (fun _ _ _ _ _ => (pe_call De.ok hr (by rfl) De.m De.k De.b .nil pass0 (pa_cons (pv 0) (pa_cons (pv 1) (pa_cons (pv 2) (pa_cons (pe_op op_sub (pv 3) pe_int) pa_nil))))))) 
      (pss_one (ps_ret (pe_op op_catA (pe_tup (pa_cons pe_str (pa_cons (pe_call Dpick.ok (hr.mono (by omega)) (by rfl) Dpick.m Dpick.k Dpick.b .nil pass0 (pa_cons (pv 0) (pa_cons pe_str pa_nil))) pa_nil))) (pe_callTy call_tuple_of (by rfl) T.tuple (by decide +kernel) (pa_cons (pv 15) pa_nil)))))) pss_nil) 
    (pss_cons (ps_if (pt_cmpR op_eq (pv 7) pe_int (nomark _)) (pss_cons (ps_setLc (i := 15) (own := [("go", 16)]) (g := gName 16) (tt := tYes) rfl scExpr.nd rfl rfl (sw_true rfl rfl rfl (by decide +kernel)) (pi_range1 (by rfl) T.range (pa_cons pe_int pa_nil)) (blkOk_by (N := ["deck", "signs", "scope", "deep", "functions", "tags", "local", "way", "f", "many", "tag", "e", "branches", "names", "x", "parts", "go"]) (sc := defScope sExpr) (by decide +kernel)) (fun _ _ _ _ _ => pg_name (i := 16) scExpr.nd rfl (Or.inl rfl)) (fun _ _ _ _ _ => pts_nil) (fun _ _ _ _ _ => (pe_call De.ok hr (by rfl) De.m De.k De.b .nil pass0 (pa_cons (pv 0) (pa_cons (pv 1) (pa_cons (pv 2) (pa_cons (pe_op op_sub (pv 3) pe_int) pa_nil))))))) 
      (pss_one (ps_ret (pe_op op_catA (pe_tup (pa_cons pe_str (pa_cons (pe_call Dpick.ok (hr.mono (by omega)) (by rfl) Dpick.m Dpick.k Dpick.b .nil pass0 (pa_cons (pv 0) (pa_cons pe_str pa_nil))) pa_nil))) (pe_callTy call_tuple_of (by rfl) T.tuple (by decide +kernel) (pa_cons (pv 15) pa_nil)))))) pss_nil) 
    (pss_one (ps_ret (pe_tup (pa_cons (pe_call Dpick.ok (hr.mono (by omega)) (by rfl) Dpick.m Dpick.k Dpick.b .nil pass0 (pa_cons (pv 0) (pa_cons (pe_tup (pa_cons pe_str (pa_cons pe_str pa_nil))) pa_nil))) (pa_cons (pe_call De.ok hr (by rfl) De.m De.k De.b .nil pass0 (pa_cons (pv 0) (pa_cons (pv 1) (pa_cons (pv 2) (pa_cons (pe_op op_sub (pv 3) pe_int) pa_nil))))) pa_nil))))))))))))))), ?_⟩
    have b0 : Bn H H dk lf sg a1 a2 a3 x1 x2 S sa sc := ⟨Sn.start D, G, G, hsa⟩
    have get : ∀ {H1 : Hp} {es : List (Key × V)} {kk : Key} {v : V}, H1 dk = some (.dK es) → valV es kk = some v → DGet H1 dk (kV kk) (some v) := fun {H1 es kk v} a b => b ▸ DGet.k a
    -- deck['fuel'] = deck['fuel'] - 1
    obtain ⟨kvs, d1, d2, d3, d4, d5, ⟨fu, d6⟩⟩ := id D.d
    refine ⟨_, rfl, dk, .int fu, rfl, get (kk := kFuel) d1 d6, _, _, rfl, rfl, _, rfl, dk, _, rfl, DPut.k (k := kFuel) d1 (small1000 (by omega)), ?_⟩
    have b1 := b0.call (D.put (k := kFuel) (i := fu - 1) d1 (.inr (.inl rfl))) (Kp.put (by simp))
    generalize upd H dk (HO.dK (putK kvs kFuel (V.int (fu - 1)))) = H1 at b1
    clear d1 d2 d3 d4 d5 d6 kvs
    -- functions, tags, local = signs; way
    refine ⟨_, rfl, sg, _, rfl, SqT.of b1.g.t, rfl, _, _, rfl, _, _, rfl, _, _, rfl, rfl, ?_⟩
    refine ⟨_, rfl, dk, lf, 13, rfl, b1.s.d, by decide, by decide, fun H2 way D2 K2 w0 w13 => ?_⟩
    have b2 := b1.call D2 K2
    clear b1
    have leafR : spLeaf K [.ref dk, .ref sa] H2 Q E0 := by
      refine ⟨dk, lf, sa, sc, rfl, b2.s.d, b2.a, hlow, by omega, fun H' t xs l e D' K' => ?_⟩
      obtain ⟨d, hd, tp⟩ := leaf_tp l e
      exact k H' _ d (.leaf hd) tp D' (b2.call D' K').s.k
    -- if deep == 0 or ..
    refine ⟨_, rfl, rfl, _, rfl, ite2 (fun h0 => ?_) (fun h0 => ?_)⟩
    · refine iteT ?_
      exact ⟨_, rfl, _, rfl, leafR⟩
    obtain ⟨m', rfl⟩ : ∃ m', m = m' + 1 := by
      cases m with
      | zero => exact absurd (by rfl) h0
      | succ m' => exact ⟨m', rfl⟩
    obtain ⟨es, d1, d2, d3, d4, d5, ⟨fu2, d6⟩⟩ := id b2.s.d.d
    refine ⟨_, rfl, dk, .int fu2, rfl, get (kk := kFuel) d1 d6, _, _, rfl, rfl, _, rfl, ite2 (fun _ => ?_) (fun _ => ?_)⟩
    · refine iteT ?_
      exact ⟨_, rfl, _, rfl, leafR⟩
    refine ⟨_, rfl, _, _, rfl, rfl, _, rfl, ite2 (fun _ => ⟨_, rfl, _, rfl, leafR⟩) (fun _ => ?_)⟩
    clear d1 d2 d3 d4 d5 d6 es h0 leafR
    have rec1 : ∀ {H3 : Hp} (b : Bn H H3 dk lf sg a1 a2 a3 x1 x2 S sa sc) {sa' : Addr} {sc' : List Str} {Q' : VK}, H3 sa' = some (.tup (sc'.map V.str)) → (∀ x ∈ sc', low x) → sc'.length + 3 * m' ≤ 900 →
        (∀ (H4 : Hp) (v : V) (d : PyData), GE S m' sc' d → Tp H4 v d → Bn H H4 dk lf sg a1 a2 a3 x1 x2 S sa sc → TT H3 H4 → Kp [dk, lf] H3 H4 → Q' v H4) →
        spLt n [.ref dk, .ref sg, .ref sa', .int (((m' + 1 : Nat) : Int) - 1)] H3 Q' E0 := by
      intro H3 b sa' sc' Q' e1 e2 e3 kk
      refine ⟨m', by omega, dk, lf, sg, sa', a1, a2, a3, x1, x2, S, sc', ?_, b.s.d, ok, b.g, e1, e2, e3, fun H' v d g t D' K' => kk H' v d g t (b.call D' K') (b.tt K') K'⟩
      rw [show ((m' + 1 : Nat) : Int) - 1 = (m' : Int) by omega]
    -- if way < 4: call
    refine ⟨_, rfl, _, _, rfl, rfl, _, rfl, ite2 (fun _ => ?_) (fun _ => ?_)⟩
    · refine ⟨_, rfl, _, rfl, dk, lf, _, _, rfl, b2.s.d, .inl ⟨a1, rfl, .inl (SqL.of b2.g.l1), b2.g.n1⟩, ?_, ?_, fun H3 x hx D3 K3 => ?_⟩
      · intro z
        have := b2.g.p1.length
        rw [z, List.length_map] at this
        exact ok.f1 (List.length_eq_zero_iff.mp this.symm)
      · rw [b2.g.p1.length, List.length_map]; have := ok.f2; omega
      have b3 := b2.call D3 K3
      obtain ⟨pd, hpd, tpx⟩ := b3.g.p1.mem hx
      obtain ⟨p, hp, rfl⟩ := List.mem_map.mp hpd
      obtain ⟨t, rfl, et⟩ := pair_open tpx
      have pk := ok.f3 p hp
      refine ⟨t, _, rfl, SqT.of et, rfl, _, _, rfl, _, _, rfl, rfl, ?_⟩
      refine ⟨_, rfl, _, rfl, (p.2 : Int), rfl, by omega, by omega, fun L hL => ?_⟩
      obtain ⟨hL0, nL⟩ := b3.free hL
      obtain ⟨eL, b4, _⟩ := b3.new (o := .lst []) hL rfl
      refine lc_range (lo := 0) (n := ((p.2 : Nat) : Int).toNat) (PvE H dk lf sg a1 a2 a3 x1 x2 S sa sc m' L)
        ⟨[], [], rfl, (fun _ h => nomatch h), eL, .nil, b4⟩ ?_ ?_
      · intro i H' hi pv
        exact exprs_turn rfl rfl rfl rfl (by omega) ok hlow hlen hL0 nL (by omega) pv _ _
      · rintro H' ⟨vs, ds, dl, dm, eL', tp, b'⟩
        refine ⟨L, vs, rfl, .inl ⟨SqL.of eL', fun t2 ht2 => ⟨by show 3 ≤ sizeLine; decide, fun r hr => ?_⟩⟩⟩
        obtain ⟨e5, b5, x5⟩ := b'.new ht2 rfl
        obtain ⟨e6, b6, x6⟩ := b5.new hr rfl
        refine k _ (.ref r) _ (.call (f := p.1) (k := p.2) hp (by omega) dm) (.tup e6 (.cons (.str _) (.cons (.str _) (.cons (.tup (x6.at e5) (TpL.tt ((TT.ext x5).trans (TT.ext x6)) _ tp)) .nil)))) b6.s.d b6.s.k
    -- if way < 6: make
    refine ⟨_, rfl, _, _, rfl, rfl, _, rfl, ite2 (fun _ => ?_) (fun _ => ?_)⟩
    · refine ⟨_, rfl, _, rfl, dk, lf, _, _, rfl, b2.s.d, .inl ⟨a2, rfl, .inl (SqL.of b2.g.l2), b2.g.n2⟩, ?_, ?_, fun H3 x hx D3 K3 => ?_⟩
      · intro z
        have := b2.g.p2.length
        rw [z, List.length_map] at this
        exact ok.t1 (List.length_eq_zero_iff.mp this.symm)
      · rw [b2.g.p2.length, List.length_map]; have := ok.t2; omega
      have b3 := b2.call D3 K3
      obtain ⟨pd, hpd, tpx⟩ := b3.g.p2.mem hx
      obtain ⟨p, hp, rfl⟩ := List.mem_map.mp hpd
      obtain ⟨t, rfl, et⟩ := pair_open tpx
      have pk := ok.t3 p hp
      refine ⟨t, _, rfl, SqT.of et, rfl, _, _, rfl, _, _, rfl, rfl, ?_⟩
      refine ⟨_, rfl, _, rfl, (p.2 : Int), rfl, by omega, by omega, fun L hL => ?_⟩
      obtain ⟨hL0, nL⟩ := b3.free hL
      obtain ⟨eL, b4, _⟩ := b3.new (o := .lst []) hL rfl
      refine lc_range (lo := 0) (n := ((p.2 : Nat) : Int).toNat) (PvE H dk lf sg a1 a2 a3 x1 x2 S sa sc m' L)
        ⟨[], [], rfl, (fun _ h => nomatch h), eL, .nil, b4⟩ ?_ ?_
      · intro i H' hi pv
        exact exprs_turn rfl rfl rfl rfl (by omega) ok hlow hlen hL0 nL (by omega) pv _ _
      · rintro H' ⟨vs, ds, dl, dm, eL', tp, b'⟩
        refine ⟨L, vs, rfl, .inl ⟨SqL.of eL', fun t2 ht2 => ⟨by show 3 ≤ sizeLine; decide, fun r hr => ?_⟩⟩⟩
        obtain ⟨e5, b5, x5⟩ := b'.new ht2 rfl
        obtain ⟨e6, b6, x6⟩ := b5.new hr rfl
        refine k _ (.ref r) _ (.make (f := p.1) (k := p.2) hp (by omega) dm) (.tup e6 (.cons (.str _) (.cons (.str _) (.cons (.tup (x6.at e5) (TpL.tt ((TT.ext x5).trans (TT.ext x6)) _ tp)) .nil)))) b6.s.d b6.s.k
    -- if way < 8: case
    refine ⟨_, rfl, _, _, rfl, rfl, _, rfl, ite2 (fun _ => ?_) (fun _ => ?_)⟩
    · refine ⟨_, rfl, _, rfl, _, rfl, _, rfl, _, _, rfl, rfl, rec1 b2 b2.a hlow (by omega) fun H3 ve de ge te b3 _ _ => ⟨by decide, fun L hL => ⟨_, _, rfl, ?_⟩⟩⟩
      obtain ⟨hL0, nL⟩ := b3.free hL
      generalize hG : upd H3 L _ = H4
      obtain ⟨eL, b4, x4⟩ := b3.new hL hG
      have te4 := Tp.tt (TT.ext x4) _ te
      clear hG x4 te b3
      -- for tag, many in shuffled(tags)[:..]
      refine ⟨_, rfl, _, rfl, dk, lf, a2, _, rfl, b4.s.d, .inl (SqL.of b4.g.l2), b4.g.n2, ?_, fun H5 l1 ys pm f1 n1 e1 D5 K5 => ?_⟩
      · rw [b4.g.p2.length, List.length_map]; have := ok.t2; omega
      have b5 := b4.call D5 K5
      have te5 := Tp.tt (b4.tt K5) _ te4
      have eL5 := K5 _ _ eL nL
      obtain ⟨qs, pq, tq⟩ := perm_pairs pm b5.g.p2
      refine ⟨_, rfl, dk, lf, 3, rfl, D5, by decide, by decide, fun H6 i D6 K6 i0 i3 => ⟨_, _, rfl, rfl, _, rfl, l1, ys, rfl, SqL.of (K6 _ _ e1 n1), fun p hp => ?_⟩⟩
      have b6 := b5.call D6 K6
      have te6 := Tp.tt (b5.tt K6) _ te5
      have eL6 := K6 _ _ eL5 nL
      have tq6 := TpL.tt (b5.tt K6) _ tq
      have et : (1 : Int) + i = ((1 + i.toNat : Nat) : Int) := by omega
      have ec : cutV ys none (some (1 + i)) = ys.take (1 + i.toNat) := by rw [et, cut_to]
      rw [ec]
      generalize hT : 1 + i.toNat = tk
      have tk1 : 1 ≤ tk ∧ tk ≤ 3 := by omega
      have tqk : TpL H6 (ys.take tk) ((qs.take tk).map prD) := by
        have := tq6.take tk
        rwa [← List.map_take] at this
      have lk : (ys.take tk).length = (qs.take tk).length := by rw [tqk.length, List.length_map]
      have qne : qs.take tk ≠ [] := by
        intro z
        have h1 : qs.length = S.ts.length := pq.length_eq
        have h2 : S.ts.length ≠ 0 := fun z => ok.t1 (List.length_eq_zero_iff.mp z)
        have := congrArg List.length z
        rw [List.length_take, List.length_nil] at this
        omega
      have qnd : ((qs.take tk).map (·.1)).Nodup := by
        have h1 : (qs.map (·.1)).Nodup := (pq.map (·.1)).nodup_iff.mpr ok.t5
        rw [List.map_take]
        exact h1.sublist (List.take_sublist _ _)
      have qin : ∀ q ∈ qs.take tk, q ∈ S.ts := fun q hq => pq.mem_iff.mp (List.mem_of_mem_take hq)
      have ql : (qs.take tk).length ≤ 3 := by rw [List.length_take]; omega
      generalize qs.take tk = rs at tqk lk qne qnd qin ql
      generalize ys.take tk = zs at tqk lk
      generalize hG : upd H6 p _ = H7
      obtain ⟨ep, b7, x7⟩ := b6.new hp hG
      clear hG
      have npL : L ≠ p := fun z => by rw [← z] at hp; rw [eL6] at hp; cases hp
      refine ⟨p, rfl, ⟨_, SqL.of ep⟩, for_list (K := K) (a := p) (xs := zs) (fun j σ H' => ∃ (vs : List V) (bs : List (Str × List Str × PyData)) (c8 c9 c10 c13 : Option V),
        σ = [some (.ref dk), some (.ref sg), some (.ref sa), some (.int ((m' + 1 : Nat) : Int)), some (.ref a1), some (.ref a2), some (.ref a3), some (.int way), c8, c9, c10, some ve, some (.ref L), c13, none, none, none] ∧
        H' L = some (.lst vs) ∧ TpL H' vs (bs.map brD) ∧ bs.length = j ∧ bs.map (·.1) = (rs.take j).map (·.1) ∧ (∀ b ∈ bs, (b.1, b.2.1.length) ∈ S.ts) ∧ (∀ b ∈ bs, b.2.1.Nodup ∧ ∀ x ∈ b.2.1, x ∈ S.loc) ∧ (∀ b ∈ bs, GE S m' (sc ++ b.2.1) b.2.2) ∧
        H' p = some (.lst zs) ∧ TpL H' zs (rs.map prD) ∧ Tp H' ve de ∧ Bn H H' dk lf sg a1 a2 a3 x1 x2 S sa sc)
        ⟨[], [], none, none, none, none, rfl, x7.at eL6, .nil, rfl, rfl, (fun _ h => nomatch h), (fun _ h => nomatch h), (fun _ h => nomatch h), ep, TpL.tt (TT.ext x7) _ tqk, Tp.tt (TT.ext x7) _ te6, b7⟩ ?_ ?_ ?_⟩
      · rintro j σ H' _ ⟨vs, bs, c8, c9, c10, c13, _, _, _, _, _, _, _, _, e, _⟩
        exact SqL.of e
      · rintro j y σ H' hj ⟨vs, bs, c8, c9, c10, c13, rfl, q1, q2, q3, q4, q5, q6, q7, q8, q9, q10, b8⟩
        obtain ⟨d, hd, tpy⟩ := q9.get hj
        rw [List.getElem?_map] at hd
        obtain ⟨q, hq, rfl⟩ := Option.map_eq_some_iff.mp hd
        have hqm : q ∈ rs := List.mem_of_getElem? hq
        have hqs := qin q hqm
        have q23 := ok.t3 q hqs
        obtain ⟨t0, rfl, e0⟩ := pair_open tpy
        refine ⟨t0, _, rfl, SqT.of e0, rfl, _, _, rfl, _, _, rfl, rfl, ?_⟩
        -- names = tuple(shuffled(local)[:many])
        refine ⟨_, rfl, _, rfl, dk, lf, a3, _, rfl, b8.s.d, .inl (SqL.of b8.g.l3), b8.g.n3, by rw [List.length_map]; have := ok.l2; omega, fun H9 l2 us pm2 f2 n2 e2 D9 K9 => ?_⟩
        obtain ⟨ns, pn, rfl⟩ := perm_strs pm2 rfl
        have b9 := b8.call D9 K9
        have t9 := b8.tt K9
        refine ⟨_, rfl, _, rfl, l2, _, rfl, SqL.of e2, fun p2 hp2 => ?_⟩
        rw [cut_to, ← List.map_take]
        generalize hG : upd H9 p2 _ = Ha
        obtain ⟨ep2, ba, xa⟩ := b9.new hp2 hG
        clear hG
        refine ⟨p2, _, rfl, .inl ⟨SqL.of ep2, fun t3 ht3 => ?_⟩⟩
        generalize hG : upd Ha t3 _ = Hb
        obtain ⟨et3, bb, xb⟩ := ba.new ht3 hG
        clear hG
        have nlen : (ns.take q.2).length = q.2 := by
          rw [List.length_take]
          have h1 : ns.length = S.loc.length := pn.length_eq
          have := ok.l1
          omega
        have nnd : (ns.take q.2).Nodup := (pn.nodup_iff.mpr ok.l4).sublist (List.take_sublist _ _)
        have nin : ∀ x ∈ ns.take q.2, x ∈ S.loc := fun x hx => pn.mem_iff.mp (List.mem_of_mem_take hx)
        generalize ns.take q.2 = names at et3 nlen nnd nin
        have tb : TT H' Hb := (t9.trans (TT.ext xa)).trans (TT.ext xb)
        have eLb : Hb L = some (.lst vs) := xb.at (xa.at (K9 _ _ q1 nL))
        have epb : Hb p = some (.lst zs) := xb.at (xa.at (K9 _ _ q8 ((b6.free hp).2)))
        -- branches.append((tag, names, ..))
        refine ⟨_, rfl, Or.inl ⟨rfl, _, SqL.of eLb⟩, _, rfl, _, rfl, _, rfl, _, rfl, _, rfl, _, rfl, catA_ok bb.a et3 (by rw [List.length_map, List.length_map]; exact big1000 (by omega)) fun c Hc ec hc => ?_⟩
        obtain ⟨bc, xc⟩ : Bn H Hc dk lf sg a1 a2 a3 x1 x2 S sa sc ∧ Kp [] Hb Hc := by
          rcases hc with rfl | ⟨hc, e⟩
          · exact ⟨bb, Kp.refl _ _⟩
          · obtain ⟨_, z1, z2⟩ := bb.new hc e
            exact ⟨z1, z2⟩
        rw [← List.map_append] at ec
        refine ⟨_, rfl, _, _, rfl, rfl, rec1 bc (sc' := sc ++ names) ec ?_ (by rw [List.length_append]; omega) fun Hd v d g tp bd td kd => ⟨by show 3 ≤ sizeLine; decide, fun r hr => ?_⟩⟩
        · intro x hx
          rcases List.mem_append.mp hx with hx | hx
          · exact hlow x hx
          · exact nameOk_low (ok.l3 x (nin x hx))
        generalize hG : upd Hd r _ = He
        obtain ⟨er, be, xe⟩ := bd.new hr hG
        clear hG
        have eLe : He L = some (.lst vs) := xe.at (kd _ _ (xc.at eLb) nL)
        have tE : TT H' He := ((tb.trans (TT.ext xc)).trans td).trans (TT.ext xe)
        have vl : vs.length = j := by rw [q2.length, List.length_map]; exact q3
        refine ⟨L, vs, _, rfl, rfl, eLe, small1000 (by have := (List.getElem?_eq_some_iff.mp hj).1; omega), ?_⟩
        have tF : TT He (upd He L (.lst (vs ++ [.ref r]))) := TT.put eLe
        refine ⟨vs ++ [.ref r], bs ++ [(q.1, names, d)], _, _, _, _, rfl, upd_same, ?_, by simp [q3], ?_, ?_, ?_, ?_, ?_, TpL.tt (tE.trans tF) _ q9, Tp.tt (tE.trans tF) _ q10, be.put hL0 nL eLe⟩
        · rw [List.map_append]
          refine (TpL.tt (tE.trans tF) _ q2).snoc (Tp.tt tF _ ?_)
          exact .tup er (.cons (.str _) (.cons (.tup (xe.at (td _ _ (xc.at et3))) (TpL.strs names)) (.cons (Tp.tt (TT.ext xe) _ tp) .nil)))
        · rw [List.map_append, q4, List.take_add_one, hq]
          simp
        · intro b hb
          rcases List.mem_append.mp hb with hb | hb
          · exact q5 b hb
          · rw [List.mem_singleton.mp hb]
            show (q.1, names.length) ∈ S.ts
            rw [nlen]; exact hqs
        · intro b hb
          rcases List.mem_append.mp hb with hb | hb
          · exact q6 b hb
          · rw [List.mem_singleton.mp hb]; exact ⟨nnd, nin⟩
        · intro b hb
          rcases List.mem_append.mp hb with hb | hb
          · exact q7 b hb
          · rw [List.mem_singleton.mp hb]; exact g
        · rw [upd_ne npL.symm]
          exact xe.at (kd _ _ (xc.at epb) ((b6.free hp).2))
      · rintro σ H' ⟨vs, bs, c8, c9, c10, c13, rfl, q1, q2, q3, q4, q5, q6, q7, q8, q9, q10, b8⟩
        refine ⟨_, rfl, _, rfl, L, vs, rfl, .inl ⟨SqL.of q1, fun t2 ht2 => ⟨by show 3 ≤ sizeLine; decide, fun r hr => ?_⟩⟩⟩
        obtain ⟨e5, b9, x9⟩ := b8.new ht2 rfl
        obtain ⟨e6, ba, xa⟩ := b9.new hr rfl
        have hrs : rs.take zs.length = rs := by rw [lk]; exact List.take_length
        rw [hrs] at q4
        refine k _ (.ref r) _ (.case (bs := bs) ge ?_ ?_ ?_ q5 q6 q7) (.tup e6 (.cons (.str _) (.cons (Tp.tt ((TT.ext x9).trans (TT.ext xa)) _ q10) (.cons (.tup (xa.at e5) (TpL.tt ((TT.ext x9).trans (TT.ext xa)) _ q2)) .nil)))) ba.s.d ba.s.k
        · intro z
          rw [z] at q4
          exact qne (List.map_eq_nil_iff.mp q4.symm)
        · have := congrArg List.length q4
          rw [List.length_map, List.length_map] at this
          omega
        · rw [q4]; exact qnd
    -- if way == 8: let
    refine ⟨_, rfl, rfl, _, rfl, ite2 (fun _ => ?_) (fun _ => ?_)⟩
    · refine ⟨_, rfl, _, rfl, dk, lf, _, _, rfl, b2.s.d, .inl ⟨a3, rfl, .inl (SqL.of b2.g.l3), b2.g.n3⟩, ?_, ?_, fun H3 x hx D3 K3 => ?_⟩
      · intro z
        have := ok.l1
        rw [List.map_eq_nil_iff.mp z] at this
        simp at this
      · rw [List.length_map]; have := ok.l2; omega
      obtain ⟨y, hy, rfl⟩ := str_map_at hx
      have b3 := b2.call D3 K3
      refine ⟨_, rfl, _, rfl, _, rfl, _, rfl, _, _, rfl, rfl, rec1 b3 b3.a hlow (by omega) fun H4 ve de ge te b4 _ _ => ⟨_, _, rfl, ?_⟩⟩
      refine ⟨_, rfl, _, rfl, _, rfl, _, rfl, _, rfl, _, rfl, by show 1 ≤ sizeLine; decide, fun q hq => ?_⟩
      generalize hG : upd H4 q _ = H5
      obtain ⟨eq, b5, x5⟩ := b4.new hq hG
      clear hG
      refine catA_ok (ys := [y].map V.str) b5.a eq (by rw [List.length_map, List.length_map]; show sc.length + 1 ≤ sizeLine; exact big1000 (by omega)) fun c Hc ec hc => ?_
      obtain ⟨bc, xc⟩ : Bn H Hc dk lf sg a1 a2 a3 x1 x2 S sa sc ∧ Kp [] H5 Hc := by
        rcases hc with rfl | ⟨hc, e⟩
        · exact ⟨b5, Kp.refl _ _⟩
        · obtain ⟨_, z1, z2⟩ := b5.new hc e
          exact ⟨z1, z2⟩
      rw [← List.map_append] at ec
      refine ⟨_, rfl, _, _, rfl, rfl, rec1 bc (sc' := sc ++ [y]) ec ?_ (by rw [List.length_append]; simp; omega) fun Hd v d g tp bd td kd => ⟨by show 4 ≤ sizeLine; decide, fun r hr => ?_⟩⟩
      · intro x hx
        rcases List.mem_append.mp hx with hx | hx
        · exact hlow x hx
        · rw [List.mem_singleton.mp hx]; exact nameOk_low (ok.l3 y hy)
      obtain ⟨er, be, xe⟩ := bd.new hr rfl
      exact k _ (.ref r) _ (.let hy ge g) (.tup er (.cons (.str _) (.cons (.str y) (.cons (Tp.tt ((((TT.ext x5).trans (TT.ext xc)).trans td).trans (TT.ext xe)) _ te) (.cons (Tp.tt (TT.ext xe) _ tp) .nil))))) be.s.d be.s.k
    -- if way == 9: if
    refine ⟨_, rfl, rfl, _, rfl, ite2 (fun _ => ?_) (fun _ => ?_)⟩
    · refine ⟨4, rfl, by decide, by decide, fun L hL => ?_⟩
      obtain ⟨hL0, nL⟩ := b2.free hL
      obtain ⟨eL, b4, _⟩ := b2.new (o := .lst []) hL rfl
      refine lc_range (lo := 0) (n := 4) (PvE H dk lf sg a1 a2 a3 x1 x2 S sa sc m' L) ⟨[], [], rfl, (fun _ h => nomatch h), eL, .nil, b4⟩ ?_ ?_
      · intro i H' hi pv
        exact exprs_turn rfl rfl rfl rfl (by omega) ok hlow hlen hL0 nL (by omega) pv _ _
      · rintro H' ⟨vs, ds, dl, dm, eL', tp, b'⟩
        refine ⟨_, rfl, dk, lf, _, _, rfl, b'.s.d, .inr ⟨_, rfl, rfl⟩, by decide, by decide, fun H5 x hx D5 K5 => ⟨by show 2 ≤ sizeLine; decide, fun q hq => ?_⟩⟩
        obtain ⟨cc, hcc, rfl⟩ := List.mem_map.mp hx
        have b5 := b'.call D5 K5
        generalize hG : upd H5 q _ = H6
        obtain ⟨eq, b6, x6⟩ := b5.new hq hG
        clear hG
        have eL6 := x6.at (K5 _ _ eL' nL)
        refine ⟨_, rfl, L, vs, rfl, .inl ⟨SqL.of eL6, fun t2 ht2 => ?_⟩⟩
        generalize hG : upd H6 t2 _ = H7
        obtain ⟨e7, b7, x7⟩ := b6.new ht2 hG
        clear hG
        have t7 := ((b'.tt K5).trans (TT.ext x6)).trans (TT.ext x7)
        refine catA_ok (x7.at eq) e7 (by rw [tp.length, dl]; show 2 + 4 ≤ sizeLine; decide) fun c Hc ec hc => ?_
        obtain ⟨bc, xc⟩ : Bn H Hc dk lf sg a1 a2 a3 x1 x2 S sa sc ∧ Kp [] H7 Hc := by
          rcases hc with rfl | ⟨hc, e⟩
          · exact ⟨b7, Kp.refl _ _⟩
          · obtain ⟨_, z1, z2⟩ := b7.new hc e
            exact ⟨z1, z2⟩
        refine k _ (.ref c) _ (.if (o := ⟨#[cc]⟩) ?_ dl dm) (.tup ec (.cons (.str _) (.cons (.str _) (TpL.tt (t7.trans (TT.ext xc)) _ tp)))) bc.s.d bc.s.k
        have h : cc ∈ [60, 61] := hcc
        rcases List.mem_cons.mp h with rfl | h
        · exact .inl (by decide)
        · rw [List.mem_singleton.mp h]; exact .inr (by decide)
    -- if way == 10: op
    refine ⟨_, rfl, rfl, _, rfl, ite2 (fun _ => ?_) (fun _ => ?_)⟩
    · refine ⟨2, rfl, by decide, by decide, fun L hL => ?_⟩
      obtain ⟨hL0, nL⟩ := b2.free hL
      obtain ⟨eL, b4, _⟩ := b2.new (o := .lst []) hL rfl
      refine lc_range (lo := 0) (n := 2) (PvE H dk lf sg a1 a2 a3 x1 x2 S sa sc m' L) ⟨[], [], rfl, (fun _ h => nomatch h), eL, .nil, b4⟩ ?_ ?_
      · intro i H' hi pv
        exact exprs_turn rfl rfl rfl rfl (by omega) ok hlow hlen hL0 nL (by omega) pv _ _
      · rintro H' ⟨vs, ds, dl, dm, eL', tp, b'⟩
        refine ⟨_, rfl, dk, lf, _, _, rfl, b'.s.d, .inr ⟨_, rfl, rfl⟩, by decide, by decide, fun H5 x hx D5 K5 => ⟨by show 2 ≤ sizeLine; decide, fun q hq => ?_⟩⟩
        obtain ⟨cc, hcc, rfl⟩ := List.mem_map.mp hx
        have b5 := b'.call D5 K5
        generalize hG : upd H5 q _ = H6
        obtain ⟨eq, b6, x6⟩ := b5.new hq hG
        clear hG
        have eL6 := x6.at (K5 _ _ eL' nL)
        refine ⟨_, rfl, L, vs, rfl, .inl ⟨SqL.of eL6, fun t2 ht2 => ?_⟩⟩
        generalize hG : upd H6 t2 _ = H7
        obtain ⟨e7, b7, x7⟩ := b6.new ht2 hG
        clear hG
        have t7 := ((b'.tt K5).trans (TT.ext x6)).trans (TT.ext x7)
        refine catA_ok (x7.at eq) e7 (by rw [tp.length, dl]; show 2 + 2 ≤ sizeLine; decide) fun c Hc ec hc => ?_
        obtain ⟨bc, xc⟩ : Bn H Hc dk lf sg a1 a2 a3 x1 x2 S sa sc ∧ Kp [] H7 Hc := by
          rcases hc with rfl | ⟨hc, e⟩
          · exact ⟨b7, Kp.refl _ _⟩
          · obtain ⟨_, z1, z2⟩ := b7.new hc e
            exact ⟨z1, z2⟩
        refine k _ (.ref c) _ (.op (o := ⟨#[cc]⟩) ?_ dl dm) (.tup ec (.cons (.str _) (.cons (.str _) (TpL.tt (t7.trans (TT.ext xc)) _ tp)))) bc.s.d bc.s.k
        have h : cc ∈ [43, 45, 42] := hcc
        rcases List.mem_cons.mp h with rfl | h
        · exact .inl (by decide)
        · rcases List.mem_cons.mp h with rfl | h
          · exact .inr (.inl (by decide))
          · rw [List.mem_singleton.mp h]; exact .inr (.inr (by decide))
    -- delay, force
    refine ⟨_, rfl, by show 2 ≤ sizeLine; decide, fun q hq => ?_⟩
    generalize hG : upd H2 q _ = H3
    obtain ⟨eq, b3, x3⟩ := b2.new hq hG
    clear hG
    have eq : H3 q = some (.tup (([Str.ofString "delay", Str.ofString "force"] : List Str).map V.str)) := eq
    refine ⟨dk, lf, _, _, rfl, b3.s.d, .inl ⟨q, rfl, .inr (SqT.of eq), b3.s.d.tup eq⟩, by decide, by decide, fun H4 x hx D4 K4 => ?_⟩
    obtain ⟨o, ho, rfl⟩ := str_map_at hx
    have b4 := b3.call D4 K4
    refine ⟨_, rfl, _, rfl, _, rfl, _, rfl, _, _, rfl, rfl, rec1 b4 b4.a hlow (by omega) fun H5 ve de ge te b5 _ _ => ⟨by show 2 ≤ sizeLine; decide, fun r hr => ?_⟩⟩
    obtain ⟨er, b6, x6⟩ := b5.new hr rfl
    refine k _ (.ref r) _ (.one (o := o) ?_ ge) (.tup er (.cons (.str _) (.cons (Tp.tt (TT.ext x6) _ te) .nil))) b6.s.d b6.s.k
    rcases List.mem_cons.mp ho with rfl | ho
    · exact .inl rfl
    · exact .inr (List.mem_singleton.mp ho)
/-- expressions of any depth -/
theorem okExpr {f g g2 g3 g4 : Addr} {fd gd gd2 gd3 gd4 : FuncData} (F : Fun K "_law_expression" "_law_expression" sExpr f fd) (hm : mg "_law_expression" = some (.ref f)) (hk : PySem.W.keepIn K (.ref f) = true) (hb : Binds K fd ["deck", "signs", "scope", "deep"] [])
    (T : Blt mg) (Ddraw : Df P w K mg base "_law_draw" 1 g gd ["deck", "many"] spDraw)
    (Dpick : Df P w K mg base "_law_pick" 2 g2 gd2 ["deck", "some"] (spPick K)) (Dleaf : Df P w K mg base "_law_leaf" 3 g3 gd3 ["deck", "scope"] (spLeaf K)) (Dshuf : Df P w K mg base "_law_shuffled" 2 g4 gd4 ["deck", "some"] (spShuf K)) :
    ∀ n, FnOk P w K mg base CX0 (4 + n) f fd ["deck", "signs", "scope", "deep"] (spLt n)
  | 0 => ⟨fun vs H Q E h => by obtain ⟨_, z, _⟩ := h; omega, fun A outer s H args us vs Q E _ _ _ _ h => by obtain ⟨_, z, _⟩ := h; omega⟩
  | n + 1 => okStep F T Ddraw Dpick Dleaf Dshuf ⟨okExpr F hm hk hb T Ddraw Dpick Dleaf Dshuf n, hm, hk, hb⟩
end
end Dh
end

/-! Q10hS -/
section
set_option Elab.async false
set_option linter.all false
set_option maxRecDepth 100000
set_option maxHeartbeats 4000000
namespace Dh
open PySem PySem.Spec PyProof.Rows L2

/-- new names: apart, and none of the elder ones -/
structure Fr (us ns : List Str) : Prop where
  nd : ns.Nodup
  out : ∀ x ∈ ns, x ∉ us
theorem Fr.nil (us : List Str) : Fr us [] := ⟨List.nodup_nil, fun _ h => nomatch h⟩
theorem Fr.snoc {us ns : List Str} {x : Str} (h : Fr us ns) (n : (us ++ ns).contains x = false) : Fr us (ns ++ [x]) := by
  have n' : x ∉ us ++ ns := fun z => by rw [List.contains_iff_mem.mpr z] at n; cases n
  have n1 : x ∉ us := fun z => n' (List.mem_append_left _ z)
  have n2 : x ∉ ns := fun z => n' (List.mem_append_right _ z)
  refine ⟨?_, fun y hy => ?_⟩
  · rw [List.nodup_append]
    refine ⟨h.nd, by simp, fun a ha b hb => ?_⟩
    rw [List.mem_singleton.mp hb]
    exact fun z => n2 (z ▸ ha)
  · rcases List.mem_append.mp hy with hy | hy
    · exact h.out y hy
    · rw [List.mem_singleton.mp hy]; exact n1
def kindsL : List Int := [1, 2, 0, 3, 1, 2]
def sizesL : List Int := [0, 2, 1, 3, 0, 2]
theorem kindsL_ok : ∀ i ∈ kindsL, 0 ≤ i ∧ i ≤ 3 := by decide
theorem sizesL_ok : ∀ i ∈ sizesL, 0 ≤ i ∧ i ≤ 3 := by decide
def spSigns : Sp := fun vs H Q _ => ∃ (dk lf u tg : Addr) (us tgs : List Str), vs = [.ref dk, .ref u, .ref tg] ∧ Dk H dk lf ∧ u ∉ [dk, lf] ∧ tg ∉ [dk, lf] ∧ u ≠ tg ∧ H u = some (.lst (us.map V.str)) ∧ H tg = some (.lst (tgs.map V.str)) ∧ us.length ≤ 30 ∧ tgs.length ≤ 30 ∧
  ∀ (H' : Hp) (sg a1 a2 a3 : Addr) (x1 x2 : List V) (S : Sg), SgOk S → SgAt H' dk lf sg a1 a2 a3 x1 x2 S → Fr us (S.fs.map (·.1) ++ S.loc) → Fr tgs (S.ts.map (·.1)) →
    H' u = some (.lst ((us ++ (S.fs.map (·.1) ++ S.loc)).map V.str)) → H' tg = some (.lst ((tgs ++ S.ts.map (·.1)).map V.str)) → S.fs.length ≤ 5 → S.ts.length ≤ 4 → S.loc.length ≤ 6 → Dk H' dk lf → Kp [dk, lf, u, tg] H H' → Q (.ref sg) H'
section
variable {P : Program} {w : World} {K : PySem.W.Frag} {mg : Str → Option Value} {base : Heap}
abbrev namesS : List Str := ["deck", "used", "tagged", "functions", "tags", "go"]
theorem scSigns : FnScope namesS ["deck", "used", "tagged"] (defScope sSigns) := ⟨rfl, rfl, rfl, by decide +kernel, rfl, by decide +kernel, by decide +kernel⟩
theorem okSigns {f g g2 g3 g4 : Addr} {fd gd gd2 gd3 gd4 : FuncData} (F : Fun K "_law_signs" "_law_signs" sSigns f fd) (T : Blt mg) (Ddraw : Df P w K mg base "_law_draw" 1 g gd ["deck", "many"] spDraw)
    (Dpick : Df P w K mg base "_law_pick" 2 g2 gd2 ["deck", "some"] (spPick K)) (Dname : Df P w K mg base "_law_name" 3 g3 gd3 ["deck", "used"] spName) (Dtag : Df P w K mg base "_law_tag" 3 g4 gd4 ["deck", "used"] spTag) :
    FnOk P w K mg base CX0 4 f fd ["deck", "used", "tagged"] spSigns := by
  refine F.ok scSigns (fun vs H Q E h => ?_) (fun cdv A outer s H vs Q E hr h => ?_)
  · obtain ⟨_, _, _, _, _, _, rfl, _⟩ := h
    rfl
  · obtain ⟨dk, lf, u, tg, us, tgs, rfl, D, nu, nt, nut, hus, htg, lus, ltg, k⟩ := h
    refine ⟨_, (pss_cons (ps_setLc (i := 3) (own := [("go", 5)]) (g := gName 5) (tt := tYes) rfl scSigns.nd rfl rfl (sw_true rfl rfl rfl (by decide +kernel)) (pi_range1 (by rfl) T.range (pa_cons (pe_op op_add pe_int (pe_call Ddraw.ok (hr.mono (by decide)) (by rfl) Ddraw.m Ddraw.k Ddraw.b .nil pass0 (pa_cons (pv 0) (pa_cons pe_int pa_nil)))) pa_nil)) (blkOk_by (N := namesS) (sc := defScope sSigns) (by decide +kernel)) (fun _ _ _ _ _ => pg_name (i := 5) scSigns.nd rfl (Or.inl rfl)) (fun _ _ _ _ _ => pts_nil) (fun _ _ _ _ _ => (pe_tup (pa_cons (pe_call Dname.ok (hr.mono (by decide)) (by rfl) Dname.m Dname.k Dname.b .nil pass0 (pa_cons (pv 0) (pa_cons (pv 1) pa_nil))) (pa_cons (pe_call Dpick.ok (hr.mono (by decide)) (by rfl) Dpick.m Dpick.k Dpick.b .nil pass0 (pa_cons (pv 0) (pa_cons (pe_tup (pa_cons pe_int (pa_cons pe_int (pa_cons pe_int (pa_cons pe_int (pa_cons pe_int (pa_cons pe_int pa_nil))))))) pa_nil))) pa_nil))))) 
    (pss_cons (ps_setLc (i := 4) (own := [("go", 5)]) (g := gName 5) (tt := tYes) rfl scSigns.nd rfl rfl (sw_true rfl rfl rfl (by decide +kernel)) (pi_range1 (by rfl) T.range (pa_cons (pe_op op_add pe_int (pe_call Ddraw.ok (hr.mono (by decide)) (by rfl) Ddraw.m Ddraw.k Ddraw.b .nil pass0 (pa_cons (pv 0) (pa_cons pe_int pa_nil)))) pa_nil)) (blkOk_by (N := namesS) (sc := defScope sSigns) (by decide +kernel)) (fun _ _ _ _ _ => pg_name (i := 5) scSigns.nd rfl (Or.inl rfl)) (fun _ _ _ _ _ => pts_nil) (fun _ _ _ _ _ => (pe_tup (pa_cons (pe_call Dtag.ok (hr.mono (by decide)) (by rfl) Dtag.m Dtag.k Dtag.b .nil pass0 (pa_cons (pv 0) (pa_cons (pv 2) pa_nil))) (pa_cons (pe_call Dpick.ok (hr.mono (by decide)) (by rfl) Dpick.m Dpick.k Dpick.b .nil pass0 (pa_cons (pv 0) (pa_cons (pe_tup (pa_cons pe_int (pa_cons pe_int (pa_cons pe_int (pa_cons pe_int (pa_cons pe_int (pa_cons pe_int pa_nil))))))) pa_nil))) pa_nil))))) 
    (pss_one (ps_ret (pe_tup (pa_cons (pv 3) (pa_cons (pv 4) (pa_cons (pe_lc (own := [("go", 5)]) (g := gName 5) (tt := tYes) rfl scSigns.nd (pi_range1 (by rfl) T.range (pa_cons (pe_op op_add pe_int (pe_call Ddraw.ok (hr.mono (by decide)) (by rfl) Ddraw.m Ddraw.k Ddraw.b .nil pass0 (pa_cons (pv 0) (pa_cons pe_int pa_nil)))) pa_nil)) (blkOk_by (N := namesS) (sc := defScope sSigns) (by decide +kernel)) (fun _ _ _ _ _ => pg_name (i := 5) scSigns.nd rfl (Or.inl rfl)) (fun _ _ _ _ _ => pts_nil) (fun _ _ _ _ _ => (pe_call Dname.ok (hr.mono (by decide)) (by rfl) Dname.m Dname.k Dname.b .nil pass0 (pa_cons (pv 0) (pa_cons (pv 1) pa_nil))))) pa_nil)))))))), ?_⟩
    have drop1 : ∀ {b : Addr}, b ∉ [dk, lf] → b ≠ u → b ∉ [dk, lf, u] := fun {b} h1 h2 z => by
      simp at h1 z
      rcases z with z | z | z
      · exact h1.1 z
      · exact h1.2 z
      · exact h2 z
    have drop2 : ∀ {b : Addr}, b ∉ [dk, lf] → b ≠ tg → b ∉ [dk, lf, tg] := fun {b} h1 h2 z => by
      simp at h1 z
      rcases z with z | z | z
      · exact h1.1 z
      · exact h1.2 z
      · exact h2 z
    -- functions
    refine ⟨_, rfl, dk, lf, 5, rfl, D, by decide, by decide, fun H1 i D1 K1 i0 i5 => ⟨_, _, rfl, rfl, 1 + i, rfl, by omega, by omega, fun L hL => ?_⟩⟩
    have hus1 := K1 _ _ hus nu
    have htg1 := K1 _ _ htg nt
    have nL := D1.mem hL
    have nLu : u ≠ L := ne_of_none hus1 hL
    have nLt : tg ≠ L := ne_of_none htg1 hL
    refine lc_range (lo := 0) (n := (1 + i).toNat) (fun j H' => ∃ (vs : List V) (fs : List (Str × Nat)), fs.length = j ∧ H' L = some (.lst vs) ∧ TpL H' vs (fs.map prD) ∧ (∀ p ∈ fs, nameOk p.1 = true ∧ p.2 ≤ 3) ∧ Fr us (fs.map (·.1)) ∧
      H' u = some (.lst ((us ++ fs.map (·.1)).map V.str)) ∧ Dk H' dk lf ∧ Kp [dk, lf, u] H1 H')
      ⟨[], [], rfl, upd_same, .nil, (fun _ h => nomatch h), Fr.nil us, by rw [upd_ne nLu, List.map_nil, List.append_nil]; exact hus1, D1.new hL, Kp.new hL⟩ ?_ ?_
    · rintro j H' hj ⟨vs, fs, q1, q2, q3, q4, q5, q6, q7, q8⟩
      refine ⟨rfl, yesI ?_⟩
      refine ⟨_, rfl, _, rfl, dk, lf, u, _, rfl, q7, nu, q6, by rw [List.length_append, List.length_map]; omega, fun H2 x ox nx e2 D2 K2 => ?_⟩
      have t2 := TT.deck3 K2 q7 q6
      have eL2 := K2 _ _ q2 (drop1 nL nLu.symm)
      refine ⟨_, rfl, by show 6 ≤ sizeLine; decide, fun p hp => ?_⟩
      have s2 : Sn [dk, lf] H2 H2 dk lf := Sn.start D2
      generalize hG : upd H2 p _ = H3
      obtain ⟨ep, s3, x3⟩ := s2.stp hp hG
      clear hG
      have ep : H3 p = some (.tup (kindsL.map V.int)) := ep
      refine ⟨dk, lf, _, _, rfl, s3.d, .inl ⟨p, rfl, .inr (SqT.of ep), s3.d.tup ep⟩, by decide, by decide, fun H4 y hy D4 K4 => ⟨by show 2 ≤ sizeLine; decide, fun r hr => ?_⟩⟩
      obtain ⟨z, hz, rfl⟩ := List.mem_map.mp hy
      have hz2 := kindsL_ok z hz
      have s4 := s3.call D4 K4
      have t4 := TT.deck K4 s3.d
      generalize hG : upd H4 r _ = H5
      obtain ⟨er, s5, x5⟩ := s4.stp hr hG
      clear hG
      have eL5 := x5.at (K4 _ _ (x3.at eL2) nL)
      have eu5 := x5.at (K4 _ _ (x3.at e2) nu)
      have tA : TT H' H5 := ((t2.trans (TT.ext x3)).trans t4).trans (TT.ext x5)
      have tB : TT H5 (upd H5 L (.lst (vs ++ [.ref r]))) := TT.put eL5
      have ezn : z = ((z.toNat : Nat) : Int) := by omega
      refine ⟨vs, eL5, ?_, vs ++ [.ref r], fs ++ [(x, z.toNat)], by simp [q1], upd_same, ?_, ?_, ?_, ?_, s5.d.put_other (fun q => nL (by simp [q])) (fun q => nL (by simp [q])), ?_⟩
      · rw [q3.length, List.length_map]; exact small1000 (by omega)
      · rw [List.map_append]
        refine (TpL.tt (tA.trans tB) _ q3).snoc (Tp.tt tB _ (.tup er (.cons (.str x) (.cons ?_ .nil))))
        show Tp H5 (.int z) (.int ((z.toNat : Nat) : Int))
        rw [← ezn]; exact .int z
      · intro q hq
        rcases List.mem_append.mp hq with hq | hq
        · exact q4 q hq
        · rw [List.mem_singleton.mp hq]
          exact ⟨ox, by show z.toNat ≤ 3; omega⟩
      · rw [List.map_append]; exact q5.snoc nx
      · rw [upd_ne nLu]
        have e : us ++ (fs ++ [(x, z.toNat)]).map (·.1) = us ++ fs.map (·.1) ++ [x] := by rw [List.map_append, List.append_assoc]; rfl
        rw [e]; exact eu5
      · exact (((q8.trans K2).trans (x3.more fun _ h => nomatch h)).trans ((K4.three).trans (x5.more fun _ h => nomatch h))).mut hL
    · rintro H2 ⟨vs1, fs, q1, q2, q3, q4, q5, q6, D2, K2⟩
      have lfs : fs.length ≤ 5 := by omega
      have htg2 := K2 _ _ htg1 (drop1 nt nut.symm)
      have nLm := nL
      refine ⟨_, rfl, dk, lf, 4, rfl, D2, by decide, by decide, fun H3 i2 D3 K3 j0 j4 => ⟨_, _, rfl, rfl, 1 + i2, rfl, by omega, by omega, fun L2 hL2 => ?_⟩⟩
      have hL3 := K3 _ _ q2 nL
      have hu3 := K3 _ _ q6 nu
      have htg3 := K3 _ _ htg2 nt
      have p3 := TpL.tt (TT.deck K3 D2) _ q3
      have nM := D3.mem hL2
      have nMt : tg ≠ L2 := ne_of_none htg3 hL2
      have nMu : u ≠ L2 := ne_of_none hu3 hL2
      have nML : L ≠ L2 := ne_of_none hL3 hL2
      have nLt' : L ≠ tg := fun z => nLt z.symm
      have K03 : Kp [dk, lf, u] H H3 := (((K1.three (u := u)).trans K2).trans K3.three)
      refine lc_range (lo := 0) (n := (1 + i2).toNat) (fun j H' => ∃ (vs : List V) (ts : List (Str × Nat)), ts.length = j ∧ H' L2 = some (.lst vs) ∧ TpL H' vs (ts.map prD) ∧ (∀ p ∈ ts, tagOk p.1 = true ∧ p.2 ≤ 3) ∧ Fr tgs (ts.map (·.1)) ∧
        H' tg = some (.lst ((tgs ++ ts.map (·.1)).map V.str)) ∧ Dk H' dk lf ∧ Kp [dk, lf, tg] H3 H')
        ⟨[], [], rfl, upd_same, .nil, (fun _ h => nomatch h), Fr.nil tgs, by rw [upd_ne nMt, List.map_nil, List.append_nil]; exact htg3, D3.new hL2, Kp.new hL2⟩ ?_ ?_
      · rintro j H' hj ⟨vs, ts, r1, r2, r3, r4, r5, r6, r7, r8⟩
        refine ⟨rfl, yesI ?_⟩
        refine ⟨_, rfl, _, rfl, dk, lf, tg, _, rfl, r7, nt, r6, by rw [List.length_append, List.length_map]; omega, fun H4 x ox nx e4 D4 K4 => ?_⟩
        have t4 := TT.deck3 K4 r7 r6
        have eM4 := K4 _ _ r2 (drop2 nM nMt.symm)
        refine ⟨_, rfl, by show 6 ≤ sizeLine; decide, fun p hp => ?_⟩
        have s4 : Sn [dk, lf] H4 H4 dk lf := Sn.start D4
        generalize hG : upd H4 p _ = H5
        obtain ⟨ep, s5, x5⟩ := s4.stp hp hG
        clear hG
        have ep : H5 p = some (.tup (sizesL.map V.int)) := ep
        refine ⟨dk, lf, _, _, rfl, s5.d, .inl ⟨p, rfl, .inr (SqT.of ep), s5.d.tup ep⟩, by decide, by decide, fun H6 y hy D6 K6 => ⟨by show 2 ≤ sizeLine; decide, fun r hr => ?_⟩⟩
        obtain ⟨z, hz, rfl⟩ := List.mem_map.mp hy
        have hz2 := sizesL_ok z hz
        have s6 := s5.call D6 K6
        have t6 := TT.deck K6 s5.d
        generalize hG : upd H6 r _ = H7
        obtain ⟨er, s7, x7⟩ := s6.stp hr hG
        clear hG
        have eM7 := x7.at (K6 _ _ (x5.at eM4) nM)
        have et7 := x7.at (K6 _ _ (x5.at e4) nt)
        have tA : TT H' H7 := ((t4.trans (TT.ext x5)).trans t6).trans (TT.ext x7)
        have tB : TT H7 (upd H7 L2 (.lst (vs ++ [.ref r]))) := TT.put eM7
        have ezn : z = ((z.toNat : Nat) : Int) := by omega
        refine ⟨vs, eM7, ?_, vs ++ [.ref r], ts ++ [(x, z.toNat)], by simp [r1], upd_same, ?_, ?_, ?_, ?_, s7.d.put_other (fun q => nM (by simp [q])) (fun q => nM (by simp [q])), ?_⟩
        · rw [r3.length, List.length_map]; exact small1000 (by omega)
        · rw [List.map_append]
          refine (TpL.tt (tA.trans tB) _ r3).snoc (Tp.tt tB _ (.tup er (.cons (.str x) (.cons ?_ .nil))))
          show Tp H7 (.int z) (.int ((z.toNat : Nat) : Int))
          rw [← ezn]; exact .int z
        · intro q hq
          rcases List.mem_append.mp hq with hq | hq
          · exact r4 q hq
          · rw [List.mem_singleton.mp hq]
            exact ⟨ox, by show z.toNat ≤ 3; omega⟩
        · rw [List.map_append]; exact r5.snoc nx
        · rw [upd_ne nMt]
          have e : tgs ++ (ts ++ [(x, z.toNat)]).map (·.1) = tgs ++ ts.map (·.1) ++ [x] := by rw [List.map_append, List.append_assoc]; rfl
          rw [e]; exact et7
        · exact (((r8.trans K4).trans (x5.more fun _ h => nomatch h)).trans ((K6.three).trans (x7.more fun _ h => nomatch h))).mut hL2
      · rintro H4 ⟨vs2, ts, r1, r2, r3, r4, r5, r6, D4, K4⟩
        have lts : ts.length ≤ 4 := by omega
        have hL4 := K4 _ _ hL3 (drop2 nL nLt')
        have hu4 := K4 _ _ hu3 (drop2 nu nut)
        have p4 := TpL.tt (TT.deck3 K4 D3 htg3) _ p3
        refine ⟨_, rfl, _, rfl, _, rfl, dk, lf, 4, rfl, D4, by decide, by decide, fun H5 i3 D5 K5 m0 m4 => ⟨_, _, rfl, rfl, 3 + i3, rfl, by omega, by omega, fun N hN => ?_⟩⟩
        have hL5 := K5 _ _ hL4 nL
        have hM5 := K5 _ _ r2 nM
        have hu5 := K5 _ _ hu4 nu
        have ht5 := K5 _ _ r6 nt
        have T45 := TT.deck K5 D4
        have p5 := TpL.tt T45 _ p4
        have o5 := TpL.tt T45 _ r3
        have nN := D5.mem hN
        have nNt : tg ≠ N := ne_of_none ht5 hN
        have nNu : u ≠ N := ne_of_none hu5 hN
        have nNL : L ≠ N := ne_of_none hL5 hN
        have nNM : L2 ≠ N := ne_of_none hM5 hN
        refine lc_range (lo := 0) (n := (3 + i3).toNat) (fun j H' => ∃ (ls : List Str), ls.length = j ∧ H' N = some (.lst (ls.map V.str)) ∧ (∀ p ∈ ls, nameOk p = true) ∧ Fr us (fs.map (·.1) ++ ls) ∧
          H' u = some (.lst ((us ++ (fs.map (·.1) ++ ls)).map V.str)) ∧ Dk H' dk lf ∧ Kp [dk, lf, u] H5 H')
          ⟨[], rfl, upd_same, (fun _ h => nomatch h), by rw [List.append_nil]; exact q5, by rw [upd_ne nNu, List.append_nil]; exact hu5, D5.new hN, Kp.new hN⟩ ?_ ?_
        · rintro j H' hj ⟨ls, v1, v2, v3, v4, v5, v6, v7⟩
          refine ⟨rfl, yesI ?_⟩
          refine ⟨_, rfl, _, rfl, dk, lf, u, _, rfl, v6, nu, v5, by rw [List.length_append, List.length_append, List.length_map]; omega, fun H6 x ox nx e6 D6 K6 => ?_⟩
          have eN6 := K6 _ _ v2 (drop1 nN nNu.symm)
          refine ⟨_, eN6, by rw [List.length_map]; exact small1000 (by omega), ls ++ [x], by simp [v1], by rw [List.map_append]; exact upd_same, ?_, ?_, ?_, D6.put_other (fun q => nN (by simp [q])) (fun q => nN (by simp [q])), (v7.trans K6).mut hN⟩
          · intro q hq
            rcases List.mem_append.mp hq with hq | hq
            · exact v3 q hq
            · rw [List.mem_singleton.mp hq]; exact ox
          · rw [← List.append_assoc]; exact v4.snoc nx
          · rw [upd_ne nNu]
            have e : us ++ (fs.map (·.1) ++ (ls ++ [x])) = us ++ (fs.map (·.1) ++ ls) ++ [x] := by simp only [List.append_assoc]
            rw [e]; exact e6
        · rintro H6 ⟨ls, v1, v2, v3, v4, v5, D6, K6⟩
          have hL6 := K6 _ _ hL5 (drop1 nL nLu.symm)
          have hM6 := K6 _ _ hM5 (drop1 nM nMu.symm)
          have ht6 := K6 _ _ ht5 (drop1 nt nut.symm)
          have T56 := TT.deck3 K6 D5 hu5
          refine ⟨by show 3 ≤ sizeLine; decide, fun p hp => ?_⟩
          have s6 : Sn [dk, lf] H6 H6 dk lf := Sn.start D6
          generalize hG : upd H6 p _ = H7
          obtain ⟨ep, s7, x7⟩ := s6.stp hp hG
          clear hG
          have w1 : ∀ b ∈ [dk, lf, u], b ∈ [dk, lf, u, tg] := fun b hb => by simp at hb ⊢; rcases hb with z | z | z <;> simp [z]
          have w2 : ∀ b ∈ [dk, lf, tg], b ∈ [dk, lf, u, tg] := fun b hb => by simp at hb ⊢; rcases hb with z | z | z <;> simp [z]
          have w3 : ∀ b ∈ [dk, lf], b ∈ [dk, lf, u, tg] := fun b hb => w1 b (by simp at hb ⊢; rcases hb with z | z <;> simp [z])
          have TT67 := T56.trans (TT.ext x7)
          have nfs : fs ≠ [] := fun z => by rw [z] at q1; simp at q1; omega
          have nts : ts ≠ [] := fun z => by rw [z] at r1; simp at r1; omega
          have nd2 := v4.nd
          rw [List.nodup_append] at nd2
          refine k H7 p L L2 N vs1 vs2 ⟨fs, ts, ls⟩ ⟨nfs, by show fs.length ≤ 50; omega, fun p hp => (q4 p hp).2, nts, by show ts.length ≤ 50; omega, fun p hp => (r4 p hp).2, by show 3 ≤ ls.length; omega, by show ls.length ≤ 50; omega, v3, nd2.2.1, fun p hp => (q4 p hp).1, fun p hp => (r4 p hp).1, r5.nd⟩
            ⟨ep, x7.at hL6, nL, TpL.tt TT67 _ p5, x7.at hM6, nM, TpL.tt TT67 _ o5, x7.at v2, nN⟩ v4 r5 (x7.at v5) (x7.at ht6) lfs lts (by show ls.length ≤ 6; omega) s7.d ?_
          exact (((((((K1.more w3).trans (K2.more w1)).trans (K3.more w3)).trans (K4.more w2)).trans (K5.more w3)).trans (K6.more w1)).trans (x7.more fun _ h => nomatch h))
end
end Dh
end

/-! Q10hP -/
section
set_option Elab.async false
set_option linter.all false
set_option maxRecDepth 100000
set_option maxHeartbeats 4000000
namespace Dh
open PySem PySem.Spec PyProof.Rows L2

/-- a definition of a drawn program -/
def RowOk (S : Sg) (r : Str × List Str × PyData) : Prop :=
  (r.1, r.2.1.length) ∈ S.fs ∧ r.2.1.Nodup ∧ (∀ x ∈ r.2.1, x ∈ S.loc) ∧ ∃ n, n ≤ 6 ∧ GE S n r.2.1 r.2.2
def spProg : Sp := fun vs H Q _ => ∃ (dk lf u tg : Addr) (us tgs : List Str) (fuel : Int), vs = [.ref dk, .ref u, .ref tg, .int fuel] ∧ Dk H dk lf ∧ u ∉ [dk, lf] ∧ tg ∉ [dk, lf] ∧ u ≠ tg ∧ H u = some (.lst (us.map V.str)) ∧ H tg = some (.lst (tgs.map V.str)) ∧ us.length ≤ 30 ∧ tgs.length ≤ 30 ∧ fuel.natAbs < 2 ^ 30 ∧
  ∀ (H' : Hp) (v : V) (S : Sg) (rows : List (Str × List Str × PyData)), Tp H' v (.tuple (rows.map brD)) → SgOk S → rows.map (·.1) = S.fs.map (·.1) → (∀ r ∈ rows, RowOk S r) → Fr us (S.fs.map (·.1) ++ S.loc) → Fr tgs (S.ts.map (·.1)) →
    H' u = some (.lst ((us ++ (S.fs.map (·.1) ++ S.loc)).map V.str)) → H' tg = some (.lst ((tgs ++ S.ts.map (·.1)).map V.str)) → S.fs.length ≤ 5 → S.ts.length ≤ 4 → S.loc.length ≤ 6 → Dk H' dk lf → Kp [dk, lf, u, tg] H H' → Q v H'
/-- where the body stands -/
structure Pn (H0 H : Hp) (dk lf sg a1 a2 a3 : Addr) (x1 x2 : List V) (S : Sg) : Prop where
  s : Sn [dk, lf] H0 H dk lf
  g0 : SgAt H0 dk lf sg a1 a2 a3 x1 x2 S
  g : SgAt H dk lf sg a1 a2 a3 x1 x2 S
section
variable {H0 H H' : Hp} {dk lf sg a1 a2 a3 sa p D : Addr} {x1 x2 : List V} {S : Sg} {sc : List Str} {o : HO} {ys : List V}
theorem Pn.new (b : Pn H0 H dk lf sg a1 a2 a3 x1 x2 S) (hp : H p = none) (e : upd H p o = H') : H' p = some o ∧ Pn H0 H' dk lf sg a1 a2 a3 x1 x2 S ∧ Kp [] H H' := by
  obtain ⟨h1, h2, h3⟩ := b.s.stp hp e
  exact ⟨h1, ⟨h2, b.g0, b.g.ext h3⟩, h3⟩
theorem Pn.call (b : Pn H0 H dk lf sg a1 a2 a3 x1 x2 S) (D' : Dk H' dk lf) (k : Kp [dk, lf] H H') : Pn H0 H' dk lf sg a1 a2 a3 x1 x2 S :=
  ⟨b.s.call D' k, b.g0, b.g.kp k b.s.d⟩
theorem Pn.tt (b : Pn H0 H dk lf sg a1 a2 a3 x1 x2 S) (k : Kp [dk, lf] H H') : TT H H' := TT.deck k b.s.d
theorem Pn.put (b : Pn H0 H dk lf sg a1 a2 a3 x1 x2 S) (h0 : H0 D = none) (n : D ∉ [dk, lf]) (h : H D = some (.lst ys)) : Pn H0 (upd H D o) dk lf sg a1 a2 a3 x1 x2 S :=
  ⟨b.s.mut h0 n, b.g0, b.g.put h (ne_of_none b.g0.l1 h0) (ne_of_none b.g0.l2 h0) (ne_of_none b.g0.l3 h0)⟩
theorem Pn.free (b : Pn H0 H dk lf sg a1 a2 a3 x1 x2 S) (hp : H p = none) : H0 p = none ∧ p ∉ [dk, lf] := ⟨b.s.k.free b.s.d hp, b.s.d.mem hp⟩
end
def deepL : List Int := [4, 3, 5, 2, 6]
theorem deepL_ok : ∀ i ∈ deepL, 0 ≤ i ∧ i ≤ 6 := by decide
section
variable {P : Program} {w : World} {K : PySem.W.Frag} {mg : Str → Option Value} {base : Heap}
abbrev namesP : List Str := ["deck", "used", "tagged", "fuel", "signs", "found", "f", "many", "names"]
theorem scProg : FnScope namesP ["deck", "used", "tagged", "fuel"] (defScope sProg) := ⟨rfl, rfl, rfl, by decide +kernel, rfl, by decide +kernel, by decide +kernel⟩
theorem okProg {f g g2 g3 g4 : Addr} {fd gd gd2 gd3 gd4 : FuncData} (F : Fun K "_law_program" "_law_program" sProg f fd) (T : Blt mg) (Dsigns : Df P w K mg base "_law_signs" 4 g gd ["deck", "used", "tagged"] spSigns)
    (Dpick : Df P w K mg base "_law_pick" 2 g2 gd2 ["deck", "some"] (spPick K)) (Dshuf : Df P w K mg base "_law_shuffled" 2 g3 gd3 ["deck", "some"] (spShuf K)) (De : Df P w K mg base "_law_expression" 11 g4 gd4 ["deck", "signs", "scope", "deep"] (spLt 7)) :
    FnOk P w K mg base CX0 12 f fd ["deck", "used", "tagged", "fuel"] spProg := by
  refine F.ok scProg (fun vs H Q E h => ?_) (fun cdv A outer s H vs Q E hr h => ?_)
  · obtain ⟨_, _, _, _, _, _, _, rfl, _⟩ := h
    rfl
  · obtain ⟨dk, lf, u, tg, us, tgs, fuel, rfl, D, nu, nt, nut, hus, htg, lus, ltg, hfu, k⟩ := h
    have hu := hu_of hr
    refine ⟨_, (pss_cons (ps_par (i := 4) (j := 5) rfl scProg.nd rfl rfl (by decide) rfl rfl (pa_cons (pe_call Dsigns.ok (hr.mono (by decide)) (by rfl) Dsigns.m Dsigns.k Dsigns.b .nil pass0 (pa_cons (pv 0) (pa_cons (pv 1) (pa_cons (pv 2) pa_nil)))) (pa_cons (pe_lst pa_nil) pa_nil)) (by rfl)) 
    (pss_cons (ps_for PassesOwn.never rfl (pi_list (pe_ix ix_tup (pv 4) pe_int (fun _ _ => rfl))) (pg_tup (by rfl) (pgs_cons (pg_name (i := 6) scProg.nd rfl (Or.inl rfl)) (pgs_cons (pg_name (i := 7) scProg.nd rfl (Or.inl rfl)) pgs_nil)))
      (pss_cons (ps_set (i := 8) scProg.nd rfl (Or.inl rfl) (pe_callTy call_tuple_of (by rfl) T.tuple (by decide +kernel) (pa_cons (pe_slice sl_list (pe_call Dshuf.ok (hr.mono (by decide)) (by rfl) Dshuf.m Dshuf.k Dshuf.b .nil pass0 (pa_cons (pv 0) (pa_cons (pe_ix ix_tup (pv 4) pe_int (fun _ _ => rfl)) pa_nil))) po_none (po_some (pv 7))) pa_nil))) 
      (pss_cons (ps_dput hu (pv 0) pe_str (pe_op op_fdivW (pv 3) (pe_callB call_len (by rfl) T.len (by decide +kernel) (pa_cons (pe_ix ix_tup (pv 4) pe_int (fun _ _ => rfl)) pa_nil))) rfl) 
      (pss_one (ps_expr (pe_bm PySem.F.plainAttrs_list PySem.F.slot_list_append PySem.F.type_list_append mt_append (pv 5) (pa_cons (pe_tup (pa_cons (pv 6) (pa_cons (pv 8) (pa_cons (pe_call De.ok (hr.mono (by decide)) (by rfl) De.m De.k De.b .nil pass0 (pa_cons (pv 0) (pa_cons (pv 4) (pa_cons (pv 8) (pa_cons (pe_call Dpick.ok (hr.mono (by decide)) (by rfl) Dpick.m Dpick.k Dpick.b .nil pass0 (pa_cons (pv 0) (pa_cons (pe_tup (pa_cons pe_int (pa_cons pe_int (pa_cons pe_int (pa_cons pe_int (pa_cons pe_int pa_nil)))))) pa_nil))) pa_nil))))) pa_nil)))) pa_nil))))))) 
    (pss_one (ps_ret (pe_callTy call_tuple_of (by rfl) T.tuple (by decide +kernel) (pa_cons (pv 5) pa_nil)))))), ?_⟩
    refine ⟨_, rfl, _, rfl, _, rfl, dk, lf, u, tg, us, tgs, rfl, D, nu, nt, nut, hus, htg, lus, ltg, fun H1 sg a1 a2 a3 x1 x2 S ok G fu ft eu et lf5 lt4 ll6 D1 K1 => ⟨by decide, fun L hL => ⟨_, _, rfl, ?_⟩⟩⟩
    have b0 : Pn H1 H1 dk lf sg a1 a2 a3 x1 x2 S := ⟨Sn.start D1, G, G⟩
    have hL0 := hL
    have nL := D1.mem hL
    generalize hG : upd H1 L _ = H2
    obtain ⟨eL, b2, y2⟩ := b0.new hL hG
    clear hG
    have get : ∀ {H1 : Hp} {es : List (Key × V)} {kk : Key} {v : V}, H1 dk = some (.dK es) → valV es kk = some v → DGet H1 dk (kV kk) (some v) := fun {H1 es kk v} a b => b ▸ DGet.k a
    -- for f, many in signs[0]
    refine ⟨_, rfl, sg, _, 0, .ref a1, rfl, rfl, SqT.of b2.g.t, atI_nat rfl, a1, rfl, ?_⟩
    refine ⟨⟨_, SqL.of b2.g.l1⟩, for_list (K := K) (a := a1) (xs := x1) (fun j σ H' => ∃ (vs : List V) (rows : List (Str × List Str × PyData)) (c6 c7 c8 : Option V),
        σ = [some (.ref dk), some (.ref u), some (.ref tg), some (.int fuel), some (.ref sg), some (.ref L), c6, c7, c8] ∧
        H' L = some (.lst vs) ∧ TpL H' vs (rows.map brD) ∧ rows.length = j ∧ rows.map (·.1) = (S.fs.take j).map (·.1) ∧ (∀ r ∈ rows, RowOk S r) ∧ Pn H1 H' dk lf sg a1 a2 a3 x1 x2 S)
        ⟨[], [], none, none, none, rfl, eL, .nil, rfl, rfl, (fun _ h => nomatch h), b2⟩ ?_ ?_ ?_⟩
    · rintro j σ H' _ ⟨vs, rows, c6, c7, c8, _, _, _, _, _, _, b⟩
      exact SqL.of b.g.l1
    · rintro j y σ H' hj ⟨vs, rows, c6, c7, c8, rfl, q1, q2, q3, q4, q5, b⟩
      obtain ⟨d, hd, tpy⟩ := b.g.p1.get hj
      rw [List.getElem?_map] at hd
      obtain ⟨q, hq, rfl⟩ := Option.map_eq_some_iff.mp hd
      have hqs : q ∈ S.fs := List.mem_of_getElem? hq
      have q23 := ok.f3 q hqs
      obtain ⟨t0, rfl, e0⟩ := pair_open tpy
      refine ⟨t0, _, rfl, SqT.of e0, rfl, _, _, rfl, _, _, rfl, rfl, ?_⟩
      -- names = tuple(shuffled(signs[2])[:many])
      refine ⟨_, rfl, _, rfl, sg, _, 2, .ref a3, rfl, rfl, SqT.of b.g.t, atI_nat rfl, dk, lf, a3, _, rfl, b.s.d, .inl (SqL.of b.g.l3), b.g.n3, by rw [List.length_map]; have := ok.l2; omega, fun H9 l2 us2 pm2 f2 n2 e2 D9 K9 => ?_⟩
      obtain ⟨ns, pn, rfl⟩ := perm_strs pm2 rfl
      have b9 := b.call D9 K9
      have t9 := b.tt K9
      refine ⟨_, rfl, _, rfl, l2, _, rfl, SqL.of e2, fun p2 hp2 => ?_⟩
      rw [cut_to, ← List.map_take]
      generalize hG : upd H9 p2 _ = Ha
      obtain ⟨ep2, ba, xa⟩ := b9.new hp2 hG
      clear hG
      refine ⟨p2, _, rfl, .inl ⟨SqL.of ep2, fun t3 ht3 => ?_⟩⟩
      generalize hG : upd Ha t3 _ = Hb
      obtain ⟨et3, bb, xb⟩ := ba.new ht3 hG
      clear hG
      have nlen : (ns.take q.2).length = q.2 := by
        rw [List.length_take]
        have h1 : ns.length = S.loc.length := pn.length_eq
        have := ok.l1
        omega
      have nnd : (ns.take q.2).Nodup := (pn.nodup_iff.mpr ok.l4).sublist (List.take_sublist _ _)
      have nin : ∀ x ∈ ns.take q.2, x ∈ S.loc := fun x hx => pn.mem_iff.mp (List.mem_of_mem_take hx)
      generalize ns.take q.2 = names at et3 nlen nnd nin
      have tb : TT H' Hb := (t9.trans (TT.ext xa)).trans (TT.ext xb)
      have eLb : Hb L = some (.lst vs) := xb.at (xa.at (K9 _ _ q1 nL))
      -- deck["fuel"] = fuel // len(signs[0])
      obtain ⟨kvs, d1, d2, d3, d4, d5, ⟨fu, d6⟩⟩ := id bb.s.d.d
      have xl : x1.length = S.fs.length := by rw [bb.g.p1.length, List.length_map]
      have xpos : 0 < x1.length := by rw [xl]; exact List.length_pos_iff.mpr ok.f1
      refine ⟨_, rfl, _, rfl, sg, _, 0, .ref a1, rfl, rfl, SqT.of bb.g.t, atI_nat rfl, _, x1.length, rfl, .inl ⟨_, SqL.of bb.g.l1, rfl⟩, ?_⟩
      have f50 := ok.f2
      refine ⟨_, _, rfl, rfl, ⟨by omega, ?_⟩, _, rfl, dk, _, rfl, DPut.k (k := kFuel) d1 (small1000 (by omega)), ?_⟩
      · show Nat.log2 x1.length < 9000
        rw [Nat.log2_lt (by omega)]
        exact Nat.lt_of_lt_of_le (m := 2 ^ 6) (by omega) (Nat.pow_le_pow_right (by decide) (by decide))
      have bc := bb.call (bb.s.d.put (k := kFuel) (i := fuel / ((x1.length : Nat) : Int)) d1 (.inr (.inl rfl))) (Kp.put (by simp))
      have kc : Kp [dk, lf] Hb (upd Hb dk (HO.dK (putK kvs kFuel (V.int (fuel / ((x1.length : Nat) : Int)))))) := Kp.put (by simp)
      have tc := bb.tt kc
      generalize upd Hb dk (HO.dK (putK kvs kFuel (V.int (fuel / ((x1.length : Nat) : Int))))) = Hc at bc kc tc
      clear d1 d2 d3 d4 d5 d6 kvs
      have eLc := kc _ _ eLb nL
      have etc := tc _ _ et3
      -- found.append((f, names, ..))
      refine ⟨_, rfl, Or.inl ⟨rfl, _, SqL.of eLc⟩, _, rfl, _, rfl, _, rfl, _, rfl, _, rfl, _, rfl, by show 5 ≤ sizeLine; decide, fun p hp => ?_⟩
      generalize hG : upd Hc p _ = Hd
      obtain ⟨ep, bd, xd⟩ := bc.new hp hG
      clear hG
      have ep : Hd p = some (.tup (deepL.map V.int)) := ep
      refine ⟨dk, lf, _, _, rfl, bd.s.d, .inl ⟨p, rfl, .inr (SqT.of ep), bd.s.d.tup ep⟩, by decide, by decide, fun He z hz De Ke => ?_⟩
      obtain ⟨m, hm, rfl⟩ := List.mem_map.mp hz
      have hm2 := deepL_ok m hm
      obtain ⟨n, rfl⟩ : ∃ n : Nat, m = (n : Int) := ⟨m.toNat, by omega⟩
      have be := bd.call De Ke
      have te := bd.tt Ke
      have eLe := Ke _ _ (xd.at eLc) nL
      have ete := te _ _ (xd.at etc)
      refine ⟨n, by omega, dk, lf, sg, t3, a1, a2, a3, x1, x2, S, names, rfl, be.s.d, ok, be.g, ete, fun x hx => nameOk_low (ok.l3 x (nin x hx)), by omega, fun Hf v d g tp Df Kf => ⟨by show 3 ≤ sizeLine; decide, fun r hr => ?_⟩⟩
      have bf := be.call Df Kf
      have tf := be.tt Kf
      have eLf := Kf _ _ eLe nL
      have etf := tf _ _ ete
      generalize hG : upd Hf r _ = Hg
      obtain ⟨er, bg, xg⟩ := bf.new hr hG
      clear hG
      have eLg := xg.at eLf
      have tE : TT H' Hg := (((((tb.trans tc).trans (TT.ext xd)).trans te).trans tf)).trans (TT.ext xg)
      have vl : vs.length = j := by rw [q2.length, List.length_map]; exact q3
      have jb : j < S.fs.length := (List.getElem?_eq_some_iff.mp hq).1
      refine ⟨L, vs, _, rfl, rfl, eLg, small1000 (by omega), ?_⟩
      have tF : TT Hg (upd Hg L (.lst (vs ++ [.ref r]))) := TT.put eLg
      refine ⟨vs ++ [.ref r], rows ++ [(q.1, names, d)], _, _, _, rfl, upd_same, ?_, by simp [q3], ?_, ?_, bg.put hL0 nL eLg⟩
      · rw [List.map_append]
        refine (TpL.tt (tE.trans tF) _ q2).snoc (Tp.tt tF _ ?_)
        exact .tup er (.cons (.str _) (.cons (.tup (xg.at etf) (TpL.strs names)) (.cons (Tp.tt (TT.ext xg) _ tp) .nil)))
      · rw [List.map_append, q4, List.take_add_one, hq]
        simp
      · intro b hb
        rcases List.mem_append.mp hb with hb | hb
        · exact q5 b hb
        · rw [List.mem_singleton.mp hb]
          exact ⟨by show (q.1, names.length) ∈ S.fs; rw [nlen]; exact hqs, nnd, nin, n, by omega, g⟩
    · rintro σ H' ⟨vs, rows, c6, c7, c8, rfl, q1, q2, q3, q4, q5, b⟩
      refine ⟨_, rfl, L, vs, rfl, .inl ⟨SqL.of q1, fun t2 ht2 => ?_⟩⟩
      generalize hG : upd H' t2 _ = Hg
      obtain ⟨e5, b9, x9⟩ := b.new ht2 hG
      clear hG
      have nuL := b9.s.k _ _ eu nu
      have ntL := b9.s.k _ _ et nt
      have xl : x1.length = S.fs.length := by rw [b.g.p1.length, List.length_map]
      rw [xl, List.take_length] at q4
      refine k Hg (.ref t2) S rows (.tup e5 (TpL.tt (TT.ext x9) _ q2)) ok q4 q5 fu ft nuL ntL lf5 lt4 ll6 b9.s.d (K1.trans (b9.s.k.more ?_))
      intro b hb
      simp at hb ⊢
      rcases hb with z | z <;> simp [z]
end
end Dh
end

/-! Q10iB -/
section
set_option Elab.async false
set_option linter.all false
set_option maxRecDepth 100000
set_option maxHeartbeats 4000000
namespace Dh
open PySem PySem.Spec PyProof.Rows L2

/-! ### how much data there is -/
mutual
def sz : PyData → Nat
  | .none => 1
  | .bool _ => 1
  | .int _ => 1
  | .str x => 1 + x.length
  | .list xs => 1 + szA xs
  | .tuple xs => 1 + szA xs
  | .dict kvs => 1 + szK kvs
def szA : List PyData → Nat
  | [] => 0
  | x :: r => sz x + szA r
def szK : List (PyData × PyData) → Nat
  | [] => 0
  | (a, b) :: r => sz a + sz b + szK r
end
theorem sz_pos : ∀ d : PyData, 1 ≤ sz d := fun d => by cases d <;> simp only [sz] <;> omega
theorem szA_len : ∀ ds : List PyData, ds.length ≤ szA ds
  | [] => Nat.le_refl _
  | d :: r => by
    have := sz_pos d
    have := szA_len r
    simp only [List.length_cons, szA]; omega
theorem szA_mem : ∀ {ds : List PyData} {d : PyData}, d ∈ ds → sz d ≤ szA ds
  | x :: r, d, h => by
    rcases List.mem_cons.mp h with rfl | h
    · simp only [szA]; omega
    · have := szA_mem h
      simp only [szA]; omega
/-- of a size that is looked through at once -/
def Few (d : PyData) : Prop := sz d ≤ 16000000
theorem Few.tup {ds : List PyData} (h : Few (.tuple ds)) : ds.length ≤ 16000000 ∧ ∀ d ∈ ds, Few d := by
  have h : 1 + szA ds ≤ 16000000 := by have := h; unfold Few at this; simpa only [sz] using this
  have := szA_len ds
  refine ⟨by omega, fun d hd => ?_⟩
  have := szA_mem hd
  unfold Few; omega
theorem Few.str {x : Str} (h : Few (.str x)) : x.length ≤ 16000000 := by
  have h : 1 + x.length ≤ 16000000 := by have := h; unfold Few at this; simpa only [sz] using this
  omega
theorem mill {n : Nat} (h : n ≤ 16000000) : n < sizeLine := Nat.lt_of_le_of_lt h (by decide)

/-! ### [.. for c in a text] -/
theorem lc_str {x : Str} {g : TG} {tt : L2.TT} {te : TE} {vs : List Nat} {σ : L2.St} {H1 : Hp} {D : Addr} {Qd : Hp → Prop} (Pv : Nat → Hp → Prop) (h0 : Pv 0 (upd H1 D (.lst [])))
    (hs : ∀ i c H, x.cps.toList[i]? = some c → Pv i H → g (.str ⟨#[c]⟩) (wipe σ vs) H fun σ2 H2 => wipe σ2 vs = wipe σ vs ∧ tt σ2 H2 fun b H3 =>
      if b = true then te σ2 H3 fun y H4 => ∃ acc, H4 D = some (.lst acc) ∧ acc.length < sizeLine ∧ Pv (i + 1) (upd H4 D (.lst (acc ++ [y]))) else Pv (i + 1) H3) (hd : ∀ H, Pv x.cps.toList.length H → Qd H) :
    ∃ W : Nat → Nat → Hp → Prop, (∃ m, W 0 m (upd H1 D (.lst []))) ∧ ∀ i m H, W i m H →
      ((Its x).stop i H ∧ Qd H) ∨ ((Its x).go i H ∧ ∃ Nx : Hp → Prop, (∀ H', Nx H' → ∃ m', m' < m ∧ W (i + 1) m' H') ∧ ∀ v H', (Its x).yld i H v H' → g v (wipe σ vs) H' fun σ2 H2 => wipe σ2 vs = wipe σ vs ∧ tt σ2 H2 fun b H3 =>
        if b = true then te σ2 H3 fun y H4 => ∃ acc, H4 D = some (.lst acc) ∧ acc.length < sizeLine ∧ Nx (upd H4 D (.lst (acc ++ [y]))) else Nx H3) := by
  have el : x.cps.toList.length = x.cps.size := by simp
  refine ⟨fun i m H => m = x.cps.size - i ∧ i ≤ x.cps.size ∧ Pv i H, ⟨x.cps.size, rfl, Nat.zero_le _, h0⟩, ?_⟩
  rintro i m H ⟨rfl, hi, p⟩
  rcases Nat.lt_or_ge i x.cps.size with lt | ge
  · refine .inr ⟨lt, Pv (i + 1), fun H' p' => ⟨x.cps.size - (i + 1), by omega, rfl, lt, p'⟩, fun v H' y => ?_⟩
    obtain ⟨rfl, c, e, rfl⟩ := y
    exact hs i c _ (by rw [Array.getElem?_toList]; exact e) p
  · have e : i = x.cps.size := by omega
    subst e
    exact .inl ⟨Nat.le_refl _, hd H (by rw [el]; exact p)⟩

/-! ### words -/
abbrev sInteger : Stmt := top 11
abbrev sWord : Stmt := top 12
abbrev sIsName : Stmt := top 13
abbrev sIsTag : Stmt := top 14
abbrev sTest : Stmt := top 15
abbrev sSign : Stmt := top 16
abbrev sTuple : Stmt := top 17
abbrev sAny : Stmt := top 18
abbrev sNames : Stmt := top 19
abbrev sBranch : Stmt := top 20
abbrev sBranches : Stmt := top 21
abbrev sOfSort : Stmt := top 24
abbrev sHasForm : Stmt := top 25
abbrev sInner : Stmt := top 26
abbrev sIsProg : Stmt := top 29
abbrev sIsDef : Stmt := top 30
abbrev sIsExpr : Stmt := top 31
structure BltF (mg : Str → Option Value) : Prop where
  isinstance : mg "isinstance" = none
  all : mg "all" = none
  bool : mg "bool" = none
  zip : mg "zip" = none
/-- a tuple of texts of the module -/
def Twd (K : PySem.W.Frag) (mg : Str → Option Value) (x : Str) (ws : List Str) : Prop := ∃ r : Addr, mg x = some (.ref r) ∧ ∀ H : Hp, SqT K H r (ws.map V.str)
structure Cst (K : PySem.W.Frag) (mg : Str → Option Value) : Prop where
  small : ∃ t, mg "SMALL_LETTERS" = some (.str lowS t)
  great : ∃ t, mg "GREAT_LETTERS" = some (.str uppS t)
  digits : ∃ t, mg "DIGITS" = some (.str "0123456789" t)
  longest : ∃ t, mg "LONGEST" = some (.int 12 t)
  reserved : Twd K mg "RESERVED" resv
  tests : Twd K mg "TESTS" ["<", "="]
  signs : Twd K mg "SIGNS" ["+", "-", "*"]
def spB (K : PySem.W.Frag) (f : PyData → Bool) : Sp := fun vs H Q _ => ∃ (M : List Addr) (v : V) (d : PyData), vs = [v] ∧ At K M H v d ∧ Few d ∧ ∀ H', Kp [] H H' → Q (.bl (f d)) H'
def isInteger : PyData → Bool
  | .int _ => true
  | _ => false
def isWordL (first others : Str) (l : List Nat) : Bool := decide (1 ≤ l.length ∧ l.length ≤ 12) && (match l with | [] => false | c :: _ => decide (c ∈ first.cps.toList)) && l.all fun c => decide (c ∈ others.cps.toList)
def isWord (first others : Str) : PyData → Bool
  | .str x => isWordL first others x.cps.toList
  | _ => false
def isName : PyData → Bool
  | .str x => isWordL lowS alnS x.cps.toList && !(resv.contains x)
  | _ => false
def isTag : PyData → Bool := isWord uppS bothS
def isTest : PyData → Bool
  | .str x => (["<", "="] : List Str).contains x
  | _ => false
def isSign : PyData → Bool
  | .str x => (["+", "-", "*"] : List Str).contains x
  | _ => false
section
variable {P : Program} {w : World} {K : PySem.W.Frag} {mg : Str → Option Value} {base : Heap}
theorem scInteger : FnScope ["thing"] ["thing"] (defScope sInteger) := ⟨rfl, rfl, rfl, by decide +kernel, rfl, by decide +kernel, by decide +kernel⟩
theorem okInteger {f : Addr} {fd : FuncData} (F : Fun K "is_integer" "is_integer" sInteger f fd) (T : Blt mg) (TF : BltF mg) : FnOk P w K mg base CX0 1 f fd ["thing"] (spB K isInteger) := by
  refine F.ok scInteger (fun vs H Q E h => by obtain ⟨_, _, _, rfl, _⟩ := h; rfl) (fun cdv A outer s H vs Q E hr h => ?_)
  obtain ⟨M, v, d, rfl, a, _, k⟩ := h
  refine ⟨_, (pss_one (ps_ret (pe_and (pe_callB call_isA (by rfl) TF.isinstance (by decide +kernel) (pa_cons (pv 0) (pa_cons (pe_bltn (v := .ty "int") (by rfl) T.int (by decide +kernel) rfl) pa_nil))) (pe_one (pe_not (pe_callB call_isA (by rfl) TF.isinstance (by decide +kernel) (pa_cons (pv 0) (pa_cons (pe_bltn (v := .ty "bool") (by rfl) TF.bool (by decide +kernel) rfl) pa_nil)))))))), ?_⟩
  refine ⟨_, rfl, M, v, d, _, _, rfl, a, .int d, _, rfl, ite2 (fun z => ?_) (fun z => ?_)⟩
  · refine ⟨_, rfl, M, v, d, _, _, rfl, a, .bool d, _, rfl, ?_⟩
    have e : (!isBool d) = isInteger d := by cases d <;> first | rfl | exact absurd z Bool.false_ne_true
    rw [e]
    exact k H (Kp.refl _ _)
  · have e : false = isInteger d := by cases d <;> first | rfl | exact absurd rfl z
    rw [e]
    exact k H (Kp.refl _ _)
theorem scTuple : FnScope ["thing"] ["thing"] (defScope sTuple) := ⟨rfl, rfl, rfl, by decide +kernel, rfl, by decide +kernel, by decide +kernel⟩
theorem okTuple {f : Addr} {fd : FuncData} (F : Fun K "is_tuple" "is_tuple" sTuple f fd) (T : Blt mg) (TF : BltF mg) : FnOk P w K mg base CX0 1 f fd ["thing"] (spB K isTup) := by
  refine F.ok scTuple (fun vs H Q E h => by obtain ⟨_, _, _, rfl, _⟩ := h; rfl) (fun cdv A outer s H vs Q E hr h => ?_)
  obtain ⟨M, v, d, rfl, a, _, k⟩ := h
  refine ⟨_, (pss_one (ps_ret (pe_callB call_isA (by rfl) TF.isinstance (by decide +kernel) (pa_cons (pv 0) (pa_cons (pe_bltn (v := .ty "tuple") (by rfl) T.tuple (by decide +kernel) rfl) pa_nil))))), ?_⟩
  exact ⟨_, rfl, M, v, d, _, _, rfl, a, .tuple d, k H (Kp.refl _ _)⟩
theorem scAny : FnScope ["thing"] ["thing"] (defScope sAny) := ⟨rfl, rfl, rfl, by decide +kernel, rfl, by decide +kernel, by decide +kernel⟩
theorem okAny {f : Addr} {fd : FuncData} (F : Fun K "is_anything" "is_anything" sAny f fd) : FnOk P w K mg base CX0 1 f fd ["thing"] (spB K fun _ => true) := by
  refine F.ok scAny (fun vs H Q E h => by obtain ⟨_, _, _, rfl, _⟩ := h; rfl) (fun cdv A outer s H vs Q E hr h => ?_)
  obtain ⟨M, v, d, rfl, a, _, k⟩ := h
  exact ⟨_, (pss_one (ps_ret pe_bl)), k H (Kp.refl _ _)⟩
theorem scTest : FnScope ["thing"] ["thing"] (defScope sTest) := ⟨rfl, rfl, rfl, by decide +kernel, rfl, by decide +kernel, by decide +kernel⟩
theorem okTest {f : Addr} {fd : FuncData} (F : Fun K "is_test" "is_test" sTest f fd) (T : Blt mg) (TF : BltF mg) (C : Cst K mg) : FnOk P w K mg base CX0 1 f fd ["thing"] (spB K isTest) := by
  refine F.ok scTest (fun vs H Q E h => by obtain ⟨_, _, _, rfl, _⟩ := h; rfl) (fun cdv A outer s H vs Q E hr h => ?_)
  obtain ⟨M, v, d, rfl, a, _, k⟩ := h
  obtain ⟨r, cr, hr2⟩ := C.tests
  refine ⟨_, (pss_one (ps_ret (pe_and (pe_callB call_isA (by rfl) TF.isinstance (by decide +kernel) (pa_cons (pv 0) (pa_cons (pe_bltn (v := .ty "str") (by rfl) T.str (by decide +kernel) rfl) pa_nil))) (pe_one (pe_cmpR op_in_seq (pv 0) (pe_glob (v := .ref r) (by rfl) cr rfl) (by rfl)))))), ?_⟩
  refine ⟨_, rfl, M, v, d, _, _, rfl, a, .str d, _, rfl, ite2 (fun z => ?_) (fun z => ?_)⟩
  · cases a with
    | str x =>
      refine ⟨_, rfl, r, _, rfl, .inr (hr2 H), rfl, flat_strs _, ?_⟩
      show Q (.bl (inV (.str x) _)) H
      rw [inV_strs]
      exact k H (Kp.refl _ _)
    | _ => exact absurd z Bool.false_ne_true
  · have e : false = isTest d := by cases d <;> first | rfl | exact absurd rfl z
    rw [e]
    exact k H (Kp.refl _ _)
theorem scSign : FnScope ["thing"] ["thing"] (defScope sSign) := ⟨rfl, rfl, rfl, by decide +kernel, rfl, by decide +kernel, by decide +kernel⟩
theorem okSign {f : Addr} {fd : FuncData} (F : Fun K "is_sign" "is_sign" sSign f fd) (T : Blt mg) (TF : BltF mg) (C : Cst K mg) : FnOk P w K mg base CX0 1 f fd ["thing"] (spB K isSign) := by
  refine F.ok scSign (fun vs H Q E h => by obtain ⟨_, _, _, rfl, _⟩ := h; rfl) (fun cdv A outer s H vs Q E hr h => ?_)
  obtain ⟨M, v, d, rfl, a, _, k⟩ := h
  obtain ⟨r, cr, hr2⟩ := C.signs
  refine ⟨_, (pss_one (ps_ret (pe_and (pe_callB call_isA (by rfl) TF.isinstance (by decide +kernel) (pa_cons (pv 0) (pa_cons (pe_bltn (v := .ty "str") (by rfl) T.str (by decide +kernel) rfl) pa_nil))) (pe_one (pe_cmpR op_in_seq (pv 0) (pe_glob (v := .ref r) (by rfl) cr rfl) (by rfl)))))), ?_⟩
  refine ⟨_, rfl, M, v, d, _, _, rfl, a, .str d, _, rfl, ite2 (fun z => ?_) (fun z => ?_)⟩
  · cases a with
    | str x =>
      refine ⟨_, rfl, r, _, rfl, .inr (hr2 H), rfl, flat_strs _, ?_⟩
      show Q (.bl (inV (.str x) _)) H
      rw [inV_strs]
      exact k H (Kp.refl _ _)
    | _ => exact absurd z Bool.false_ne_true
  · have e : false = isSign d := by cases d <;> first | rfl | exact absurd rfl z
    rw [e]
    exact k H (Kp.refl _ _)
end
end Dh
end

/-! Q10iC -/
section
set_option Elab.async false
set_option linter.all false
set_option maxRecDepth 100000
set_option maxHeartbeats 4000000
namespace Dh
open PySem PySem.Spec PyProof.Rows L2
def spWord (K : PySem.W.Frag) : Sp := fun vs H Q _ => ∃ (M : List Addr) (v : V) (d : PyData) (first others : Str), vs = [v, .str first, .str others] ∧ At K M H v d ∧ Few d ∧ ∀ H', Kp [] H H' → Q (.bl (isWord first others d)) H'
abbrev namesI : List Str := ["thing", "first", "others", "sign"]
section
variable {P : Program} {w : World} {K : PySem.W.Frag} {mg : Str → Option Value} {base : Heap}
theorem scWord : FnScope namesI ["thing", "first", "others"] (defScope sWord) := ⟨rfl, rfl, rfl, by decide +kernel, rfl, by decide +kernel, by decide +kernel⟩
theorem okWord {f : Addr} {fd : FuncData} (F : Fun K "is_word" "is_word" sWord f fd) (T : Blt mg) (TF : BltF mg) (C : Cst K mg) : FnOk P w K mg base CX0 1 f fd ["thing", "first", "others"] (spWord K) := by
  refine F.ok scWord (fun vs H Q E h => by obtain ⟨_, _, _, _, _, rfl, _⟩ := h; rfl) (fun cdv A outer s H vs Q E hr h => ?_)
  obtain ⟨M, v, d, first, others, rfl, a, few, k⟩ := h
  obtain ⟨tl, cl⟩ := C.longest
  refine ⟨_, (pss_cons (ps_if (PW.pt (pw_or (pt_not (pt_val (pe_callB call_isA (by rfl) TF.isinstance (by decide +kernel) (pa_cons (pv 0) (pa_cons (pe_bltn (v := .ty "str") (by rfl) T.str (by decide +kernel) rfl) pa_nil))))) (pw_or1 (pt_not (pt_chain op_le op_le pe_int (pe_callB call_len (by rfl) T.len (by decide +kernel) (pa_cons (pv 0) pa_nil)) (pe_glob (v := .int 12) (by rfl) cl ⟨_, rfl⟩)))))) (pss_one (ps_ret pe_bl)) pss_nil) 
    (pss_one (ps_ret (pe_and (pe_cmpR op_in_sign (pe_ix ix_seq (pv 0) pe_int (fun _ _ => rfl)) (pv 1) rfl) (pe_one (pe_callB (cr_all rfl) (by rfl) TF.all (by decide +kernel) (pa_cons (pe_lc (own := [("sign", 3)]) (g := gName 3) (tt := tYes) rfl scWord.nd (pi_str (pv 0)) (blkOk_by (N := namesI) (sc := defScope sWord) (by decide +kernel)) (fun _ _ _ _ _ => pg_name (i := 3) scWord.nd rfl (Or.inl rfl)) (fun _ _ _ _ _ => pts_nil) (fun _ _ _ _ _ => (pe_cmpR op_in_sign (pv 3) (pv 2) rfl))) pa_nil))))))), ?_⟩
  refine ⟨_, rfl, M, v, d, _, _, rfl, a, .str d, _, rfl, ?_⟩
  have fin : ∀ (b : Bool) (R : Prop), isWord first others d = b → (∀ H', Kp [] H H' → Q (.bl b) H') := fun b R e H' kk => e ▸ k H' kk
  cases a with
  | str x =>
    have xl : x.cps.toList.length = x.length := str_len x
    refine iteF ?_
    have small : x.length ≤ 16000000 := few.str
    refine ⟨_, rfl, _, x.length, rfl, ⟨Nat.le_of_lt (mill small), rfl⟩, _, _, rfl, rfl, _, rfl, ite2 (fun h1 => ?_) (fun h1 => ?_)⟩
    · have h1 : (1 : Int) ≤ (x.length : Int) := of_decide_eq_true h1
      refine ⟨_, _, rfl, rfl, _, rfl, ?_⟩
      refine ite2 (fun h2 => ?_) (fun h2 => ?_)
      · have h2 : ¬ (x.length : Int) ≤ 12 := by
          intro z
          rw [decide_eq_true z] at h2
          cases h2
        have e : isWord first others (.str x) = false := by
          show isWordL first others x.cps.toList = false
          unfold isWordL
          rw [decide_eq_false (by rw [xl]; omega)]; rfl
        exact fin false True e H (Kp.refl _ _)
      · have h2 : (x.length : Int) ≤ 12 := by
          by_cases z : (x.length : Int) ≤ 12
          · exact z
          · rw [decide_eq_false z] at h2; exact absurd rfl h2
        cases hc : x.cps.toList with
        | nil => rw [hc] at xl; simp only [List.length_nil] at xl; omega
        | cons c r =>
          have h0 : x.cps.toList[0]? = some c := by rw [hc]; rfl
          have ew : ∀ b, (decide (c ∈ first.cps.toList) && x.cps.toList.all fun c => decide (c ∈ others.cps.toList)) = b → isWord first others (.str x) = b := by
            intro b e
            show isWordL first others x.cps.toList = b
            unfold isWordL
            rw [decide_eq_true (by rw [xl]; omega), ← e, hc]; rfl
          refine ⟨_, rfl, .inr (.inr ⟨x, 0, c, rfl, rfl, Nat.le_of_lt (mill small), atI_nat h0, _, rfl, c, first, rfl, rfl, _, rfl, ite2 (fun h3 => ?_) (fun h3 => ?_)⟩)⟩
          · refine ⟨_, rfl, x, rfl, fun L hL => ?_⟩
            refine lc_str (fun j H' => H' L = some (.lst ((x.cps.toList.take j).map fun c => V.bl (decide (c ∈ others.cps.toList)))) ∧ Kp [] H H') ⟨upd_same, Kp.new hL⟩ ?_ ?_
            · rintro j z H' hz ⟨q1, q2⟩
              refine ⟨rfl, yesI ⟨_, rfl, _, rfl, z, others, rfl, rfl, _, q1, ?_, ?_, q2.mut hL⟩⟩
              · rw [List.length_map, List.length_take]; exact mill (by omega)
              · rw [upd_same, List.take_add_one, hz, List.map_append]; rfl
            · rintro H' ⟨q1, q2⟩
              rw [List.take_length] at q1
              refine ⟨L, x.cps.toList.map fun c => decide (c ∈ others.cps.toList), rfl, SqL.of (by rw [q1, List.map_map]; rfl), ?_⟩
              refine fin _ True (ew _ ?_) H' q2
              rw [h3, Bool.true_and, List.all_map]; rfl
          · refine fin false True (ew _ ?_) H (Kp.refl _ _)
            rw [Bool.eq_false_iff.mpr h3]; rfl
    · have e : isWord first others (.str x) = false := by
        show isWordL first others x.cps.toList = false
        unfold isWordL
        rw [decide_eq_false (by
          intro z
          exact h1 (decide_eq_true (by omega)))]; rfl
      refine ⟨_, rfl, iteT ?_⟩
      exact fin false True e H (Kp.refl _ _)
  | _ => exact iteT (fin false True rfl H (Kp.refl _ _))
/-- a text is a name, a tag -/
theorem alnS_eq : lowS ++ ("0123456789" : Str) = alnS := rfl
theorem bothS_eq : lowS ++ uppS ++ ("0123456789" : Str) = bothS := rfl
theorem scIsName : FnScope ["thing"] ["thing"] (defScope sIsName) := ⟨rfl, rfl, rfl, by decide +kernel, rfl, by decide +kernel, by decide +kernel⟩
theorem okIsName {f g : Addr} {fd gd : FuncData} (F : Fun K "is_name" "is_name" sIsName f fd) (C : Cst K mg) (Dword : Df P w K mg base "is_word" 1 g gd ["thing", "first", "others"] (spWord K)) : FnOk P w K mg base CX0 2 f fd ["thing"] (spB K isName) := by
  refine F.ok scIsName (fun vs H Q E h => by obtain ⟨_, _, _, rfl, _⟩ := h; rfl) (fun cdv A outer s H vs Q E hr h => ?_)
  obtain ⟨M, v, d, rfl, a, few, k⟩ := h
  obtain ⟨t1, c1⟩ := C.small
  obtain ⟨t2, c2⟩ := C.digits
  obtain ⟨r, cr, hr2⟩ := C.reserved
  refine ⟨_, (pss_one (ps_ret (pe_and (pe_call Dword.ok (hr.mono (by decide)) (by rfl) Dword.m Dword.k Dword.b .nil pass0 (pa_cons (pv 0) (pa_cons (pe_glob (v := .str lowS) (by rfl) c1 ⟨_, rfl⟩) (pa_cons (pe_op op_add_str (pe_glob (v := .str lowS) (by rfl) c1 ⟨_, rfl⟩) (pe_glob (v := .str "0123456789") (by rfl) c2 ⟨_, rfl⟩)) pa_nil)))) (pe_one (pe_cmpR op_notIn_seq (pv 0) (pe_glob (v := .ref r) (by rfl) cr rfl) (by rfl)))))), ?_⟩
  refine ⟨_, rfl, _, _, rfl, rfl, by decide +kernel, M, v, d, lowS, alnS, rfl, a, few, fun H' kk => ⟨_, rfl, ite2 (fun z => ?_) (fun z => ?_)⟩⟩
  · have a := At.ext kk a
    cases a with
    | str x =>
      refine ⟨_, rfl, r, _, rfl, .inr (hr2 H'), rfl, flat_strs _, ?_⟩
      show Q (.bl (!inV (.str x) _)) H'
      rw [inV_strs]
      have e : isName (.str x) = !(resv.contains x) := by
        show (isWordL lowS alnS x.cps.toList && !(resv.contains x)) = _
        rw [show isWordL lowS alnS x.cps.toList = true from z, Bool.true_and]
      rw [← e]
      exact k H' kk
    | _ => exact absurd z Bool.false_ne_true
  · have e : isName d = false := by
      cases d with
      | str x =>
        show (isWordL lowS alnS x.cps.toList && !(resv.contains x)) = false
        rw [show isWordL lowS alnS x.cps.toList = false from Bool.eq_false_iff.mpr z, Bool.false_and]
      | _ => rfl
    rw [← e]
    exact k H' kk
theorem scIsTag : FnScope ["thing"] ["thing"] (defScope sIsTag) := ⟨rfl, rfl, rfl, by decide +kernel, rfl, by decide +kernel, by decide +kernel⟩
theorem okIsTag {f g : Addr} {fd gd : FuncData} (F : Fun K "is_tag" "is_tag" sIsTag f fd) (C : Cst K mg) (Dword : Df P w K mg base "is_word" 1 g gd ["thing", "first", "others"] (spWord K)) : FnOk P w K mg base CX0 2 f fd ["thing"] (spB K isTag) := by
  refine F.ok scIsTag (fun vs H Q E h => by obtain ⟨_, _, _, rfl, _⟩ := h; rfl) (fun cdv A outer s H vs Q E hr h => ?_)
  obtain ⟨M, v, d, rfl, a, few, k⟩ := h
  obtain ⟨t1, c1⟩ := C.small
  obtain ⟨t2, c2⟩ := C.digits
  obtain ⟨t3, c3⟩ := C.great
  refine ⟨_, (pss_one (ps_ret (pe_call Dword.ok (hr.mono (by decide)) (by rfl) Dword.m Dword.k Dword.b .nil pass0 (pa_cons (pv 0) (pa_cons (pe_glob (v := .str uppS) (by rfl) c3 ⟨_, rfl⟩) (pa_cons (pe_op op_add_str (pe_op op_add_str (pe_glob (v := .str lowS) (by rfl) c1 ⟨_, rfl⟩) (pe_glob (v := .str uppS) (by rfl) c3 ⟨_, rfl⟩)) (pe_glob (v := .str "0123456789") (by rfl) c2 ⟨_, rfl⟩)) pa_nil)))))), ?_⟩
  exact ⟨_, rfl, _, _, rfl, rfl, by decide +kernel, _, _, rfl, rfl, by decide +kernel, M, v, d, uppS, bothS, rfl, a, few, k⟩
end
end Dh
end

/-! Q10iD -/
section
set_option Elab.async false
set_option linter.all false
set_option maxRecDepth 100000
set_option maxHeartbeats 4000000
namespace Dh
open PySem PySem.Spec PyProof.Rows L2
theorem AtL.len {K : PySem.W.Frag} {M : List Addr} {H : Hp} {xs : List V} {ds : List PyData} (h : AtL K M H xs ds) : xs.length = ds.length := AtL.length h
def areNames : PyData → Bool
  | .tuple ds => ds.all isName
  | _ => false
def isBranch : PyData → Bool
  | .tuple [t, ns, _] => isTag t && areNames ns
  | _ => false
def areBranches : PyData → Bool
  | .tuple ds => decide (1 ≤ ds.length) && ds.all isBranch
  | _ => false
/-- a list of answers -/
def ans (f : PyData → Bool) (ds : List PyData) : List V := ds.map fun d => V.bl (f d)
theorem ans_bs (f : PyData → Bool) (ds : List PyData) : ans f ds = (ds.map f).map V.bl := by unfold ans; rw [List.map_map]; rfl
theorem ans_take {f : PyData → Bool} {ds : List PyData} {j : Nat} {d : PyData} (h : ds[j]? = some d) : ans f (ds.take (j + 1)) = ans f (ds.take j) ++ [V.bl (f d)] := by
  unfold ans
  rw [List.take_add_one, h, List.map_append]; rfl
section
variable {P : Program} {w : World} {K : PySem.W.Frag} {mg : Str → Option Value} {base : Heap}
theorem scNames : FnScope ["thing", "part"] ["thing"] (defScope sNames) := ⟨rfl, rfl, rfl, by decide +kernel, rfl, by decide +kernel, by decide +kernel⟩
theorem okNames {f g : Addr} {fd gd : FuncData} (F : Fun K "are_names" "are_names" sNames f fd) (T : Blt mg) (TF : BltF mg) (Dname : Df P w K mg base "is_name" 2 g gd ["thing"] (spB K isName)) : FnOk P w K mg base CX0 3 f fd ["thing"] (spB K areNames) := by
  refine F.ok scNames (fun vs H Q E h => by obtain ⟨_, _, _, rfl, _⟩ := h; rfl) (fun cdv A outer s H vs Q E hr h => ?_)
  obtain ⟨M, v, d, rfl, a, few, k⟩ := h
  refine ⟨_, (pss_one (ps_ret (pe_and (pe_callB call_isA (by rfl) TF.isinstance (by decide +kernel) (pa_cons (pv 0) (pa_cons (pe_bltn (v := .ty "tuple") (by rfl) T.tuple (by decide +kernel) rfl) pa_nil))) (pe_one (pe_callB (cr_all rfl) (by rfl) TF.all (by decide +kernel) (pa_cons (pe_lc (own := [("part", 1)]) (g := gName 1) (tt := tYes) rfl scNames.nd (pi_tup (pv 0)) (blkOk_by (N := ["thing", "part"]) (sc := defScope sNames) (by decide +kernel)) (fun _ _ _ _ _ => pg_name (i := 1) scNames.nd rfl (Or.inl rfl)) (fun _ _ _ _ _ => pts_nil) (fun _ _ _ _ _ => (pe_call Dname.ok (hr.mono (by decide)) (by rfl) Dname.m Dname.k Dname.b .nil pass0 (pa_cons (pv 1) pa_nil)))) pa_nil)))))), ?_⟩
  refine ⟨_, rfl, M, v, d, _, _, rfl, a, .tuple d, _, rfl, ?_⟩
  cases a with
  | @tup p xs ds sq nm al =>
    refine iteT ?_
    obtain ⟨len, all⟩ := few.tup
    refine ⟨_, rfl, p, rfl, ⟨xs, sq⟩, fun L hL => ?_⟩
    refine lc_tup (K := K) (a := p) (xs := xs) (fun j H' => H' L = some (.lst (ans isName (ds.take j))) ∧ Kp [] H H') ⟨upd_same, Kp.new hL⟩ (fun j H' _ h => h.2.sqT (by simp) sq) ?_ ?_
    · rintro j x H' hj ⟨q1, q2⟩
      obtain ⟨e, he, ae⟩ := al.get hj
      refine ⟨rfl, yesI ⟨_, rfl, M, x, e, rfl, At.ext q2 ae, all e (List.mem_of_getElem? he), fun H2 k2 => ⟨_, k2.at q1, ?_, ?_, (q2.trans k2).mut hL⟩⟩⟩
      · unfold ans; rw [List.length_map, List.length_take]; exact mill (by omega)
      · rw [upd_same, ans_take he]
    · rintro H' ⟨q1, q2⟩
      rw [al.len, List.take_length, ans_bs] at q1
      refine ⟨L, ds.map isName, rfl, SqL.of q1, ?_⟩
      have e : (ds.map isName).all id = areNames (.tuple ds) := by
        rw [List.all_map]; rfl
      rw [e]
      exact k H' q2
  | _ => exact iteF (k H (Kp.refl _ _))
theorem scBranch : FnScope ["thing"] ["thing"] (defScope sBranch) := ⟨rfl, rfl, rfl, by decide +kernel, rfl, by decide +kernel, by decide +kernel⟩
theorem okBranch {f g g2 : Addr} {fd gd gd2 : FuncData} (F : Fun K "is_branch" "is_branch" sBranch f fd) (T : Blt mg) (TF : BltF mg) (Dtag : Df P w K mg base "is_tag" 2 g gd ["thing"] (spB K isTag)) (Dnames : Df P w K mg base "are_names" 3 g2 gd2 ["thing"] (spB K areNames)) : FnOk P w K mg base CX0 4 f fd ["thing"] (spB K isBranch) := by
  refine F.ok scBranch (fun vs H Q E h => by obtain ⟨_, _, _, rfl, _⟩ := h; rfl) (fun cdv A outer s H vs Q E hr h => ?_)
  obtain ⟨M, v, d, rfl, a, few, k⟩ := h
  refine ⟨_, (pss_one (ps_ret (pe_and (pe_callB call_isA (by rfl) TF.isinstance (by decide +kernel) (pa_cons (pv 0) (pa_cons (pe_bltn (v := .ty "tuple") (by rfl) T.tuple (by decide +kernel) rfl) pa_nil))) (pe_and (pe_cmpR op_eq (pe_callB call_len (by rfl) T.len (by decide +kernel) (pa_cons (pv 0) pa_nil)) pe_int (nomark _)) (pe_and (pe_call Dtag.ok (hr.mono (by decide)) (by rfl) Dtag.m Dtag.k Dtag.b .nil pass0 (pa_cons (pe_ix ix_tup (pv 0) pe_int (fun _ _ => rfl)) pa_nil)) (pe_one (pe_call Dnames.ok (hr.mono (by decide)) (by rfl) Dnames.m Dnames.k Dnames.b .nil pass0 (pa_cons (pe_ix ix_tup (pv 0) pe_int (fun _ _ => rfl)) pa_nil)))))))), ?_⟩
  refine ⟨_, rfl, M, v, d, _, _, rfl, a, .tuple d, _, rfl, ?_⟩
  cases a with
  | @tup p xs ds sq nm al =>
    refine iteT ?_
    obtain ⟨len, all⟩ := few.tup
    have xl := al.len
    refine ⟨_, rfl, _, xs.length, rfl, .inr ⟨_, sq, rfl⟩, rfl, _, rfl, ite2 (fun z => ?_) (fun z => ?_)⟩
    · have z : (xs.length : Int) = 3 := V.int.inj (of_decide_eq_true z)
      match xs, ds, al, z, xl with
      | [x0, x1, x2], [d0, d1, d2], .cons a0 (.cons a1 (.cons a2 .nil)), _, _ =>
        refine ⟨_, rfl, p, _, 0, x0, rfl, rfl, sq, atI_nat rfl, M, x0, d0, rfl, a0, all d0 (by simp), fun H2 k2 => ⟨_, rfl, ite2 (fun z2 => ?_) (fun z2 => ?_)⟩⟩
        · refine ⟨_, rfl, p, _, 1, x1, rfl, rfl, k2.sqT (by simp) sq, atI_nat rfl, M, x1, d1, rfl, At.ext k2 a1, all d1 (by simp), fun H3 k3 => ?_⟩
          have e : areNames d1 = isBranch (.tuple [d0, d1, d2]) := by
            show _ = (isTag d0 && areNames d1)
            rw [z2, Bool.true_and]
          rw [e]
          exact k H3 (k2.trans k3)
        · have e : false = isBranch (.tuple [d0, d1, d2]) := by
            show _ = (isTag d0 && areNames d1)
            rw [Bool.eq_false_iff.mpr z2, Bool.false_and]
          rw [e]
          exact k H2 k2
    · have e : false = isBranch (.tuple ds) := by
        unfold isBranch
        split
        · rename_i h
          cases h
          exact absurd (decide_eq_true (by rw [xl]; rfl)) z
        · rfl
      rw [e]
      exact k H (Kp.refl _ _)
  | _ => exact iteF (k H (Kp.refl _ _))
theorem scBranches : FnScope ["thing", "part"] ["thing"] (defScope sBranches) := ⟨rfl, rfl, rfl, by decide +kernel, rfl, by decide +kernel, by decide +kernel⟩
theorem okBranches {f g : Addr} {fd gd : FuncData} (F : Fun K "are_branches" "are_branches" sBranches f fd) (T : Blt mg) (TF : BltF mg) (Dbr : Df P w K mg base "is_branch" 4 g gd ["thing"] (spB K isBranch)) : FnOk P w K mg base CX0 5 f fd ["thing"] (spB K areBranches) := by
  refine F.ok scBranches (fun vs H Q E h => by obtain ⟨_, _, _, rfl, _⟩ := h; rfl) (fun cdv A outer s H vs Q E hr h => ?_)
  obtain ⟨M, v, d, rfl, a, few, k⟩ := h
  refine ⟨_, (pss_one (ps_ret (pe_and (pe_callB call_isA (by rfl) TF.isinstance (by decide +kernel) (pa_cons (pv 0) (pa_cons (pe_bltn (v := .ty "tuple") (by rfl) T.tuple (by decide +kernel) rfl) pa_nil))) (pe_and (pe_cmpR op_ge (pe_callB call_len (by rfl) T.len (by decide +kernel) (pa_cons (pv 0) pa_nil)) pe_int (nomark _)) (pe_one (pe_callB (cr_all rfl) (by rfl) TF.all (by decide +kernel) (pa_cons (pe_lc (own := [("part", 1)]) (g := gName 1) (tt := tYes) rfl scBranches.nd (pi_tup (pv 0)) (blkOk_by (N := ["thing", "part"]) (sc := defScope sBranches) (by decide +kernel)) (fun _ _ _ _ _ => pg_name (i := 1) scBranches.nd rfl (Or.inl rfl)) (fun _ _ _ _ _ => pts_nil) (fun _ _ _ _ _ => (pe_call Dbr.ok (hr.mono (by decide)) (by rfl) Dbr.m Dbr.k Dbr.b .nil pass0 (pa_cons (pv 1) pa_nil)))) pa_nil))))))), ?_⟩
  refine ⟨_, rfl, M, v, d, _, _, rfl, a, .tuple d, _, rfl, ?_⟩
  cases a with
  | @tup p xs ds sq nm al =>
    refine iteT ?_
    obtain ⟨len, all⟩ := few.tup
    have xl := al.len
    refine ⟨_, rfl, _, xs.length, rfl, .inr ⟨_, sq, rfl⟩, _, _, rfl, rfl, _, rfl, ite2 (fun z => ?_) (fun z => ?_)⟩
    · have z : decide (1 ≤ ds.length) = true := by
        have := of_decide_eq_true z
        exact decide_eq_true (by omega)
      refine ⟨_, rfl, p, rfl, ⟨xs, sq⟩, fun L hL => ?_⟩
      refine lc_tup (K := K) (a := p) (xs := xs) (fun j H' => H' L = some (.lst (ans isBranch (ds.take j))) ∧ Kp [] H H') ⟨upd_same, Kp.new hL⟩ (fun j H' _ h => h.2.sqT (by simp) sq) ?_ ?_
      · rintro j x H' hj ⟨q1, q2⟩
        obtain ⟨e, he, ae⟩ := al.get hj
        refine ⟨rfl, yesI ⟨_, rfl, M, x, e, rfl, At.ext q2 ae, all e (List.mem_of_getElem? he), fun H2 k2 => ⟨_, k2.at q1, ?_, ?_, (q2.trans k2).mut hL⟩⟩⟩
        · unfold ans; rw [List.length_map, List.length_take]; exact mill (by omega)
        · rw [upd_same, ans_take he]
      · rintro H' ⟨q1, q2⟩
        rw [xl, List.take_length, ans_bs] at q1
        refine ⟨L, ds.map isBranch, rfl, SqL.of q1, ?_⟩
        have e : (ds.map isBranch).all id = areBranches (.tuple ds) := by
          show _ = (decide (1 ≤ ds.length) && ds.all isBranch)
          rw [z, Bool.true_and, List.all_map]; rfl
        rw [e]
        exact k H' q2
    · have e : false = areBranches (.tuple ds) := by
        show _ = (decide (1 ≤ ds.length) && ds.all isBranch)
        rw [decide_eq_false (fun y => z (decide_eq_true (by omega))), Bool.false_and]
      rw [e]
      exact k H (Kp.refl _ _)
  | _ => exact iteF (k H (Kp.refl _ _))
end
end Dh
end

/-! Q10iE -/
section
set_option Elab.async false
set_option linter.all false
set_option maxRecDepth 100000
set_option maxHeartbeats 4000000
namespace Dh
open PySem PySem.Spec PyProof.Rows L2
/-- [.. for x, y in zip(t, u)], two tuples of one length -/
theorem lc_zipT {K : PySem.W.Frag} {a b : Addr} {xs ys : List V} {g : TG} {tt : L2.TT} {te : TE} {vs : List Nat} {σ : L2.St} {H1 : Hp} {D : Addr} {Qd : Hp → Prop} (hl : xs.length = ys.length) (Pv : Nat → Hp → Prop) (h0 : Pv 0 (upd H1 D (.lst [])))
    (hq : ∀ i H, Pv i H → SqT K H a xs ∧ SqT K H b ys)
    (hs : ∀ i x y T H, xs[i]? = some x → ys[i]? = some y → Pv i H → H T = none → g (.ref T) (wipe σ vs) (upd H T (.tup [x, y])) fun σ2 H2 => wipe σ2 vs = wipe σ vs ∧ tt σ2 H2 fun b H3 =>
      if b = true then te σ2 H3 fun y H4 => ∃ acc, H4 D = some (.lst acc) ∧ acc.length < sizeLine ∧ Pv (i + 1) (upd H4 D (.lst (acc ++ [y]))) else Pv (i + 1) H3) (hd : ∀ H, Pv xs.length H → Qd H) :
    ∃ W : Nat → Nat → Hp → Prop, (∃ m, W 0 m (upd H1 D (.lst []))) ∧ ∀ i m H, W i m H →
      ((RZ.ItzT K a b).stop i H ∧ Qd H) ∨ ((RZ.ItzT K a b).go i H ∧ ∃ Nx : Hp → Prop, (∀ H', Nx H' → ∃ m', m' < m ∧ W (i + 1) m' H') ∧ ∀ v H', (RZ.ItzT K a b).yld i H v H' → g v (wipe σ vs) H' fun σ2 H2 => wipe σ2 vs = wipe σ vs ∧ tt σ2 H2 fun b H3 =>
        if b = true then te σ2 H3 fun y H4 => ∃ acc, H4 D = some (.lst acc) ∧ acc.length < sizeLine ∧ Nx (upd H4 D (.lst (acc ++ [y]))) else Nx H3) := by
  refine ⟨fun i m H => m = xs.length - i ∧ i ≤ xs.length ∧ Pv i H, ⟨xs.length, rfl, Nat.zero_le _, h0⟩, ?_⟩
  rintro i m H ⟨rfl, hi, p⟩
  obtain ⟨s1, s2⟩ := hq i H p
  rcases Nat.lt_or_ge i xs.length with lt | ge
  · have lt2 : i < ys.length := by omega
    refine .inr ⟨⟨xs, ys, _, _, s1, s2, List.getElem?_eq_getElem lt, List.getElem?_eq_getElem lt2⟩, Pv (i + 1), fun H' p' => ⟨xs.length - (i + 1), by omega, rfl, lt, p'⟩, fun v H' z => ?_⟩
    obtain ⟨T, x, y, rfl, hT, rfl, f1, f2⟩ := z
    exact hs i x y T H (f1 xs s1) (f2 ys s2) p hT
  · have e : i = xs.length := by omega
    subst e
    exact .inl ⟨⟨xs, ys, s1, s2, .inl (Nat.le_refl _)⟩, hd H p⟩

theorem sIx_one (n d : Nat) : HT.sIx (n + 1) d (some 1) = 1 := by
  show (if (1 : Int) < 0 then ((1 : Int) + ((n + 1 : Nat) : Int)).toNat else min (1 : Int).toNat (n + 1)) = 1
  rw [if_neg (by decide)]
  show min 1 (n + 1) = 1
  omega
theorem cut_one (x : V) (r : List V) : cutV (x :: r) (some 1) none = r := by
  unfold cutV
  rw [show (x :: r).length = r.length + 1 from rfl, sIx_one]
  show (r.take (r.length + 1 - 1)) = r
  rw [Nat.add_sub_cancel, List.take_length]
def sortOk (s : Str) : PyData → Bool :=
  if s = "integer" then isInteger else if s = "name" then isName else if s = "tag" then isTag else if s = "test" then isTest else if s = "sign" then isSign else if s = "expression" then (fun _ => true) else if s = "expressions" then isTup else areBranches
def sorts : List Str := ["integer", "name", "tag", "test", "sign", "expression", "expressions", "branches"]
def forms : List (Str × List Str) := [("int", ["integer"]), ("name", ["name"]), ("call", ["name", "expressions"]), ("make", ["tag", "expressions"]), ("case", ["expression", "branches"]), ("let", ["name", "expression", "expression"]),
  ("if", ["test", "expression", "expression", "expression", "expression"]), ("op", ["sign", "expression", "expression"]), ("delay", ["expression"]), ("force", ["expression"])]
theorem forms_ok : ∀ p ∈ forms, p.2.length ≤ 5 ∧ ∀ s ∈ p.2, s ∈ sorts := by decide +kernel
def hasForm : PyData → Bool
  | .tuple (.str w :: ps) => match forms.lookup w with
    | some ss => decide (ps.length = ss.length) && (ps.zip ss).all fun q => sortOk q.2 q.1
    | none => false
  | _ => false
theorem forms_get {w : Str} {ss : List Str} (h : forms.lookup w = some ss) : (w, ss) ∈ forms := by
  have go : ∀ {l : List (Str × List Str)}, l.lookup w = some ss → (w, ss) ∈ l := by
    intro l
    induction l with
    | nil => intro h; cases h
    | cons p r ih =>
      intro h
      obtain ⟨a, b⟩ := p
      rw [List.lookup_cons] at h
      by_cases e : w = a
      · subst e
        rw [beq_self_eq_true] at h
        cases h
        exact List.mem_cons_self
      · rw [beq_eq_false_iff_ne.mpr e] at h
        exact List.mem_cons_of_mem _ (ih h)
  exact go h
/-- the module's tables -/
structure Askd (P : Program) (w : World) (K : PySem.W.Frag) (mg : Str → Option Value) (base : Heap) : Prop where
  ex : ∃ da : Addr, mg "ASKED" = some (.ref da) ∧ ∀ s ∈ sorts, ∃ f : Addr, KDct K w da s (.ref f) ∧ PySem.W.keepIn K (.ref f) = true ∧ FnR P w K mg base CX0 5 f (spB K (sortOk s))
structure Fms (w : World) (K : PySem.W.Frag) (mg : Str → Option Value) : Prop where
  ex : ∃ (df : Addr) (es : Array DictEntry) (n : Nat), mg "FORMS" = some (.ref df) ∧ KDict K w df es n ∧ ∀ z : Str, ∃ r, PySem.W.nsIn K df z = some r ∧ (forms.lookup z = none → r = none) ∧ ∀ ss, forms.lookup z = some ss → ∃ t : Addr, r = some (.ref t) ∧ ∀ H : Hp, SqT K H t (ss.map V.str)
def spSort (K : PySem.W.Frag) : Sp := fun vs H Q _ => ∃ (M : List Addr) (v : V) (d : PyData) (s : Str), vs = [v, .str s] ∧ s ∈ sorts ∧ At K M H v d ∧ Few d ∧ ∀ H', Kp [] H H' → Q (.bl (sortOk s d)) H'
section
variable {P : Program} {w : World} {K : PySem.W.Frag} {mg : Str → Option Value} {base : Heap}
theorem scOfSort : FnScope ["part", "sort", "ask"] ["part", "sort"] (defScope sOfSort) := ⟨rfl, rfl, rfl, by decide +kernel, rfl, by decide +kernel, by decide +kernel⟩
theorem okOfSort {f : Addr} {fd : FuncData} (F : Fun K "is_of_sort" "is_of_sort" sOfSort f fd) (A' : Askd P w K mg base) : FnOk P w K mg base CX0 6 f fd ["part", "sort"] (spSort K) := by
  refine F.ok scOfSort (fun vs H Q E h => by obtain ⟨_, _, _, _, rfl, _⟩ := h; rfl) (fun cdv A outer s H vs Q E hr h => ?_)
  obtain ⟨M, v, d, so, rfl, hs, a, few, k⟩ := h
  obtain ⟨da, ma, ask⟩ := A'.ex
  obtain ⟨g, kd, kg, R⟩ := ask so hs
  refine ⟨_, (pss_cons (ps_set (i := 2) scOfSort.nd rfl (Or.inl rfl) (pe_ix ix_kdict (pe_glob (v := .ref da) (by rfl) ma rfl) (pv 1) (fun _ _ => rfl))) 
    (pss_one (ps_ret (ItX.pe_callV (i := 2) R (hr.mono (by decide)) kg pass0 rfl (.inl rfl) (pa_cons (pv 0) pa_nil))))), ?_⟩
  exact ⟨_, rfl, da, so, .ref g, rfl, rfl, kd, rfl, _, rfl, M, v, d, rfl, a, few, k⟩
abbrev namesHF : List Str := ["thing", "sorts", "part", "sort"]
theorem scHasForm : FnScope namesHF ["thing"] (defScope sHasForm) := ⟨rfl, rfl, rfl, by decide +kernel, rfl, by decide +kernel, by decide +kernel⟩
theorem okHasForm {f g : Addr} {fd gd : FuncData} (F : Fun K "has_form" "has_form" sHasForm f fd) (T : Blt mg) (TF : BltF mg) (Fm : Fms w K mg) (Dso : Df P w K mg base "is_of_sort" 6 g gd ["part", "sort"] (spSort K)) : FnOk P w K mg base CX0 7 f fd ["thing"] (spB K hasForm) := by
  refine F.ok scHasForm (fun vs H Q E h => by obtain ⟨_, _, _, rfl, _⟩ := h; rfl) (fun cdv A outer s H vs Q E hr h => ?_)
  obtain ⟨M, v, d, rfl, a, few, k⟩ := h
  obtain ⟨df, es, n, mf, KD, look⟩ := Fm.ex
  refine ⟨_, (pss_cons (ps_if (PW.pt (pw_or (pt_not (pt_val (pe_callB call_isA (by rfl) TF.isinstance (by decide +kernel) (pa_cons (pv 0) (pa_cons (pe_bltn (v := .ty "tuple") (by rfl) T.tuple (by decide +kernel) rfl) pa_nil))))) (pw_or1 (pt_cmpR op_eq (pe_callB call_len (by rfl) T.len (by decide +kernel) (pa_cons (pv 0) pa_nil)) pe_int (nomark _))))) (pss_one (ps_ret pe_bl)) pss_nil) 
    (pss_cons (ps_if (PW.pt (pw_or (pt_not (pt_val (pe_callB call_isA (by rfl) TF.isinstance (by decide +kernel) (pa_cons (pe_ix ix_tup (pv 0) pe_int (fun _ _ => rfl)) (pa_cons (pe_bltn (v := .ty "str") (by rfl) T.str (by decide +kernel) rfl) pa_nil))))) (pw_or1 (pt_cmpR (op_notIn_kd KD) (pe_ix ix_tup (pv 0) pe_int (fun _ _ => rfl)) (pe_glob (v := .ref df) (by rfl) mf rfl) (by rfl))))) (pss_one (ps_ret pe_bl)) pss_nil) 
    (pss_cons (ps_set (i := 1) scHasForm.nd rfl (Or.inl rfl) (pe_ix ix_kdict (pe_glob (v := .ref df) (by rfl) mf rfl) (pe_ix ix_tup (pv 0) pe_int (fun _ _ => rfl)) (fun _ _ => rfl))) 
    (pss_cons (ps_if (pt_cmpR op_ne (pe_callB call_len (by rfl) T.len (by decide +kernel) (pa_cons (pv 0) pa_nil)) (pe_op op_add pe_int (pe_callB call_len (by rfl) T.len (by decide +kernel) (pa_cons (pv 1) pa_nil))) (nomark _)) (pss_one (ps_ret pe_bl)) pss_nil) 
    (pss_one (ps_ret (pe_callB (cr_all rfl) (by rfl) TF.all (by decide +kernel) (pa_cons (pe_lc (own := [("part", 2), ("sort", 3)]) (g := gTup K 2 (gCons (gName 2) (gCons (gName 3) gNil))) (tt := tYes) rfl scHasForm.nd (RZ.pi_zipA (by rfl) TF.zip (pa_cons (pe_slice sl_tupA (pv 0) (po_some pe_int) po_none) (pa_cons (pv 1) pa_nil))) (blkOk_by (N := namesHF) (sc := defScope sHasForm) (by decide +kernel)) (fun _ _ _ _ _ => (pg_tup (by rfl) (pgs_cons (pg_name (i := 2) scHasForm.nd rfl (Or.inl rfl)) (pgs_cons (pg_name (i := 3) scHasForm.nd rfl (Or.inl rfl)) pgs_nil)))) (fun _ _ _ _ _ => pts_nil) (fun _ _ _ _ _ => (pe_call Dso.ok (hr.mono (by decide)) (by rfl) Dso.m Dso.k Dso.b .nil pass0 (pa_cons (pv 2) (pa_cons (pv 3) pa_nil))))) pa_nil)))))))), ?_⟩
  refine ⟨_, rfl, M, v, d, _, _, rfl, a, .tuple d, _, rfl, ?_⟩
  have fin : ∀ {H' : Hp} {b : Bool}, hasForm d = b → Kp [] H H' → Q (.bl b) H' := fun e kk => e ▸ k _ kk
  cases a with
  | @tup p xs ds sq nm al =>
    refine iteF ?_
    obtain ⟨len, all⟩ := few.tup
    have xl := al.len
    refine ⟨_, rfl, _, xs.length, rfl, .inr ⟨_, sq, rfl⟩, rfl, _, rfl, ite2 (fun z => ?_) (fun z => ?_)⟩
    · have z : (xs.length : Int) = 0 := V.int.inj (of_decide_eq_true z)
      cases ds with
      | nil => exact fin rfl (Kp.refl _ _)
      | cons e r => rw [xl] at z; simp only [List.length_cons] at z; omega
    · match xs, ds, al, xl, z, sq with
      | [], [], _, _, z, _ => exact absurd (by rfl) z
      | x0 :: xr, d0 :: dr, .cons a0 ar, xl, _, sq =>
        refine ⟨_, rfl, p, _, 0, x0, rfl, rfl, sq, atI_nat rfl, M, x0, d0, _, _, rfl, a0, .str d0, _, rfl, ?_⟩
        cases a0 with
        | str w0 =>
          refine iteF ?_
          obtain ⟨r, hr1, hr2, hr3⟩ := look w0
          refine ⟨_, rfl, p, _, 0, _, rfl, rfl, sq, atI_nat rfl, w0, r, rfl, rfl, hr1, _, rfl, ?_⟩
          cases hl : forms.lookup w0 with
          | none =>
            rw [hr2 hl]
            refine iteT (fin ?_ (Kp.refl _ _))
            show (match forms.lookup w0 with | some ss => _ | none => false) = false
            rw [hl]
          | some ss =>
            obtain ⟨t, rfl, st⟩ := hr3 ss hl
            refine iteF ?_
            obtain ⟨s5, sin⟩ := forms_ok _ (forms_get hl)
            refine ⟨_, rfl, p, _, 0, _, rfl, rfl, sq, atI_nat rfl, df, w0, .ref t, rfl, rfl, ⟨es, n, _, KD.at_, KD.lit, hr1, rfl⟩, ?_⟩
            have ef : hasForm (.tuple (.str w0 :: dr)) = (decide (dr.length = ss.length) && (dr.zip ss).all fun q => sortOk q.2 q.1) := by
              show (match forms.lookup w0 with | some ss => _ | none => false) = _
              rw [hl]
            refine ⟨_, rfl, _, _, rfl, .inr ⟨_, sq, rfl⟩, _, rfl, _, ss.length, rfl, .inr ⟨_, st H, by rw [List.length_map]⟩, ?_⟩
            refine ⟨_, _, rfl, rfl, rfl, _, rfl, ite2 (fun z2 => ?_) (fun z2 => ?_)⟩
            · refine fin ?_ (Kp.refl _ _)
              rw [ef, decide_eq_false, Bool.false_and]
              intro e
              rw [decide_eq_true (congrArg V.int (by rw [xl, List.length_cons, e]; omega))] at z2
              cases z2
            · have e2 : dr.length = ss.length := by
                have h : V.int ((V.str w0 :: xr).length : Int) = V.int (1 + (ss.length : Int)) := by
                  by_cases y : V.int ((V.str w0 :: xr).length : Int) = V.int (1 + (ss.length : Int))
                  · exact y
                  · rw [decide_eq_false y] at z2
                    exact absurd rfl z2
                have h := V.int.inj h
                rw [xl, List.length_cons] at h
                omega
              have e1 : xr.length = dr.length := ar.len
              refine ⟨_, rfl, _, rfl, p, _, rfl, sq, (fun y => absurd y.1 (by rw [show HT.sIx (V.str w0 :: xr).length 0 (some 1) = 1 from sIx_one _ _]; decide)), fun _ q hq => ?_⟩
              rw [cut_one]
              generalize hG : upd H q _ = H1
              obtain ⟨eq, k1⟩ : H1 q = some _ ∧ Kp [] H H1 := ⟨by rw [← hG]; exact upd_same, by rw [← hG]; exact Kp.new hq⟩
              clear hG
              refine ⟨_, rfl, q, t, xr, ss.map V.str, rfl, .inr ⟨SqT.of eq, st H1, fun L hL => ?_⟩⟩
              refine lc_zipT (K := K) (a := q) (b := t) (xs := xr) (ys := ss.map V.str) (by rw [List.length_map]; omega) (fun j H' => H' L = some (.lst (((dr.zip ss).take j).map fun z => V.bl (sortOk z.2 z.1))) ∧ Kp [] H1 H') ⟨upd_same, Kp.new hL⟩ (fun j H' h => ⟨SqT.of (h.2.at eq), st H'⟩) ?_ ?_
              · rintro j x y T' H' hx hy ⟨q1, q2⟩ hT
                obtain ⟨dx, hdx, ax⟩ := ar.get hx
                rw [List.getElem?_map] at hy
                obtain ⟨so, hso, rfl⟩ := Option.map_eq_some_iff.mp hy
                generalize hG : upd H' T' _ = H2
                obtain ⟨e3, k3⟩ : H2 T' = some _ ∧ Kp [] H' H2 := ⟨by rw [← hG]; exact upd_same, by rw [← hG]; exact Kp.new hT⟩
                clear hG
                have kk := (k1.trans q2).trans k3
                have hz : (dr.zip ss)[j]? = some (dx, so) := by rw [List.getElem?_zip_eq_some]; exact ⟨hdx, hso⟩
                refine ⟨T', _, rfl, SqT.of e3, rfl, _, _, rfl, _, _, rfl, rfl, rfl, yesI ⟨_, rfl, _, rfl, M, x, dx, so, rfl, sin so (List.mem_of_getElem? hso), At.ext kk ax, all dx (List.mem_cons_of_mem _ (List.mem_of_getElem? hdx)), fun H3 k4 => ⟨_, (k3.trans k4).at q1, ?_, ?_, ((q2.trans k3).trans k4).mut hL⟩⟩⟩
                · rw [List.length_map, List.length_take]; exact mill (by have := (List.getElem?_eq_some_iff.mp hdx).1; simp only [List.length_cons] at len; omega)
                · rw [upd_same, List.take_add_one, hz, List.map_append]; rfl
              · rintro H' ⟨q1, q2⟩
                have ez : xr.length = (dr.zip ss).length := by rw [List.length_zip]; omega
                rw [ez, List.take_length] at q1
                refine ⟨L, (dr.zip ss).map fun z => sortOk z.2 z.1, rfl, SqL.of (by rw [q1, List.map_map]; rfl), ?_⟩
                refine fin ?_ (k1.trans q2)
                rw [ef, decide_eq_true e2, Bool.true_and, List.all_map]; rfl
        | _ => exact iteT (fin rfl (Kp.refl _ _))
  | _ => exact iteT (fin rfl (Kp.refl _ _))
end
end Dh
end

/-! Q10iX -/
section

end

/-! Q10iF -/
section
set_option Elab.async false
set_option linter.all false
set_option maxRecDepth 100000
set_option maxHeartbeats 600000
namespace Dh
open PySem PySem.Spec PyProof.Rows L2
def itemsD : PyData → List PyData
  | .tuple ds => ds
  | _ => []
def thirdD : PyData → PyData
  | .tuple [_, _, b] => b
  | _ => .none
def partOf (q : PyData × Str) : List PyData := if q.2 = "expression" then [q.1] else if q.2 = "expressions" then itemsD q.1 else if q.2 = "branches" then (itemsD q.1).map thirdD else []
def innerOf (qs : List (PyData × Str)) : List PyData := (qs.map partOf).flatten
def innerD : PyData → List PyData
  | .tuple (.str w :: ps) => match forms.lookup w with
    | some ss => innerOf (ps.zip ss)
    | none => []
  | _ => []
theorem form_inv {d : PyData} (h : hasForm d = true) : ∃ w ps ss, d = .tuple (.str w :: ps) ∧ forms.lookup w = some ss ∧ ps.length = ss.length ∧ (∀ q ∈ ps.zip ss, sortOk q.2 q.1 = true) ∧ innerD d = innerOf (ps.zip ss) := by
  unfold hasForm at h
  split at h
  · rename_i w ps
    cases hl : forms.lookup w with
    | none => rw [hl] at h; cases h
    | some ss =>
      rw [hl] at h
      simp only [Bool.and_eq_true, decide_eq_true_eq, List.all_eq_true] at h
      refine ⟨w, ps, ss, rfl, hl, h.1, h.2, ?_⟩
      show (match forms.lookup w with | some ss => innerOf (ps.zip ss) | none => []) = _
      rw [hl]
  · cases h
theorem innerOf_take {qs : List (PyData × Str)} {j : Nat} {q : PyData × Str} (h : qs[j]? = some q) : innerOf (qs.take (j + 1)) = innerOf (qs.take j) ++ partOf q := by
  unfold innerOf
  rw [List.take_add_one, h, List.map_append, List.flatten_append]
  simp
theorem szA_app (a b : List PyData) : szA (a ++ b) = szA a + szA b := by
  induction a with
  | nil => simp [szA]
  | cons x r ih => simp only [List.cons_append, szA, ih]; omega
theorem third_sz (d : PyData) : sz (thirdD d) ≤ sz d := by
  unfold thirdD
  split
  · simp only [sz, szA]; omega
  · have := sz_pos d; simpa only [sz] using this
theorem thirds_sz (ds : List PyData) : szA (ds.map thirdD) ≤ szA ds := by
  induction ds with
  | nil => exact Nat.le_refl _
  | cons x r ih => have := third_sz x; simp only [List.map_cons, szA]; omega
theorem part_sz (q : PyData × Str) : szA (partOf q) ≤ sz q.1 := by
  have it : szA (itemsD q.1) ≤ sz q.1 := by
    unfold itemsD
    split
    · rename_i e; rw [e]; simp only [sz]; omega
    · simp [szA]
  unfold partOf
  split
  · simp [szA]
  · split
    · exact it
    · split
      · exact Nat.le_trans (thirds_sz _) it
      · simp [szA]
theorem inner_sz (qs : List (PyData × Str)) : szA (innerOf qs) ≤ szA (qs.map (·.1)) := by
  induction qs with
  | nil => exact Nat.le_refl _
  | cons q r ih =>
    have := part_sz q
    show szA (partOf q ++ innerOf r) ≤ sz q.1 + szA (r.map (·.1))
    rw [szA_app]; omega
/-- what is within is less -/
theorem innerD_sz {d : PyData} (h : hasForm d = true) : szA (innerD d) < sz d := by
  obtain ⟨w, ps, ss, rfl, hl, len, _, e⟩ := form_inv h
  rw [e]
  have := inner_sz (ps.zip ss)
  rw [List.map_fst_zip (by omega)] at this
  simp only [sz, szA]; omega
theorem branch_open {K : PySem.W.Frag} {M : List Addr} {H : Hp} {y : V} {d : PyData} (h : At K M H y d) (ib : isBranch d = true) : ∃ (p4 : Addr) (y0 y1 y2 : V), y = .ref p4 ∧ SqT K H p4 [y0, y1, y2] ∧ At K M H y2 (thirdD d) := by
  unfold isBranch at ib
  split at ib
  · rename_i dt dn d3
    cases h with
    | tup sq nm al =>
      cases al with
      | cons b0 al =>
        cases al with
        | cons b1 al =>
          cases al with
          | cons b2 al =>
            cases al
            exact ⟨_, _, _, _, rfl, sq, b2⟩
  · cases ib
def spInner (K : PySem.W.Frag) : Sp := fun vs H Q _ => ∃ (M : List Addr) (H0 : Hp) (v : V) (d : PyData), vs = [v] ∧ Kp [] H0 H ∧ At K M H0 v d ∧ Few d ∧ hasForm d = true ∧ ∀ (H' : Hp) (L : Addr) (us : List V), H L = none → H' L = some (.lst us) → AtL K M H0 us (innerD d) → Kp [] H H' → Q (.ref L) H'
abbrev namesIn : List Str := ["thing", "found", "part", "sort", "branch"]
section
variable {P : Program} {w : World} {K : PySem.W.Frag} {mg : Str → Option Value} {base : Heap}
theorem scInner : FnScope namesIn ["thing"] (defScope sInner) := ⟨rfl, rfl, rfl, by decide +kernel, rfl, by decide +kernel, by decide +kernel⟩
theorem okInner {f : Addr} {fd : FuncData} (F : Fun K "inner" "inner" sInner f fd) (TF : BltF mg) (Fm : Fms w K mg) : FnOk P w K mg base CX0 1 f fd ["thing"] (spInner K) := by
  refine F.ok scInner (fun vs H Q E h => by obtain ⟨_, _, _, _, rfl, _⟩ := h; rfl) (fun cdv A outer s H vs Q E hr h => ?_)
  obtain ⟨M, H0, v, d, rfl, k0, a, few, hf, k⟩ := h
  obtain ⟨df, es, n, mf, KD, look⟩ := Fm.ex
  refine ⟨_, (pss_cons (ps_set (i := 1) scInner.nd rfl (Or.inl rfl) (pe_lst pa_nil)) 
    (pss_cons (ps_for PassesOwn.never rfl (RZ.pi_zipA (by rfl) TF.zip (pa_cons (pe_slice sl_tupA (pv 0) (po_some pe_int) po_none) (pa_cons (pe_ix ix_kdict (pe_glob (v := .ref df) (by rfl) mf rfl) (pe_ix ix_tup (pv 0) pe_int (fun _ _ => rfl)) (fun _ _ => rfl)) pa_nil))) (pg_tup (by rfl) (pgs_cons (pg_name (i := 2) scInner.nd rfl (Or.inl rfl)) (pgs_cons (pg_name (i := 3) scInner.nd rfl (Or.inl rfl)) pgs_nil)))
      (pss_one (ps_if (pt_cmpR op_eq (pv 3) pe_str (nomark _)) (pss_one (ps_expr (pe_bm PySem.F.plainAttrs_list PySem.F.slot_list_append PySem.F.type_list_append mt_append (pv 1) (pa_cons (pv 2) pa_nil)))) (pss_one (ps_if (pt_cmpR op_eq (pv 3) pe_str (nomark _)) (pss_one (ps_expr (pe_bm PySem.F.plainAttrs_list PySem.F.slot_list_extend PySem.F.type_list_extend mt_extendT (pv 1) (pa_cons (pv 2) pa_nil)))) (pss_one (ps_if (pt_cmpR op_eq (pv 3) pe_str (nomark _)) (pss_one (ps_expr (pe_bm PySem.F.plainAttrs_list PySem.F.slot_list_extend PySem.F.type_list_extend mt_extend (pv 1) (pa_cons (pe_lc (own := [("branch", 4)]) (g := gName 4) (tt := tYes) (te := tOp (rIxT K) (tVar 4) (tC (.int 2))) rfl scInner.nd (pi_tup (pv 2)) (blkOk_by (N := namesIn) (sc := defScope sInner) (by decide +kernel)) (fun _ _ _ _ _ => pg_name (i := 4) scInner.nd rfl (Or.inl rfl)) (fun _ _ _ _ _ => pts_nil) (fun _ _ _ _ _ => (pe_ix ix_tup (pv 4) pe_int (fun _ _ => rfl)))) pa_nil)))) pss_nil))))))) 
    (pss_one (ps_ret (pv 1))))), ?_⟩
  obtain ⟨w0, ps, ss, rfl, hl, len, ok, ei⟩ := form_inv hf
  cases a with
  | @tup p xs _ sq nm al =>
    obtain ⟨x0, xr, rfl, a0, ar⟩ : ∃ x0 xr, xs = x0 :: xr ∧ At K M H0 x0 (.str w0) ∧ AtL K M H0 xr ps := by
      cases al with
      | cons a0 ar => exact ⟨_, _, rfl, a0, ar⟩
    cases a0
    obtain ⟨lenT, all⟩ := few.tup
    refine ⟨by decide, fun L hL => ?_⟩
    generalize hG : upd H L _ = H1
    obtain ⟨eL, k1⟩ : H1 L = some (.lst []) ∧ Kp [] H H1 := ⟨by rw [← hG]; exact upd_same, by rw [← hG]; exact Kp.new hL⟩
    clear hG
    have sq1 := k1.sqT (by simp) (k0.sqT (by simp) sq)
    refine ⟨_, rfl, _, rfl, p, _, rfl, sq1, (fun y => absurd y.1 (by rw [show HT.sIx (V.str w0 :: xr).length 0 (some 1) = 1 from sIx_one _ _]; decide)), fun _ q hq => ?_⟩
    rw [cut_one]
    generalize hG : upd H1 q _ = H2
    obtain ⟨eq, k2⟩ : H2 q = some _ ∧ Kp [] H1 H2 := ⟨by rw [← hG]; exact upd_same, by rw [← hG]; exact Kp.new hq⟩
    clear hG
    obtain ⟨r, hr1, _, hr3⟩ := look w0
    obtain ⟨t, rfl, st⟩ := hr3 ss hl
    have e1 : xr.length = ps.length := ar.len
    have nLq : L ≠ q := ne_of_none eL hq
    refine ⟨_, rfl, p, _, 0, _, rfl, rfl, k2.sqT (by simp) sq1, atI_nat rfl, df, w0, .ref t, rfl, rfl, ⟨es, n, _, KD.at_, KD.lit, hr1, rfl⟩, q, t, xr, ss.map V.str, rfl, .inr ⟨SqT.of eq, st H2, ?_⟩⟩
    refine RZ.for_zipT (K := K) (a := q) (b := t) (xs := xr) (ys := ss.map V.str) (by rw [List.length_map]; omega) (fun j σ H' => ∃ (us : List V) (c2 c3 : Option V), σ = [some (.ref p), some (.ref L), c2, c3, none] ∧ H' L = some (.lst us) ∧ AtL K M H0 us (innerOf ((ps.zip ss).take j)) ∧ Kp [] H H' ∧ H' q = some (.tup xr))
      ⟨[], none, none, rfl, k2.at eL, .nil, k1.trans k2, eq⟩ (fun j σ H' ⟨_, _, _, _, _, _, _, e⟩ => ⟨SqT.of e, st H'⟩) ?_ ?_
    · rintro j x y T σ H' hx hy ⟨us, c2, c3, rfl, q1, q2, q3, q4⟩ hT
      obtain ⟨dx, hdx, ax⟩ := ar.get hx
      rw [List.getElem?_map] at hy
      obtain ⟨so, hso, rfl⟩ := Option.map_eq_some_iff.mp hy
      have hz : (ps.zip ss)[j]? = some (dx, so) := by rw [List.getElem?_zip_eq_some]; exact ⟨hdx, hso⟩
      have okx := ok _ (List.mem_of_getElem? hz)
      have fewx : Few dx := all dx (List.mem_cons_of_mem _ (List.mem_of_getElem? hdx))
      generalize hG : upd H' T _ = H3
      obtain ⟨e3, k3⟩ : H3 T = some _ ∧ Kp [] H' H3 := ⟨by rw [← hG]; exact upd_same, by rw [← hG]; exact Kp.new hT⟩
      clear hG
      have q1 := k3.at q1
      have q4 := k3.at q4
      have q3 := q3.trans k3
      have nLq' : q ≠ L := fun z => nLq z.symm
      have bound : szA (innerOf ((ps.zip ss).take (j + 1))) ≤ 16000000 := by
        have h1 := inner_sz ((ps.zip ss).take (j + 1))
        have h2 : szA (((ps.zip ss).take (j + 1)).map (·.1)) ≤ szA ps := by
          rw [List.map_take, List.map_fst_zip (by omega)]
          have : ∀ (l : List PyData) (m : Nat), szA (l.take m) ≤ szA l := by
            intro l
            induction l with
            | nil => intro m; simp
            | cons x r ih =>
              intro m
              cases m with
              | zero => simp [szA]
              | succ m => have := ih m; simp only [List.take_succ_cons, szA]; omega
          exact this _ _
        have h3 : 1 + (sz (.str w0) + szA ps) ≤ 16000000 := by have := few; unfold Few at this; simpa only [sz, szA] using this
        omega
      rw [innerOf_take hz] at bound
      have bl := szA_len (innerOf ((ps.zip ss).take j) ++ partOf (dx, so))
      rw [List.length_append] at bl
      have ul := q2.len
      have tot : (innerOf ((ps.zip ss).take j)).length + (partOf (dx, so)).length ≤ 16000000 := by omega
      clear bound bl
      refine ⟨T, _, rfl, SqT.of e3, rfl, _, _, rfl, _, _, rfl, rfl, ?_⟩
      refine ⟨_, rfl, rfl, _, rfl, ite2 (fun z => ?_) (fun z1 => ?_)⟩
      · have z : so = "expression" := V.str.inj (of_decide_eq_true z)
        have ep : partOf (dx, so) = [dx] := by unfold partOf; rw [if_pos z]
        rw [ep] at tot
        simp only [List.length_cons, List.length_nil] at tot
        refine ⟨_, rfl, Or.inl ⟨rfl, _, SqL.of q1⟩, _, rfl, L, us, x, rfl, rfl, q1, mill (by omega), ?_⟩
        refine ⟨us ++ [x], _, _, rfl, upd_same, ?_, q3.mut hL, by rw [upd_ne nLq']; exact q4⟩
        rw [innerOf_take hz, ep]
        exact AtL.append q2 (.cons ax .nil)
      have z1 : so ≠ "expression" := fun e => z1 (decide_eq_true (by rw [e]))
      refine ⟨_, rfl, rfl, _, rfl, ite2 (fun z => ?_) (fun z2 => ?_)⟩
      · have z : so = "expressions" := V.str.inj (of_decide_eq_true z)
        have ep : partOf (dx, so) = itemsD dx := by unfold partOf; rw [if_neg z1, if_pos z]
        have tp : isTup dx = true := by
          have h : sortOk so dx = true := okx
          rw [z] at h; exact h
        cases ax with
        | @tup p2 xs2 ds2 sq2 nm2 al2 =>
          have ep : partOf (PyData.tuple ds2, so) = ds2 := ep
          rw [ep] at tot
          have l2 := al2.len
          refine ⟨_, rfl, Or.inl ⟨rfl, _, SqL.of q1⟩, _, rfl, L, p2, us, xs2, rfl, rfl, q1, (k0.trans q3).sqT (by simp) sq2, Nat.le_of_lt (mill (by omega)), ?_⟩
          refine ⟨us ++ xs2, _, _, rfl, upd_same, ?_, q3.mut hL, by rw [upd_ne nLq']; exact q4⟩
          rw [innerOf_take hz, ep]
          exact AtL.append q2 al2
        | _ => exact absurd tp Bool.false_ne_true
      have z2 : so ≠ "expressions" := fun e => z2 (decide_eq_true (by rw [e]))
      refine ⟨_, rfl, rfl, _, rfl, ite2 (fun z => ?_) (fun z3 => ?_)⟩
      · have z : so = "branches" := V.str.inj (of_decide_eq_true z)
        have ep : partOf (dx, so) = (itemsD dx).map thirdD := by unfold partOf; rw [if_neg z1, if_neg z2, if_pos z]
        have br : areBranches dx = true := by
          have h : sortOk so dx = true := okx
          rw [z] at h; exact h
        cases ax with
        | @tup p2 xs2 ds2 sq2 nm2 al2 =>
          have ep : partOf (PyData.tuple ds2, so) = ds2.map thirdD := ep
          rw [ep, List.length_map] at tot
          have l2 := al2.len
          have brs : ∀ b ∈ ds2, isBranch b = true := by
            have h : (decide (1 ≤ ds2.length) && ds2.all isBranch) = true := br
            rw [Bool.and_eq_true] at h
            exact List.all_eq_true.mp h.2
          refine ⟨_, rfl, Or.inl ⟨rfl, _, SqL.of q1⟩, _, rfl, p2, rfl, ⟨_, (k0.trans q3).sqT (by simp) sq2⟩, fun L2 h2 => ?_⟩
          have nL2 : L ≠ L2 := ne_of_none q1 h2
          refine lc_tup (K := K) (a := p2) (xs := xs2) (fun m H' => ∃ ws : List V, H' L2 = some (.lst ws) ∧ AtL K M H0 ws ((ds2.take m).map thirdD) ∧ Kp [] H3 H') ⟨[], upd_same, .nil, Kp.new h2⟩ (fun m H' _ h => by obtain ⟨_, _, _, kk⟩ := h; exact kk.sqT (by simp) ((k0.trans q3).sqT (by simp) sq2)) ?_ ?_
          · rintro m y H' hy ⟨ws, w1, w2, w3⟩
            obtain ⟨db, hdb, ab⟩ := al2.get hy
            have ib := brs db (List.mem_of_getElem? hdb)
            have m1 := (List.getElem?_eq_some_iff.mp hdb).1
            have wl := w2.len
            rw [List.length_map, List.length_take] at wl
            obtain ⟨p4, y0, y1, y2, rfl, sq4, b2⟩ := branch_open ab ib
            refine ⟨rfl, yesI ⟨_, rfl, p4, _, 2, y2, rfl, rfl, (k0.trans (q3.trans w3)).sqT (by simp) sq4, atI_nat rfl, _, w1, mill (by omega), ws ++ [y2], upd_same, ?_, w3.mut h2⟩⟩
            rw [List.take_add_one, hdb, List.map_append]
            exact AtL.append w2 (.cons b2 .nil)
          · rintro H' ⟨ws, w1, w2, w3⟩
            rw [l2, List.take_length] at w2
            have wl := w2.len
            rw [List.length_map] at wl
            refine ⟨L, L2, us, ws, rfl, rfl, w3.at q1, w1, Nat.le_of_lt (mill (by omega)), ?_⟩
            refine ⟨us ++ ws, _, _, rfl, upd_same, ?_, (q3.trans w3).mut hL, by rw [upd_ne nLq']; exact w3.at q4⟩
            rw [innerOf_take hz, ep]
            exact AtL.append q2 w2
        | _ => exact absurd br Bool.false_ne_true
      have z3 : so ≠ "branches" := fun e => z3 (decide_eq_true (by rw [e]))
      have ep : partOf (dx, so) = [] := by unfold partOf; rw [if_neg z1, if_neg z2, if_neg z3]
      refine ⟨us, _, _, rfl, q1, ?_, q3, q4⟩
      rw [innerOf_take hz, ep, List.append_nil]
      exact q2
    · rintro σ H' ⟨us, c2, c3, rfl, q1, q2, q3, q4⟩
      have ez : xr.length = (ps.zip ss).length := by rw [List.length_zip]; omega
      rw [ez, List.take_length] at q2
      rw [ei] at k
      exact ⟨_, rfl, k H' L us hL q1 q2 q3⟩
end
end Dh
end

/-! Q10iH -/
section
set_option Elab.async false
set_option linter.all false
set_option maxRecDepth 100000
set_option maxHeartbeats 600000
namespace Dh
open PySem PySem.Spec PyProof.Rows L2
def isExpr (d : PyData) : Bool := if h : hasForm d = true then (innerD d).attach.all (fun e => isExpr e.1) else false
termination_by sz d
decreasing_by
  have := szA_mem e.2
  have := innerD_sz h
  omega
theorem isExpr_eq (d : PyData) : isExpr d = (hasForm d && (innerD d).all isExpr) := by
  rw [isExpr]
  split
  · rename_i h
    rw [h, Bool.true_and]
    exact List.all_subtype (p := fun x => x ∈ innerD d) (f := fun e => isExpr e.1) (g := isExpr) (fun x hx => rfl) |>.trans (by rw [List.unattach_attach])
  · rename_i h
    rw [Bool.eq_false_iff.mpr h, Bool.false_and]
def isDef : PyData → Bool
  | .tuple [f, ns, b] => isName f && areNames ns && isExpr b
  | _ => false
def isProg : PyData → Bool
  | .tuple ds => decide (1 ≤ ds.length) && ds.all isDef
  | _ => false
theorem AtL.unsnoc {K : PySem.W.Frag} {M : List Addr} {H : Hp} : ∀ {us : List V} {y : V} {ds : List PyData}, AtL K M H (us ++ [y]) ds → ∃ ds' e, ds = ds' ++ [e] ∧ AtL K M H us ds' ∧ At K M H y e
  | [], _, _, h => by
    cases h with
    | cons a r => cases r; exact ⟨[], _, rfl, .nil, a⟩
  | u :: us, _, _, h => by
    cases h with
    | cons a r =>
      obtain ⟨ds', e, rfl, b, c⟩ := AtL.unsnoc r
      exact ⟨_ :: ds', e, rfl, .cons a b, c⟩
theorem last_split {xs : List V} (h : xs.isEmpty = false) : ∃ us y, xs = us ++ [y] ∧ xs.dropLast = us ∧ xs[xs.length - 1]? = some y := by
  have ne : xs ≠ [] := fun z => by rw [z] at h; cases h
  have e := List.dropLast_concat_getLast ne
  refine ⟨xs.dropLast, xs.getLast ne, e.symm, rfl, ?_⟩
  rw [← List.getLast?_eq_getElem?, List.getLast?_eq_some_getLast ne]
abbrev namesX : List Str := ["thing", "waiting", "part"]
section
variable {P : Program} {w : World} {K : PySem.W.Frag} {mg : Str → Option Value} {base : Heap}
theorem scIsExpr : FnScope namesX ["thing"] (defScope sIsExpr) := ⟨rfl, rfl, rfl, by decide +kernel, rfl, by decide +kernel, by decide +kernel⟩
theorem okIsExpr {f g g2 : Addr} {fd gd gd2 : FuncData} (F : Fun K "is_expression" "is_expression" sIsExpr f fd) (Dform : Df P w K mg base "has_form" 7 g gd ["thing"] (spB K hasForm)) (Din : Df P w K mg base "inner" 1 g2 gd2 ["thing"] (spInner K)) : FnOk P w K mg base CX0 8 f fd ["thing"] (spB K isExpr) := by
  refine F.ok scIsExpr (fun vs H Q E h => by obtain ⟨_, _, _, rfl, _⟩ := h; rfl) (fun cdv A outer s H vs Q E hr h => ?_)
  obtain ⟨M, v, d, rfl, a, few, k⟩ := h
  refine ⟨_, (pss_cons (ps_set (i := 1) scIsExpr.nd rfl (Or.inl rfl) (pe_lst (pa_cons (pv 0) pa_nil))) 
    (pss_cons (ps_while PassesOwn.never (pt_truth (pv 1) (by intro _; rfl)) (pss_cons (ps_set (i := 2) scIsExpr.nd rfl (Or.inl rfl) (pe_bm0 PySem.F.plainAttrs_list PySem.F.slot_list_pop PySem.F.type_list_pop mt_pop (pv 1))) 
      (pss_cons (ps_if (pt_not (pt_val (pe_call Dform.ok (hr.mono (by decide)) (by rfl) Dform.m Dform.k Dform.b .nil pass0 (pa_cons (pv 2) pa_nil)))) (pss_one (ps_ret pe_bl)) pss_nil) 
      (pss_one (ps_expr (pe_bm PySem.F.plainAttrs_list PySem.F.slot_list_extend PySem.F.type_list_extend mt_extend (pv 1) (pa_cons (pe_call Din.ok (hr.mono (by decide)) (by rfl) Din.m Din.k Din.b .nil pass0 (pa_cons (pv 2) pa_nil)) pa_nil))))))) 
    (pss_one (ps_ret pe_bl)))), ?_⟩
  refine ⟨_, rfl, by show 1 ≤ sizeLine; decide, fun L hL => ?_⟩
  generalize hG : upd H L _ = H1
  obtain ⟨eL, k1⟩ : H1 L = some (.lst [v]) ∧ Kp [] H H1 := ⟨by rw [← hG]; exact upd_same, by rw [← hG]; exact Kp.new hL⟩
  clear hG
  refine ⟨fun m σ H' => ∃ (vs : List V) (ds : List PyData) (c : Option V), szA ds = m ∧ σ = [some v, some (.ref L), c] ∧ H' L = some (.lst vs) ∧ AtL K M H vs ds ∧ szA ds ≤ 16000000 ∧ isExpr d = ds.all isExpr ∧ Kp [] H H',
    ⟨_, [v], [d], none, rfl, rfl, eL, .cons a .nil, by simp only [szA, Nat.add_zero]; exact few, by simp, k1⟩, ?_⟩
  rintro m σ H2 ⟨vs, ds, c, rfl, rfl, q1, q2, q3, q4, q5⟩
  refine ⟨_, rfl, !vs.isEmpty, .inl ⟨vs, SqL.of q1, rfl⟩, ?_⟩
  cases hv : vs.isEmpty with
  | true =>
    have hv : vs = [] := List.isEmpty_iff.mp hv
    subst hv
    cases q2
    refine iteF ?_
    have e : true = isExpr d := by rw [q4]; rfl
    show Q (.bl true) H2
    rw [e]
    exact k H2 q5
  | false =>
    obtain ⟨us, y, rfl, hd, hy⟩ := last_split hv
    obtain ⟨ds', e, rfl, b, ae⟩ := q2.unsnoc
    rw [szA_app] at q3
    have fe : Few e := by have := q3; simp only [szA] at this; unfold Few; omega
    have es : isExpr d = (ds'.all isExpr && isExpr e) := by rw [q4, List.all_append]; simp
    refine iteT ⟨fun σ' H' => ∃ (vs : List V) (es : List PyData) (c : Option V), szA es < szA (ds' ++ [e]) ∧ σ' = [some v, some (.ref L), c] ∧ H' L = some (.lst vs) ∧ AtL K M H vs es ∧ szA es ≤ 16000000 ∧ isExpr d = es.all isExpr ∧ Kp [] H H',
      fun σ' H' ⟨vs, es, c, h1, h2⟩ => ⟨szA es, h1, vs, es, c, rfl, h2⟩, ?_⟩
    refine ⟨_, rfl, Or.inl ⟨rfl, _, SqL.of q1⟩, L, us ++ [y], y, rfl, rfl, q1, hy, ?_⟩
    rw [hd]
    generalize hG : upd H2 L _ = H3
    obtain ⟨e3, k3⟩ : H3 L = some (.lst us) ∧ Kp [] H H3 := ⟨by rw [← hG]; exact upd_same, by rw [← hG]; exact q5.mut hL⟩
    clear hG
    refine ⟨_, rfl, M, y, e, rfl, At.ext k3 ae, fe, fun H4 k4 => ⟨_, rfl, ?_⟩⟩
    cases hf : hasForm e with
    | false =>
      refine iteT ?_
      have e : false = isExpr d := by rw [es, isExpr_eq e, hf, Bool.false_and, Bool.and_false]
      show Q (.bl false) H4
      rw [e]
      exact k H4 (k3.trans k4)
    | true =>
      refine iteF ?_
      refine ⟨_, rfl, Or.inl ⟨rfl, _, SqL.of (k4.at e3)⟩, _, rfl, M, H, y, e, rfl, k3.trans k4, ae, fe, hf, fun H5 L2 ws h2 w1 w2 k5 => ?_⟩
      have lt := innerD_sz hf
      have tot : szA (ds' ++ innerD e) < szA (ds' ++ [e]) := by
        rw [szA_app, szA_app]
        simp only [szA]; omega
      have q3' : szA (ds' ++ [e]) ≤ 16000000 := by rw [szA_app]; exact q3
      have ll := szA_len (ds' ++ innerD e)
      have l1 := b.len
      have l2 := w2.len
      rw [List.length_append] at ll
      refine ⟨L, L2, us, ws, rfl, rfl, k5.at (k4.at e3), w1, Nat.le_of_lt (mill (by omega)), ?_⟩
      refine ⟨us ++ ws, ds' ++ innerD e, _, tot, rfl, upd_same, AtL.append b w2, by omega, ?_, ((k3.trans k4).trans k5).mut hL⟩
      rw [es, isExpr_eq e, hf, Bool.true_and, List.all_append]
theorem scIsDef : FnScope ["thing"] ["thing"] (defScope sIsDef) := ⟨rfl, rfl, rfl, by decide +kernel, rfl, by decide +kernel, by decide +kernel⟩
theorem three_open {K : PySem.W.Frag} {M : List Addr} {H : Hp} {xs : List V} {ds : List PyData} (h : AtL K M H xs ds) (l : xs.length = 3) : ∃ x0 x1 x2 d0 d1 d2, xs = [x0, x1, x2] ∧ ds = [d0, d1, d2] ∧ At K M H x0 d0 ∧ At K M H x1 d1 ∧ At K M H x2 d2 := by
  match xs, ds, h, l with
  | [x0, x1, x2], [d0, d1, d2], .cons a0 (.cons a1 (.cons a2 .nil)), _ => exact ⟨_, _, _, _, _, _, rfl, rfl, a0, a1, a2⟩
theorem okIsDef {f g g2 g3 : Addr} {fd gd gd2 gd3 : FuncData} (F : Fun K "is_definition" "is_definition" sIsDef f fd) (T : Blt mg) (TF : BltF mg) (Dname : Df P w K mg base "is_name" 2 g gd ["thing"] (spB K isName)) (Dnames : Df P w K mg base "are_names" 3 g2 gd2 ["thing"] (spB K areNames))
    (Dexpr : Df P w K mg base "is_expression" 8 g3 gd3 ["thing"] (spB K isExpr)) : FnOk P w K mg base CX0 9 f fd ["thing"] (spB K isDef) := by
  refine F.ok scIsDef (fun vs H Q E h => by obtain ⟨_, _, _, rfl, _⟩ := h; rfl) (fun cdv A outer s H vs Q E hr h => ?_)
  obtain ⟨M, v, d, rfl, a, few, k⟩ := h
  refine ⟨_, (pss_cons (ps_if (PW.pt (pw_or (pt_not (pt_val (pe_callB call_isA (by rfl) TF.isinstance (by decide +kernel) (pa_cons (pv 0) (pa_cons (pe_bltn (v := .ty "tuple") (by rfl) T.tuple (by decide +kernel) rfl) pa_nil))))) (pw_or1 (pt_cmpR op_ne (pe_callB call_len (by rfl) T.len (by decide +kernel) (pa_cons (pv 0) pa_nil)) pe_int (nomark _))))) (pss_one (ps_ret pe_bl)) pss_nil) 
    (pss_one (ps_ret (pe_and (pe_call Dname.ok (hr.mono (by decide)) (by rfl) Dname.m Dname.k Dname.b .nil pass0 (pa_cons (pe_ix ix_tup (pv 0) pe_int (fun _ _ => rfl)) pa_nil)) (pe_and (pe_call Dnames.ok (hr.mono (by decide)) (by rfl) Dnames.m Dnames.k Dnames.b .nil pass0 (pa_cons (pe_ix ix_tup (pv 0) pe_int (fun _ _ => rfl)) pa_nil)) (pe_one (pe_call Dexpr.ok (hr.mono (by decide)) (by rfl) Dexpr.m Dexpr.k Dexpr.b .nil pass0 (pa_cons (pe_ix ix_tup (pv 0) pe_int (fun _ _ => rfl)) pa_nil)))))))), ?_⟩
  refine ⟨_, rfl, M, v, d, _, _, rfl, a, .tuple d, _, rfl, ?_⟩
  have fin : ∀ {H' : Hp} {b : Bool}, isDef d = b → Kp [] H H' → Q (.bl b) H' := fun e kk => e ▸ k _ kk
  cases a with
  | @tup p xs ds sq nm al =>
    refine iteF ?_
    obtain ⟨len, all⟩ := few.tup
    have xl := al.len
    refine ⟨_, rfl, _, xs.length, rfl, .inr ⟨_, sq, rfl⟩, rfl, _, rfl, ite2 (fun z => ?_) (fun z => ?_)⟩
    · refine fin ?_ (Kp.refl _ _)
      unfold isDef
      split
      · rename_i h
        cases h
        rw [decide_eq_true (congrArg V.int (by rw [xl]; rfl))] at z
        cases z
      · rfl
    · have l3 : xs.length = 3 := by
        by_cases y : V.int (xs.length : Int) = V.int 3
        · have := V.int.inj y; omega
        · rw [decide_eq_false y] at z; exact absurd rfl z
      obtain ⟨x0, x1, x2, d0, d1, d2, rfl, rfl, a0, a1, a2⟩ := three_open al l3
      have ed : isDef (.tuple [d0, d1, d2]) = (isName d0 && areNames d1 && isExpr d2) := rfl
      refine ⟨_, rfl, p, _, 0, x0, rfl, rfl, sq, atI_nat rfl, M, x0, d0, rfl, a0, all d0 (by simp), fun H2 k2 => ⟨_, rfl, ite2 (fun z2 => ?_) (fun z2 => ?_)⟩⟩
      · refine ⟨_, rfl, p, _, 1, x1, rfl, rfl, k2.sqT (by simp) sq, atI_nat rfl, M, x1, d1, rfl, At.ext k2 a1, all d1 (by simp), fun H3 k3 => ⟨_, rfl, ite2 (fun z3 => ?_) (fun z3 => ?_)⟩⟩
        · refine ⟨_, rfl, p, _, 2, x2, rfl, rfl, (k2.trans k3).sqT (by simp) sq, atI_nat rfl, M, x2, d2, rfl, At.ext (k2.trans k3) a2, all d2 (by simp), fun H4 k4 => ?_⟩
          exact fin (by rw [ed, z2, z3, Bool.true_and, Bool.true_and]) ((k2.trans k3).trans k4)
        · exact fin (by rw [ed, Bool.eq_false_iff.mpr z3, Bool.and_false, Bool.false_and]) (k2.trans k3)
      · exact fin (by rw [ed, Bool.eq_false_iff.mpr z2, Bool.false_and, Bool.false_and]) k2
  | _ => exact iteT (fin rfl (Kp.refl _ _))
theorem scIsProg : FnScope ["thing", "part"] ["thing"] (defScope sIsProg) := ⟨rfl, rfl, rfl, by decide +kernel, rfl, by decide +kernel, by decide +kernel⟩
theorem okIsProg {f g : Addr} {fd gd : FuncData} (F : Fun K "is_program" "is_program" sIsProg f fd) (T : Blt mg) (TF : BltF mg) (Ddef : Df P w K mg base "is_definition" 9 g gd ["thing"] (spB K isDef)) : FnOk P w K mg base CX0 10 f fd ["thing"] (spB K isProg) := by
  refine F.ok scIsProg (fun vs H Q E h => by obtain ⟨_, _, _, rfl, _⟩ := h; rfl) (fun cdv A outer s H vs Q E hr h => ?_)
  obtain ⟨M, v, d, rfl, a, few, k⟩ := h
  refine ⟨_, (pss_cons (ps_if (PW.pt (pw_or (pt_not (pt_val (pe_callB call_isA (by rfl) TF.isinstance (by decide +kernel) (pa_cons (pv 0) (pa_cons (pe_bltn (v := .ty "tuple") (by rfl) T.tuple (by decide +kernel) rfl) pa_nil))))) (pw_or1 (pt_cmpR op_eq (pe_callB call_len (by rfl) T.len (by decide +kernel) (pa_cons (pv 0) pa_nil)) pe_int (nomark _))))) (pss_one (ps_ret pe_bl)) pss_nil) 
    (pss_one (ps_ret (pe_callB (cr_all rfl) (by rfl) TF.all (by decide +kernel) (pa_cons (pe_lc (own := [("part", 1)]) (g := gName 1) (tt := tYes) rfl scIsProg.nd (pi_tup (pv 0)) (blkOk_by (N := ["thing", "part"]) (sc := defScope sIsProg) (by decide +kernel)) (fun _ _ _ _ _ => pg_name (i := 1) scIsProg.nd rfl (Or.inl rfl)) (fun _ _ _ _ _ => pts_nil) (fun _ _ _ _ _ => (pe_call Ddef.ok (hr.mono (by decide)) (by rfl) Ddef.m Ddef.k Ddef.b .nil pass0 (pa_cons (pv 1) pa_nil)))) pa_nil))))), ?_⟩
  refine ⟨_, rfl, M, v, d, _, _, rfl, a, .tuple d, _, rfl, ?_⟩
  have fin : ∀ {H' : Hp} {b : Bool}, isProg d = b → Kp [] H H' → Q (.bl b) H' := fun e kk => e ▸ k _ kk
  cases a with
  | @tup p xs ds sq nm al =>
    refine iteF ?_
    obtain ⟨len, all⟩ := few.tup
    have xl := al.len
    have ed : isProg (.tuple ds) = (decide (1 ≤ ds.length) && ds.all isDef) := rfl
    refine ⟨_, rfl, _, xs.length, rfl, .inr ⟨_, sq, rfl⟩, rfl, _, rfl, ite2 (fun z => ?_) (fun z => ?_)⟩
    · have z : (xs.length : Int) = 0 := V.int.inj (of_decide_eq_true z)
      exact fin (by rw [ed, decide_eq_false (by omega), Bool.false_and]) (Kp.refl _ _)
    · have z : 1 ≤ ds.length := by
        by_cases y : xs.length = 0
        · exact absurd (decide_eq_true (by rw [y]; rfl)) z
        · omega
      refine ⟨_, rfl, p, rfl, ⟨xs, sq⟩, fun L hL => ?_⟩
      refine lc_tup (K := K) (a := p) (xs := xs) (fun j H' => H' L = some (.lst (ans isDef (ds.take j))) ∧ Kp [] H H') ⟨upd_same, Kp.new hL⟩ (fun j H' _ h => h.2.sqT (by simp) sq) ?_ ?_
      · rintro j x H' hj ⟨q1, q2⟩
        obtain ⟨e, he, ae⟩ := al.get hj
        refine ⟨rfl, yesI ⟨_, rfl, M, x, e, rfl, At.ext q2 ae, all e (List.mem_of_getElem? he), fun H2 k2 => ⟨_, k2.at q1, ?_, ?_, (q2.trans k2).mut hL⟩⟩⟩
        · unfold ans; rw [List.length_map, List.length_take]; exact mill (by omega)
        · rw [upd_same, ans_take he]
      · rintro H' ⟨q1, q2⟩
        rw [xl, List.take_length, ans_bs] at q1
        refine ⟨L, ds.map isDef, rfl, SqL.of q1, ?_⟩
        refine fin ?_ q2
        rw [ed, decide_eq_true z, Bool.true_and, List.all_map]; rfl
  | _ => exact iteT (fin rfl (Kp.refl _ _))
end
end Dh
end

/-! K10a -/
section
set_option Elab.async false
set_option linter.all false
set_option maxRecDepth 100000
set_option maxHeartbeats 4000000
namespace K10
open PySem PySem.Spec PyProof.Rows L2 Dh Px Pg
instance ik : IK := ⟨[.inr "mixed", .inr "draws", .inr "fuel"]⟩
/-- a def of the top, over data -/
structure DfD (P : Program) (w : World) (K : PySem.W.Frag) (mg : Str → Option Value) (base : Heap) (x : Str) (k : Nat) (f : Addr) (fd : FuncData) (ps : List Str) (φ : PF) : Prop where
  ok : FnG P w K mg base CX0 k f fd ps (spD K IK.ks φ)
  m : mg x = some (.ref f)
  k : PySem.W.keepIn K (.ref f) = true
  b : Binds K fd ps []
structure Cst (K : PySem.W.Frag) (mg : Str → Option Value) (x : Str) (a : Addr) (d : PyData) : Prop where
  m : mg x = some (.ref a)
  c : ∀ W H, Ac K W H (.ref a) d
structure TabC (K : PySem.W.Frag) (w : World) (mg : Str → Option Value) (x : Str) (a : Addr) (T : Str → Option Px.D) : Prop where
  m : mg x = some (.ref a)
  t : Tab K w a T
structure Blt (mg : Str → Option Value) : Prop where
  isinstance : mg "isinstance" = none
  int : mg "int" = none
  bool : mg "bool" = none
  str : mg "str" = none
  tuple : mg "tuple" = none
  len : mg "len" = none
  list : mg "list" = none
  dict : mg "dict" = none
  set : mg "set" = none
  all : mg "all" = none
  any : mg "any" = none
  zip : mg "zip" = none
  range : mg "range" = none
  sorted : mg "sorted" = none
  repr : mg "repr" = none
  enumerate : mg "enumerate" = none
  min : mg "min" = none
  max : mg "max" = none
/-! ### a promise of the hand layer as one over data -/
def fB (f : PyData → Bool) : PF := fun Δ Ψ => ∃ d, Δ = [.v d] ∧ Few d ∧ Ψ (.v (.bool (f d)))
theorem b_data {K : PySem.W.Frag} {ik : List Key} {f : PyData → Bool} {vs : List V} {H : Hp} {Q : VK} {E : L2.XK} (h : spD K ik (fB f) vs H Q E) : spB K f vs H Q E := by
  obtain ⟨M, U, Δ, Ψ, tr, uM, ps, ⟨d, rfl, few, φ⟩, k⟩ := h
  cases ps with
  | cons a b =>
    cases b
    cases a with
    | v ac =>
      refine ⟨[], _, d, rfl, Ac.at0 d ac, few, fun H' kp => k _ _ H' φ ⟨kp.more (fun _ z => by cases z), fun a D => ?_, fun b hb => ?_, .v (.bl _)⟩⟩
      · obtain ⟨lf, kvs, ls, h1, h2, h3, h4, h5, h6, h7, h8⟩ := D
        exact ⟨lf, kvs, ls, h1, h2, kp _ _ h3 (by simp), h4, h5, h6, kp _ _ h7 (by simp), h8⟩
      · obtain ⟨o, ho, hn⟩ := tr b (uM b hb)
        exact ⟨o, kp _ _ ho (by simp), hn⟩
theorem toD {P : Program} {w : World} {K : PySem.W.Frag} {mg : Str → Option Value} {base : Heap} {k : Nat} {f : Addr} {fd : FuncData} {ps : List Str} {g : PyData → Bool} (F : FnOk P w K mg base CX0 k f fd ps (spB K g)) : FnG P w K mg base CX0 k f fd ps (spD K IK.ks (fB g)) :=
  Px.FnG.weaken (Dh.FnOk.toG F) fun _ _ _ _ h => b_data h
/-! ### first_repeated -/
abbrev sFirst : Stmt := top 34
theorem scFirst : FnScope ["words", "seen", "word"] ["words"] (defScope sFirst) := ⟨rfl, rfl, rfl, by decide +kernel, rfl, by decide +kernel, by decide +kernel⟩
/-- the set of some texts -/
def sK (ws : List Str) : Key → Bool
  | .inl _ => false
  | .inr x => decide (x ∈ ws)
theorem sK_nil : sK [] = fun _ => false := by
  funext j
  cases j <;> simp [sK]
theorem sK_snoc (ws : List Str) (y : Str) : sK (ws ++ [y]) = fun j => sK ws j || decide (j = .inr y) := by
  funext j
  cases j <;> simp [sK, Bool.decide_or]
/-- what is looked through: a tuple or a list of texts -/
def fFirst : PF := fun Δ Ψ => ∃ ws : List Str, (Δ = [.v (.list (ws.map .str))] ∨ Δ = [.v (.tuple (ws.map .str))] ∨ Δ = [.ro (.list (ws.map .str))]) ∧ ws.length ≤ 4000 ∧ Ψ (.v (strO (firstRep ws [])))
section
variable {P : Program} {w : World} {K : PySem.W.Frag} {mg : Str → Option Value} {base : Heap}
theorem pi_seq {X : Cx} {tg l : Expr} {tl : TE} (hl : PE X l tl) : PI X tg l (fun σ H R => iList X.K tl σ H R ∨ iTup X.K tl σ H R) :=
  ⟨fun pins s σ H R I h => h.elim (fun h => (pi_list hl).run pins s σ H R I h) fun h => (pi_tup hl).run pins s σ H R I h⟩
theorem okFirst {f : Addr} {fd : FuncData} (F : Fun K "first_repeated" "first_repeated" sFirst f fd) (T : Blt mg) : FnG P w K mg base CX0 1 f fd ["words"] (spD K IK.ks fFirst) := by
  have sc := scFirst
  refine FnG.by0 F sc (fun vs H Q E h => ?_) (fun cdv A outer s H vs Q E g hr h => ?_)
  · obtain ⟨M, U, Δ, Ψ, _, _, ps, ⟨ws, e, _⟩, _⟩ := h
    rw [← ps.len]
    rcases e with rfl | rfl | rfl <;> rfl
  obtain ⟨M, U, Δ, Ψ, tr, uM, ps, ⟨ws, e, lw, φ⟩, k⟩ := h
  refine ⟨_, (pss_cons (ps_set (i := 1) sc.nd rfl (Or.inl rfl) (pe_callTy0 cr_set0K (by rfl) T.set (by decide +kernel)))
    (pss_cons (ps_for PassesOwn.never rfl (pi_seq (pv 0)) (pg_name (i := 2) sc.nd rfl (Or.inl rfl))
      (pss_cons (ps_if (pt_cmpR or_sinK (pv 2) (pv 1) (by rfl)) (pss_one (ps_ret (pv 2))) pss_nil)
      (pss_one (ps_expr (pe_saddK (pv 1) (pa_cons (pv 2) pa_nil))))))
    (pss_one (ps_ret pe_non)))), ?_⟩
  have main : ∃ a : Addr, vs = [.ref a] ∧ (SqL K H a (ws.map V.str) ∨ SqT K H a (ws.map V.str)) := by
    rcases e with rfl | rfl | rfl
    · cases ps with
      | cons a b =>
        cases b
        cases a with
        | v ac =>
          obtain ⟨a, xs, rfl, h1, h2⟩ := Rv.lst (.inl ac)
          rw [AcL.strs ws h2] at h1
          exact ⟨a, rfl, .inl h1⟩
    · cases ps with
      | cons a b =>
        cases b
        cases a with
        | v ac =>
          obtain ⟨a, xs, rfl, h1, h2⟩ := Rv.tup (.inl ac)
          rw [AcL.strs ws h2] at h1
          exact ⟨a, rfl, .inr h1⟩
    · cases ps with
      | cons a b =>
        cases b
        cases a with
        | ro ow _ _ =>
          obtain ⟨a, xs, e, h1, h2⟩ := Rv.lst (.inr ⟨_, rfl, ow⟩)
          rw [AcL.strs ws h2] at h1
          exact ⟨a, by rw [e], .inl h1⟩
  obtain ⟨a, rfl, sq⟩ := main
  have done : ∀ {H' : Hp} (r : PyData) (x : V), strO (firstRep ws []) = r → (∀ W H, Ac K W H x r) → Dh.Kp [] H H' → Q x H' := by
    intro H' r x er hx kp
    refine k (.v r) x H' (er ▸ φ) ⟨kp.more (fun _ z => by cases z), fun a D => ?_, fun b hb => ?_, .v (hx _ _)⟩
    · obtain ⟨lf, kvs, ls, h1, h2, h3, h4, h5, h6, h7, h8⟩ := D
      exact ⟨lf, kvs, ls, h1, h2, kp _ _ h3 (by simp), h4, h5, h6, kp _ _ h7 (by simp), h8⟩
    · obtain ⟨o, ho, hn⟩ := tr b (uM b hb)
      exact ⟨o, kp _ _ ho (by simp), hn⟩
  refine ⟨rfl, fun D hD => ?_⟩
  generalize hG : upd H D _ = H1
  have e1 : H1 D = some (SetK P w D (sK []) 0) := by
    rw [← hG, upd_same, sK_nil]; rfl
  have k1 : Dh.Kp [] H H1 := by rw [← hG]; exact Dh.Kp.new hD
  clear hG
  have key : ∀ (i : Nat) (x : V) (σ : L2.St) (H2 : Hp), (ws.map V.str)[i]? = some x → (∃ (c : Option V) (n : Nat), σ = [some (.ref a), some (.ref D), c] ∧ H2 D = some (SetK P w D (sK (ws.take i)) n) ∧ n ≤ i ∧ Dh.Kp [] H H2 ∧ firstRep ws [] = firstRep (ws.drop i) (ws.take i)) →
      ∃ y : Str, x = .str y ∧ ∃ (n : Nat), σ.set 2 (some x) = [some (.ref a), some (.ref D), some (.str y)] ∧ H2 D = some (SetK P w D (sK (ws.take i)) n) ∧ n ≤ i ∧ i < 4000 ∧ Dh.Kp [] H H2 ∧
        (y ∈ ws.take i → firstRep ws [] = some y) ∧ (y ∉ ws.take i → firstRep ws [] = firstRep (ws.drop (i + 1)) (ws.take (i + 1)) ∧ sK (ws.take (i + 1)) = fun j => sK (ws.take i) j || decide (j = .inr y)) := by
    rintro i x σ H2 hx ⟨c, n, rfl, q1, q2, q3, q4⟩
    rw [List.getElem?_map] at hx
    obtain ⟨y, hy, rfl⟩ := Option.map_eq_some_iff.mp hx
    have lt : i < ws.length := (List.getElem?_eq_some_iff.mp hy).1
    have ey : ws[i] = y := (List.getElem?_eq_some_iff.mp hy).2
    rw [List.drop_eq_getElem_cons lt, ey] at q4
    refine ⟨y, rfl, n, rfl, q1, q2, by omega, q3, fun h => ?_, fun h => ?_⟩
    · rw [q4, firstRep, if_pos h]
    · rw [q4, firstRep, if_neg h]
      have et : ws.take (i + 1) = ws.take i ++ [y] := by rw [List.take_add_one, hy]; rfl
      refine ⟨by rw [et], ?_⟩
      rw [et, sK_snoc]
  have body : ∀ (i : Nat) (x : V) (σ : L2.St) (H2 : Hp) (N : L2.St → Hp → Prop) (B : L2.St → Hp → Prop), (ws.map V.str)[i]? = some x → (∃ (c : Option V) (n : Nat), σ = [some (.ref a), some (.ref D), c] ∧ H2 D = some (SetK P w D (sK (ws.take i)) n) ∧ n ≤ i ∧ Dh.Kp [] H H2 ∧ firstRep ws [] = firstRep (ws.drop i) (ws.take i)) →
      (∀ σ' H', (∃ (c : Option V) (n : Nat), σ' = [some (.ref a), some (.ref D), c] ∧ H' D = some (SetK P w D (sK (ws.take (i + 1))) n) ∧ n ≤ i + 1 ∧ Dh.Kp [] H H' ∧ firstRep ws [] = firstRep (ws.drop (i + 1)) (ws.take (i + 1))) → N σ' H') →
      gName 2 x σ H2 fun σ2 H3 => (tSeq (tIfS (tTest (tOp (rSInK P w false) (tVar 2) (tVar 1))) (tRet (tVar 2)) tNext) (tDrop (tSAddK P w (tVar 1) (tCons (tVar 2) tNil)))) { nx := N, rt := Q, bk := B, ct := N } σ2 H3 := by
    intro i x σ H2 N B hx h hN
    obtain ⟨y, rfl, n, e, q1, q2, q3, q4, q5, q6⟩ := key i x σ H2 hx h
    show tSeq _ _ _ (σ.set 2 (some (.str y))) H2
    rw [e]
    refine ⟨_, rfl, _, rfl, .inr y, D, _, n, rfl, rfl, q1, _, rfl, ?_⟩
    by_cases hy : y ∈ ws.take i
    · have : (if (false : Bool) = true then !sK (ws.take i) (.inr y) else sK (ws.take i) (.inr y)) = true := by rw [if_neg (by decide)]; exact decide_eq_true hy
      rw [this]
      refine iteT ⟨_, rfl, done (.str y) (.str y) ?_ (fun _ _ => .str y) q4⟩
      rw [q5 hy]; rfl
    · have : (if (false : Bool) = true then !sK (ws.take i) (.inr y) else sK (ws.take i) (.inr y)) = false := by rw [if_neg (by decide)]; exact decide_eq_false hy
      rw [this]
      obtain ⟨r1, r2⟩ := q6 hy
      refine iteF ⟨_, rfl, ⟨D, _, n, rfl, q1⟩, _, rfl, D, .inr y, _, n, rfl, rfl, q1, ?_, hN _ _ ⟨_, _, rfl, by rw [upd_same, r2], ?_, q4.mut hD, r1⟩⟩
      · show n + 1 < 4096
        omega
      · split <;> omega
  rcases sq with sq | sq
  · refine .inl ⟨_, rfl, a, rfl, ⟨_, k1.sqL (by simp) sq⟩, for_list (K := K) (a := a) (xs := ws.map V.str) (fun i σ H2 => ∃ (c : Option V) (n : Nat), σ = [some (.ref a), some (.ref D), c] ∧ H2 D = some (SetK P w D (sK (ws.take i)) n) ∧ n ≤ i ∧ Dh.Kp [] H H2 ∧ firstRep ws [] = firstRep (ws.drop i) (ws.take i)) ?_ ?_ ?_ ?_⟩
    · exact ⟨none, 0, rfl, by rw [List.take_zero]; exact e1, Nat.le_refl _, k1, by rw [List.take_zero, List.drop_zero]⟩
    · rintro i σ H2 _ ⟨c, n, rfl, q1, q2, q3, q4⟩
      exact q3.sqL (by simp) sq
    · intro i x σ H2 hx h
      exact body i x σ H2 _ _ hx h fun σ' H' z => z
    · rintro σ H2 ⟨c, n, rfl, q1, q2, q3, q4⟩
      rw [List.length_map, List.drop_length] at q4
      exact done .none .non (by rw [q4]; rfl) (fun _ _ => .non) q3
  · refine .inr ⟨_, rfl, a, rfl, ⟨_, k1.sqT (by simp) sq⟩, for_tup (K := K) (a := a) (xs := ws.map V.str) (fun i σ H2 => ∃ (c : Option V) (n : Nat), σ = [some (.ref a), some (.ref D), c] ∧ H2 D = some (SetK P w D (sK (ws.take i)) n) ∧ n ≤ i ∧ Dh.Kp [] H H2 ∧ firstRep ws [] = firstRep (ws.drop i) (ws.take i)) ?_ ?_ ?_ ?_⟩
    · exact ⟨none, 0, rfl, by rw [List.take_zero]; exact e1, Nat.le_refl _, k1, by rw [List.take_zero, List.drop_zero]⟩
    · rintro i σ H2 _ ⟨c, n, rfl, q1, q2, q3, q4⟩
      exact q3.sqT (by simp) sq
    · intro i x σ H2 hx h
      exact body i x σ H2 _ _ hx h fun σ' H' z => z
    · rintro σ H2 ⟨c, n, rfl, q1, q2, q3, q4⟩
      rw [List.length_map, List.drop_length] at q4
      exact done .none .non (by rw [q4]; rfl) (fun _ _ => .non) q3
end
end K10
end

/-! K10b -/
section
set_option Elab.async false
set_option linter.all false
set_option maxRecDepth 100000
set_option maxHeartbeats 8000000
namespace K10
open PySem PySem.Spec PyProof.Rows L2 Dh Px Pg
local macro_rules | `(tactic| walk_at "px") => `(tactic| repeat (first
  | refine yT ?_ | refine yF ?_ | refine ⟨_, rfl, ?_⟩ | refine ⟨_, _, rfl, rfl, ?_⟩ | refine ⟨_, _, rfl, ?_⟩
  | refine ⟨_, _, rfl, isi (.tuple _), ?_⟩ | refine ⟨_, _, rfl, isi (.str _), ?_⟩ | refine ⟨_, _, rfl, isi (.int _), ?_⟩ | refine ⟨_, _, rfl, isi (.bool _), ?_⟩
  | refine ⟨⟨_, rfl⟩, ?_⟩ | refine ⟨True.intro, ?_⟩ | refine ⟨rfl, ?_⟩ | refine ⟨(Nat.le_of_ble_eq_true rfl : _ ≤ sizeLine), ?_⟩))
theorem at0 {α : Type} (x : α) (r : List α) : atI (x :: r) 0 = some x := by
  unfold atI ixN
  rw [if_pos (show (0 : Int) ≤ 0 by decide), if_pos (show (0 : Int) < ((x :: r).length : Int) by simp only [List.length_cons]; omega)]
  rfl
theorem cutD_one (x : PyData) (r : List PyData) : Px.cutD (x :: r) (some 1) none = r := by
  unfold Px.cutD
  rw [show (x :: r).length = r.length + 1 from rfl, sIx_one]
  show (r.take (r.length + 1 - 1)) = r
  rw [Nat.add_sub_cancel, List.take_length]
theorem mil {n : Nat} (h : n ≤ 1000000) : n ≤ sizeLine := Nat.le_trans h (by decide)
theorem milt {n : Nat} (h : n ≤ 1000000) : n < sizeLine := Nat.lt_of_le_of_lt h (by decide)
theorem two {α : Type} {xs : List α} (h : xs.length = 2) : ∃ a b, xs = [a, b] := by
  match xs, h with
  | [a, b], _ => exact ⟨a, b, rfl⟩
theorem four {α : Type} {xs : List α} (h : xs.length = 4) : ∃ a b c d, xs = [a, b, c, d] := by
  match xs, h with
  | [a, b, c, d], _ => exact ⟨a, b, c, d, rfl⟩
local macro_rules | `(tactic| walk_at "ap") => `(tactic| (refine ⟨_, _, _, rfl, rfl, (by simp [sizeLine]), ?_⟩; walk_at "px"))
/-! ### what is within -/
def tForms : Str → Option Px.D := fun z => (forms.lookup z).map fun ss => .v (.tuple (ss.map .str))
def Hd.sorts : Hd → List Str
  | .int _ => ["integer"]
  | .nam _ => ["name"]
  | .call _ => ["name", "expressions"]
  | .make _ => ["tag", "expressions"]
  | .cas _ => ["expression", "branches"]
  | .lt _ => ["name", "expression", "expression"]
  | .iff _ => ["test", "expression", "expression", "expression", "expression"]
  | .op _ => ["sign", "expression", "expression"]
  | .delay => ["expression"]
  | .force => ["expression"]
theorem forms_hd (h : Hd) : forms.lookup h.w = some (Hd.sorts h) := by
  cases h with
  | int i => exact (by decide +kernel : forms.lookup ("int" : Str) = some (["integer"] : List Str))
  | nam x => exact (by decide +kernel : forms.lookup ("name" : Str) = some (["name"] : List Str))
  | call x => exact (by decide +kernel : forms.lookup ("call" : Str) = some (["name", "expressions"] : List Str))
  | make x => exact (by decide +kernel : forms.lookup ("make" : Str) = some (["tag", "expressions"] : List Str))
  | cas x => exact (by decide +kernel : forms.lookup ("case" : Str) = some (["expression", "branches"] : List Str))
  | lt x => exact (by decide +kernel : forms.lookup ("let" : Str) = some (["name", "expression", "expression"] : List Str))
  | iff x => exact (by decide +kernel : forms.lookup ("if" : Str) = some (["test", "expression", "expression", "expression", "expression"] : List Str))
  | op x => exact (by decide +kernel : forms.lookup ("op" : Str) = some (["sign", "expression", "expression"] : List Str))
  | delay => decide +kernel
  | force => decide +kernel
def itemParts : PyData → List PyData
  | .tuple [p, .str s] => partOf (p, s)
  | _ => []
inductive OkItem : PyData → Prop
  | exp {p : PyData} : OkItem (.tuple [p, .str "expression"])
  | exps {ds : List PyData} : OkItem (.tuple [.tuple ds, .str "expressions"])
  | brs {bs : List (Str × List Str)} {ds : List PyData} : OkItem (.tuple [.tuple (List.zipWith Pg.brD bs ds), .str "branches"])
  | no {p : PyData} {s : Str} : s ≠ "expression" → s ≠ "expressions" → s ≠ "branches" → OkItem (.tuple [p, .str s])
theorem zip_br {bs : List (Str × List Str)} {ds : List PyData} {d : PyData} (h : d ∈ List.zipWith Pg.brD bs ds) : ∃ b x, d = Pg.brD b x := by
  obtain ⟨i, hi, e⟩ := List.getElem_of_mem h
  rw [List.getElem_zipWith] at e
  exact ⟨_, _, e.symm⟩
theorem third_zip : ∀ {bs : List (Str × List Str)} {ds : List PyData}, ds.length = bs.length → (List.zipWith Pg.brD bs ds).map thirdD = ds
  | [], [], _ => rfl
  | b :: bs, d :: ds, h => by
    rw [List.zipWith_cons_cons, List.map_cons, third_zip (by simpa using h)]; rfl
theorem inner_parts {hd : Hd} {es : List Ex} (fit : hd.fits es.length = true) : (zipD (hd.rest (es.map Ex.d)) ((Hd.sorts hd).map .str)).flatMap itemParts = es.map Ex.d ∧ ∀ it ∈ zipD (hd.rest (es.map Ex.d)) ((Hd.sorts hd).map .str), OkItem it := by
  have ex : ∀ {p : PyData}, partOf (p, ("expression" : Str)) = [p] := by intro p; unfold partOf; rw [if_pos rfl]
  have em : ∀ {p : PyData} {s : Str}, s ≠ "expression" → s ≠ "expressions" → s ≠ "branches" → partOf (p, s) = [] := by
    intro p s n1 n2 n3
    unfold partOf; rw [if_neg n1, if_neg n2, if_neg n3]
  have exs : ∀ {ds : List PyData}, partOf (.tuple ds, ("expressions" : Str)) = ds := by
    intro ds; unfold partOf; rw [if_neg (show ¬ (("expressions" : Str) = "expression") by decide +kernel), if_pos rfl]; rfl
  have brs : ∀ {bs : List (Str × List Str)} {ds : List PyData}, ds.length = bs.length → partOf (.tuple (List.zipWith Pg.brD bs ds), ("branches" : Str)) = ds := by
    intro bs ds h; unfold partOf; rw [if_neg (show ¬ (("branches" : Str) = "expression") by decide +kernel), if_neg (show ¬ (("branches" : Str) = "expressions") by decide +kernel), if_pos rfl]; exact third_zip h
  have no : ∀ {p : PyData} {s : Str}, (s = "integer" ∨ s = "name" ∨ s = "tag" ∨ s = "test" ∨ s = "sign") → itemParts (.tuple [p, .str s]) = [] ∧ OkItem (.tuple [p, .str s]) := by
    rintro p s (rfl | rfl | rfl | rfl | rfl)
    all_goals exact ⟨em (by decide +kernel) (by decide +kernel) (by decide +kernel), .no (by decide +kernel) (by decide +kernel) (by decide +kernel)⟩
  cases hd with
  | int i =>
    have : es = [] := List.eq_nil_of_length_eq_zero (of_decide_eq_true fit)
    subst this
    have := @no (.int i) "integer" (.inl rfl)
    simp only [Hd.rest, Hd.sorts, List.map_cons, List.map_nil, zipD, List.flatMap_cons, List.flatMap_nil, this.1, List.append_nil, List.mem_singleton, forall_eq, this.2, true_and]
  | nam x =>
    have : es = [] := List.eq_nil_of_length_eq_zero (of_decide_eq_true fit)
    subst this
    have := @no (.str x) "name" (.inr (.inl rfl))
    simp only [Hd.rest, Hd.sorts, List.map_cons, List.map_nil, zipD, List.flatMap_cons, List.flatMap_nil, this.1, List.append_nil, List.mem_singleton, forall_eq, this.2, true_and]
  | call f =>
    have := @no (.str f) "name" (.inr (.inl rfl))
    simp only [Hd.rest, Hd.sorts, List.map_cons, List.map_nil, zipD, List.flatMap_cons, List.flatMap_nil, this.1, List.append_nil, List.nil_append, List.mem_cons, List.not_mem_nil, or_false, forall_eq_or_imp, forall_eq, this.2, true_and]
    exact ⟨exs, .exps⟩
  | make f =>
    have := @no (.str f) "tag" (.inr (.inr (.inl rfl)))
    simp only [Hd.rest, Hd.sorts, List.map_cons, List.map_nil, zipD, List.flatMap_cons, List.flatMap_nil, this.1, List.append_nil, List.nil_append, List.mem_cons, List.not_mem_nil, or_false, forall_eq_or_imp, forall_eq, this.2, true_and]
    exact ⟨exs, .exps⟩
  | cas bs =>
    obtain ⟨e0, bodies, rfl, hl, _⟩ := fit_cas fit
    simp only [Hd.rest, Hd.sorts, List.map_cons, List.map_nil, zipD, List.flatMap_cons, List.flatMap_nil, List.append_nil, List.headD_cons, List.tail_cons, List.mem_cons, List.not_mem_nil, or_false, forall_eq_or_imp, forall_eq]
    refine ⟨?_, .exp, .brs⟩
    show partOf _ ++ partOf _ = _
    rw [ex, brs (by rw [List.length_map]; exact hl)]; rfl
  | lt x =>
    obtain ⟨a, b, rfl⟩ := two (of_decide_eq_true fit)
    have := @no (.str x) "name" (.inr (.inl rfl))
    simp only [Hd.rest, Hd.sorts, List.map_cons, List.map_nil, zipD, List.flatMap_cons, List.flatMap_nil, this.1, List.append_nil, List.nil_append, List.mem_cons, List.not_mem_nil, or_false, forall_eq_or_imp, forall_eq, this.2, true_and]
    exact ⟨rfl, .exp, .exp⟩
  | iff x =>
    obtain ⟨a, b, c, d, rfl⟩ := four (of_decide_eq_true fit)
    have := @no (.str x) "test" (.inr (.inr (.inr (.inl rfl))))
    simp only [Hd.rest, Hd.sorts, List.map_cons, List.map_nil, zipD, List.flatMap_cons, List.flatMap_nil, this.1, List.append_nil, List.nil_append, List.mem_cons, List.not_mem_nil, or_false, forall_eq_or_imp, forall_eq, this.2, true_and]
    exact ⟨rfl, .exp, .exp, .exp, .exp⟩
  | op x =>
    obtain ⟨a, b, rfl⟩ := two (of_decide_eq_true fit)
    have := @no (.str x) "sign" (.inr (.inr (.inr (.inr rfl))))
    simp only [Hd.rest, Hd.sorts, List.map_cons, List.map_nil, zipD, List.flatMap_cons, List.flatMap_nil, this.1, List.append_nil, List.nil_append, List.mem_cons, List.not_mem_nil, or_false, forall_eq_or_imp, forall_eq, this.2, true_and]
    exact ⟨rfl, .exp, .exp⟩
  | delay =>
    obtain ⟨a, rfl⟩ := List.length_eq_one_iff.mp (of_decide_eq_true fit)
    exact ⟨rfl, fun it h => by rw [List.mem_singleton.mp h]; exact .exp⟩
  | force =>
    obtain ⟨a, rfl⟩ := List.length_eq_one_iff.mp (of_decide_eq_true fit)
    exact ⟨rfl, fun it h => by rw [List.mem_singleton.mp h]; exact .exp⟩
def fInner : PF := fun Δ Ψ => ∃ e : Ex, Δ = [.v e.d] ∧ e.fit = true ∧ e.n ≤ 1000000 ∧ Ψ (.own (.list (e.es.map Ex.d)))
section
variable {P : Program} {w : World} {K : PySem.W.Frag} {mg : Str → Option Value} {base : Heap}
abbrev s_inner : Stmt := top 26
abbrev n_inner : List Str := ["thing", "found", "part", "sort", "branch"]
theorem sc_inner : FnScope n_inner ["thing"] (defScope s_inner) := ⟨rfl, rfl, rfl, by decide +kernel, rfl, by decide +kernel, by decide +kernel⟩
theorem ok_inner {f : Addr} {fd : FuncData} (F : Fun K "inner" "inner" s_inner f fd) (T : Blt mg) {aFORMS : Addr} (tFORMS : TabC K w mg "FORMS" aFORMS tForms) : FnG P w K mg base CX0 1 f fd ["thing"] (spD K IK.ks fInner) := by
  have sc := sc_inner
  refine FnG.data F sc (by decide) (fun Δ Ψ h => by first | (obtain ⟨rfl, _⟩ := h; rfl) | (obtain ⟨_, rfl, _⟩ := h; rfl) | (obtain ⟨_, _, rfl, _⟩ := h; rfl) | (obtain ⟨_, _, _, rfl, _⟩ := h; rfl) | (obtain ⟨_, _, _, _, rfl, _⟩ := h; rfl) | (obtain ⟨_, _, _, _, _, rfl, _⟩ := h; rfl)) (fun cdv A outer s H E Δ Ψ noG hr h => ?_)
  obtain ⟨e, rfl, fit, few, k⟩ := h
  refine ⟨_, _, (xss_cons (xs_set (i := 1) sc.nd rfl (Or.inl rfl) (xe_lst xv_nil)) 
      (xss_cons (xs_for PassesOwn.never rfl (xi_zipT (by rfl) T.zip (xe_slice sl_tupA PSlT (xe_var (pv 0)) (xo_some xe_int) xo_none) (xe_kd tFORMS.t (pe_glob (v := .ref aFORMS) (by rfl) tFORMS.m rfl) (xe_ix (xe_var (pv 0)) xe_int (fun _ _ => rfl)) (fun _ _ => rfl))) (xg_tup (by rfl) (xgs_cons (xg_name (i := 2) sc.nd rfl (Or.inl rfl)) (xgs_cons (xg_name (i := 3) sc.nd rfl (Or.inl rfl)) xgs_nil)))
        (xss_one (xs_if (xt_cmp op_eq PEq (xe_var (pv 3)) xe_str (nomark _)) (xss_one (xs_expr (xe_append (i := 1) (xe_var (pv 2)) (fun _ p => pe_bm PySem.F.plainAttrs_list PySem.F.slot_list_append PySem.F.type_list_append mt_append (pv 1) p)))) (xss_one (xs_if (xt_cmp op_eq PEq (xe_var (pv 3)) xe_str (nomark _)) (xss_one (xs_expr (xe_extendT (i := 1) (xe_var (pv 2)) (fun _ p => pe_bm PySem.F.plainAttrs_list PySem.F.slot_list_extend PySem.F.type_list_extend mt_extendT (pv 1) p)))) (xss_one (xs_if (xt_cmp op_eq PEq (xe_var (pv 3)) xe_str (nomark _)) (xss_one (xs_expr (xe_extend (i := 1) (xe_lc (own := [("branch", 4)]) (g := gName 4) (tt := tYes) (te := (tOp (rIx K) (tVar 4) (tC _))) rfl sc.nd (xc_tup (xe_var (pv 2))) (blkOk_by ( N := n_inner) (sc := defScope s_inner) (by decide +kernel)) (fun _ _ _ _ _ => (xg_name (i := 4) sc.nd rfl (Or.inl rfl))) (fun _ _ _ _ _ => xts_nil) (fun _ _ _ _ _ => (xe_ix (xe_var (pv 4)) xe_int (fun _ _ => rfl)))) (fun _ p => pe_bm PySem.F.plainAttrs_list PySem.F.slot_list_extend PySem.F.type_list_extend mt_extend (pv 1) p)))) xss_nil))))))) 
      (xss_one (xs_ret (xe_var (pv 1)))))), ?_⟩
  obtain ⟨hd, es⟩ := e
  obtain ⟨fit, fits⟩ := Ex.fit_nd fit
  have len : es.length ≤ 1000000 := by
    have := nL_len es
    simp only [Ex.n] at few
    omega
  rw [Ex.d_nd]
  replace k : Ψ (.own (.list (es.map Ex.d))) := k
  have sorts := forms_hd hd
  walk_at "px"
  refine ⟨_, at0 _ _, ?_⟩
  refine ⟨hd.w, .v (.tuple ((Hd.sorts hd).map .str)), rfl, by unfold tForms; rw [sorts]; rfl, ?_⟩
  walk_at "px"
  refine loop_inv (fun r Γ => ∃ acc c2 c3, Γ = [some (.v (.tuple (.str hd.w :: hd.rest (es.map Ex.d)))), some (.own (.list acc)), c2, c3, none] ∧ acc ++ r.flatMap itemParts = es.map Ex.d ∧ ∀ it ∈ r, OkItem it) ?_ ?_ _ _ ?_
  · rintro d r Γ N ⟨acc, c2, c3, rfl, eq, okr⟩ hN
    have lens : acc.length + (itemParts d).length ≤ 1000000 := by
      have := congrArg List.length eq
      simp only [List.flatMap_cons, List.length_append, List.length_map] at this
      omega
    have next : ∀ c2 c3, N [some (.v (.tuple (.str hd.w :: hd.rest (es.map Ex.d)))), some (.own (.list (acc ++ itemParts d))), c2, c3, none] := fun c2 c3 =>
      hN _ ⟨_, _, _, rfl, by rw [← eq, List.flatMap_cons, List.append_assoc], fun it h => okr it (List.mem_cons_of_mem _ h)⟩
    cases okr d List.mem_cons_self with
    | exp =>
      simp only [itemParts, partOf, if_true] at lens next
      walk_at "px"
      refine ⟨_, _, _, rfl, rfl, milt (by simp at lens; omega), ?_⟩
      exact next _ _
    | exps =>
      have e1 : ("expressions" : Str) ≠ "expression" := by decide +kernel
      simp only [itemParts, partOf, itemsD, if_neg e1, if_true] at lens next
      walk_at "px"
      refine ⟨mil lens, ?_⟩
      exact next _ _
    | brs =>
      have e1 : ("branches" : Str) ≠ "expression" := by decide +kernel
      have e2 : ("branches" : Str) ≠ "expressions" := by decide +kernel
      simp only [itemParts, partOf, itemsD, if_neg e1, if_neg e2, if_true] at lens next
      walk_at "px"
      refine comp_map thirdD rfl rfl (mil (by simp at lens; simp; omega)) (fun d hd N hN => ?_) ?_
      · obtain ⟨b, x, rfl⟩ := zip_br hd
        walk_at "px"
        exact hN _ rfl
      · walk_at "px"
        refine ⟨mil (by simpa using lens), ?_⟩
        exact next _ _
    | no n1 n2 n3 =>
      simp only [itemParts, partOf, if_neg n1, if_neg n2, if_neg n3, List.append_nil] at lens next
      walk_at "px"
      rw [decide_eq_false n1]
      walk_at "px"
      rw [decide_eq_false n2]
      walk_at "px"
      rw [decide_eq_false n3]
      walk_at "px"
      exact next _ _
  · rintro Γ ⟨acc, c2, c3, rfl, eq, okr⟩
    walk_at "px"
    rw [← eq, List.flatMap_nil, List.append_nil] at k
    exact k
  · have fin : ∀ (items : List PyData), items.flatMap itemParts = es.map Ex.d → (∀ it ∈ items, OkItem it) → ∃ acc c2 c3, ([some (.v (.tuple (.str hd.w :: hd.rest (es.map Ex.d)))), some (.own (.list [])), none, none, none] : Px.Env) = [some (.v (.tuple (.str hd.w :: hd.rest (es.map Ex.d)))), some (.own (.list acc)), c2, c3, none] ∧ acc ++ items.flatMap itemParts = es.map Ex.d ∧ ∀ it ∈ items, OkItem it :=
      fun items h1 h2 => ⟨[], none, none, rfl, h1, h2⟩
    have both := inner_parts fit
    refine fin _ ?_ ?_
    · rw [cutD_one]; exact both.1
    · rw [cutD_one]; exact both.2
end
end K10
end

/-! K10c -/
section
set_option Elab.async false
set_option linter.all false
set_option maxRecDepth 100000
set_option maxHeartbeats 8000000
namespace K10
open PySem PySem.Spec PyProof.Rows L2 Dh Px Pg
theorem ex_tup (e : Ex) : ∃ r, e.d = .tuple (.str e.hd.w :: r) := by
  obtain ⟨h, es⟩ := e
  exact ⟨_, Ex.d_nd h es⟩
theorem pix_word {e : Ex} {Ψ : Px.D → Prop} (h : Ψ (.v (.str e.hd.w))) : pIx [e.d, .int 0] Ψ := by
  obtain ⟨r, er⟩ := ex_tup e
  rw [er]
  exact ⟨_, at0 _ _, h⟩
local macro_rules | `(tactic| walk_at "px") => `(tactic| repeat (first
  | refine yT ?_ | refine yF ?_ | refine ⟨_, rfl, ?_⟩ | refine ⟨_, _, rfl, rfl, ?_⟩ | refine ⟨_, _, rfl, ?_⟩
  | refine ⟨_, _, rfl, isi (.tuple _), ?_⟩ | refine ⟨_, _, rfl, isi (.str _), ?_⟩ | refine ⟨_, _, rfl, isi (.int _), ?_⟩ | refine ⟨_, _, rfl, isi (.bool _), ?_⟩
  | refine pix_word ?_ | refine ⟨⟨_, rfl⟩, ?_⟩ | refine ⟨True.intro, ?_⟩ | refine ⟨rfl, ?_⟩ | refine ⟨(Nat.le_of_ble_eq_true rfl : _ ≤ sizeLine), ?_⟩))
def itD : PyData → PyData
  | .tuple (x :: _) => x
  | _ => .none
theorem itD_ex (e : Ex) : itD e.d = .str e.hd.w := by
  obtain ⟨r, er⟩ := ex_tup e
  rw [er]; rfl
def isNode : Str → Prop := fun w => w ≠ "branch"
theorem hd_word (h : Hd) : h.w ≠ "branch" := by
  cases h with
  | int i => exact (by decide +kernel : ("int" : Str) ≠ "branch")
  | nam x => exact (by decide +kernel : ("name" : Str) ≠ "branch")
  | call x => exact (by decide +kernel : ("call" : Str) ≠ "branch")
  | make x => exact (by decide +kernel : ("make" : Str) ≠ "branch")
  | cas x => exact (by decide +kernel : ("case" : Str) ≠ "branch")
  | lt x => exact (by decide +kernel : ("let" : Str) ≠ "branch")
  | iff x => exact (by decide +kernel : ("if" : Str) ≠ "branch")
  | op x => exact (by decide +kernel : ("op" : Str) ≠ "branch")
  | delay => exact (by decide +kernel : ("delay" : Str) ≠ "branch")
  | force => exact (by decide +kernel : ("force" : Str) ≠ "branch")
theorem hd_case {h : Hd} (n : ∀ bs, h ≠ .cas bs) : h.w ≠ "case" := by
  cases h with
  | int i => exact (by decide +kernel : ("int" : Str) ≠ "case")
  | nam x => exact (by decide +kernel : ("name" : Str) ≠ "case")
  | call x => exact (by decide +kernel : ("call" : Str) ≠ "case")
  | make x => exact (by decide +kernel : ("make" : Str) ≠ "case")
  | cas x => exact absurd rfl (n x)
  | lt x => exact (by decide +kernel : ("let" : Str) ≠ "case")
  | iff x => exact (by decide +kernel : ("if" : Str) ≠ "case")
  | op x => exact (by decide +kernel : ("op" : Str) ≠ "case")
  | delay => exact (by decide +kernel : ("delay" : Str) ≠ "case")
  | force => exact (by decide +kernel : ("force" : Str) ≠ "case")
mutual
theorem pre_len : ∀ e : Ex, (pre e).length + 1 ≤ 2 * e.n
  | .nd h es => by
    rw [pre, Ex.n, List.length_cons]
    have := preL_len h 0 es
    omega
theorem preL_len (h : Hd) : ∀ (i : Nat) (es : List Ex), (preL h i es).length ≤ 2 * nL es
  | _, [] => by simp [preL]
  | i, e :: es => by
    have h1 : (h.brs i e).length ≤ 1 := by
      unfold Hd.brs
      split
      · split
        · simp
        · split <;> simp
      · simp
    have h2 := pre_len e
    have h3 := preL_len h (i + 1) es
    rw [preL, List.length_append, List.length_append, nL]
    omega
end
theorem nL_mem {e : Ex} : ∀ {es : List Ex}, e ∈ es → e.n ≤ nL es
  | x :: es, h => by
    rw [nL]
    rcases List.mem_cons.mp h with rfl | h
    · omega
    · have := nL_mem h; omega
theorem within_n {p q : Pl} (z : p.e.fit = true) (h : q ∈ within p) : q.e.n ≤ p.e.n := by
  cases p with
  | br b e =>
    rw [List.mem_singleton.mp h]; exact Nat.le_refl _
  | nd e =>
    obtain ⟨hd, es⟩ := e
    obtain ⟨z1, z2⟩ := Ex.fit_nd z
    show _ ≤ Ex.n (.nd hd es)
    rw [Ex.n]
    have plain : ∀ q ∈ es.map Pl.nd, q.e.n ≤ 1 + nL es := by
      intro q hq
      obtain ⟨e, he, rfl⟩ := List.mem_map.mp hq
      have := nL_mem he
      show e.n ≤ _
      omega
    cases hd with
    | cas bs =>
      obtain ⟨e0, bodies, rfl, hl, _⟩ := fit_cas z1
      have h : q ∈ Pl.nd e0 :: List.zipWith Pl.br bs bodies := h
      rcases List.mem_cons.mp h with rfl | h
      · show e0.n ≤ _
        rw [nL]; omega
      · obtain ⟨i, hi, e⟩ := List.getElem_of_mem h
        rw [List.getElem_zipWith] at e
        have hb : i < bodies.length := by rw [List.length_zipWith] at hi; omega
        rw [← e]
        have : ∀ j (hj : j < bodies.length), (bodies[j]).n ≤ nL bodies := fun j hj => nL_mem (List.getElem_mem hj)
        have := this i hb
        show (bodies[i]).n ≤ _
        rw [nL]; omega
    | _ => exact Nat.le_trans (plain q h) (by omega)
theorem pres_pos (p : Pl) : 1 ≤ (pres p).length := by
  cases p with
  | nd e => obtain ⟨h, es⟩ := e; simp [pres, pre]
  | br b e => simp [pres]
theorem flat_len : ∀ ps : List Pl, ps.length ≤ (ps.flatMap pres).length
  | [] => Nat.le_refl _
  | p :: ps => by
    have := pres_pos p
    have := flat_len ps
    rw [List.flatMap_cons, List.length_append, List.length_cons]; omega
def fWithin : PF := fun Δ Ψ => ∃ p : Pl, Δ = [.v (.str p.w), .v p.x] ∧ p.e.fit = true ∧ p.e.n ≤ 1000000 ∧ Ψ (.own (.list ((within p).map Pl.d)))
def fPlaces : PF := fun Δ Ψ => ∃ e : Ex, Δ = [.v e.d] ∧ e.fit = true ∧ e.n ≤ 400000 ∧ Ψ (.own (.list ((pre e).map Pl.d)))
section
variable {P : Program} {w : World} {K : PySem.W.Frag} {mg : Str → Option Value} {base : Heap}
abbrev s_placesWithin : Stmt := top 37
abbrev n_placesWithin : List Str := ["word", "thing", "branch", "part"]
theorem sc_placesWithin : FnScope n_placesWithin ["word", "thing"] (defScope s_placesWithin) := ⟨rfl, rfl, rfl, by decide +kernel, rfl, by decide +kernel, by decide +kernel⟩
theorem ok_placesWithin {f : Addr} {fd : FuncData} (F : Fun K "places_within" "places_within" s_placesWithin f fd) (T : Blt mg) {f_0 : Addr} {fd_0 : FuncData} (Dinner : DfD P w K mg base "inner" 1 f_0 fd_0 ["thing"] fInner) : FnG P w K mg base CX0 2 f fd ["word", "thing"] (spD K IK.ks fWithin) := by
  have sc := sc_placesWithin
  refine FnG.data F sc (by decide) (fun Δ Ψ h => by first | (obtain ⟨rfl, _⟩ := h; rfl) | (obtain ⟨_, rfl, _⟩ := h; rfl) | (obtain ⟨_, _, rfl, _⟩ := h; rfl) | (obtain ⟨_, _, _, rfl, _⟩ := h; rfl) | (obtain ⟨_, _, _, _, rfl, _⟩ := h; rfl) | (obtain ⟨_, _, _, _, _, rfl, _⟩ := h; rfl)) (fun cdv A outer s H E Δ Ψ noG hr h => ?_)
  obtain ⟨p, rfl, fit, few, k⟩ := h
  refine ⟨_, _, (xss_cons (xs_if (xt_cmp op_eq PEq (xe_var (pv 0)) xe_str (nomark _)) (xss_one (xs_ret (xe_lst (xv_cons (xe_tup (xv_cons (xe_ix (xe_ix (xe_var (pv 1)) xe_int (fun _ _ => rfl)) xe_int (fun _ _ => rfl)) (xv_cons (xe_ix (xe_var (pv 1)) xe_int (fun _ _ => rfl)) xv_nil))) xv_nil)))) xss_nil) 
      (xss_cons (xs_if (xt_cmp op_eq PEq (xe_var (pv 0)) xe_str (nomark _)) (xss_one (xs_ret (xe_op op_cat PCat (xe_lst (xv_cons (xe_tup (xv_cons (xe_ix (xe_ix (xe_var (pv 1)) xe_int (fun _ _ => rfl)) xe_int (fun _ _ => rfl)) (xv_cons (xe_ix (xe_var (pv 1)) xe_int (fun _ _ => rfl)) xv_nil))) xv_nil)) (xe_lc (own := [("branch", 2)]) (g := gName 2) (tt := tYes) (te := (tTup (tCons (tC _) (tCons (tVar 2) tNil)))) rfl sc.nd (xc_tup (xe_ix (xe_var (pv 1)) xe_int (fun _ _ => rfl))) (blkOk_by ( N := n_placesWithin) (sc := defScope s_placesWithin) (by decide +kernel)) (fun _ _ _ _ _ => (xg_name (i := 2) sc.nd rfl (Or.inl rfl))) (fun _ _ _ _ _ => xts_nil) (fun _ _ _ _ _ => (xe_tup (xv_cons xe_str (xv_cons (xe_var (pv 2)) xv_nil)))))))) xss_nil) 
      (xss_one (xs_ret (xe_lc (own := [("part", 3)]) (g := gName 3) (tt := tYes) (te := (tTup (tCons (tOp (rIx K) (tVar 3) (tC _)) (tCons (tVar 3) tNil)))) rfl sc.nd (xc_list (xe_call Dinner.ok noG (hr.mono (by decide)) (by rfl) Dinner.m Dinner.k Dinner.b (xp_cons (xe_var (pv 1)) xp_nil))) (blkOk_by ( N := n_placesWithin) (sc := defScope s_placesWithin) (by decide +kernel)) (fun _ _ _ _ _ => (xg_name (i := 3) sc.nd rfl (Or.inl rfl))) (fun _ _ _ _ _ => xts_nil) (fun _ _ _ _ _ => (xe_tup (xv_cons (xe_ix (xe_var (pv 3)) xe_int (fun _ _ => rfl)) (xv_cons (xe_var (pv 3)) xv_nil))))))))), ?_⟩
  cases p with
  | br b e =>
    have k : Ψ (.own (.list [.tuple [.str e.hd.w, e.d]])) := k
    simp only [Pl.w, Pl.x, Pg.brD]
    walk_at "px"
    exact k
  | nd e =>
    obtain ⟨hd, es⟩ := e
    have fit0 := fit
    have few0 : (Ex.nd hd es).n ≤ 1000000 := few
    obtain ⟨fit, fits⟩ := Ex.fit_nd fit
    have len : es.length ≤ 1000000 := by
      have := nL_len es
      simp only [Ex.n] at few0
      omega
    have go : (∀ bs, hd ≠ .cas bs) → within (.nd (.nd hd es)) = es.map .nd := by
      intro n
      cases hd with
      | cas bs => exact absurd rfl (n bs)
      | _ => rfl
    have nb := hd_word hd
    show _
    simp only [Pl.w, Pl.x, Ex.hd]
    walk_at "px"
    rw [decide_eq_false nb]
    walk_at "px"
    by_cases hc : ∃ bs, hd = .cas bs
    · obtain ⟨bs, rfl⟩ := hc
      obtain ⟨e0, bodies, rfl, hl, _⟩ := fit_cas fit
      rw [Ex.d_nd]
      walk_at "px"
      refine Px.comp_map (fun d => .tuple [.str "branch", d]) rfl rfl (mil (by simp at len; simp; omega)) (fun d hd N hN => ?_) ?_
      · walk_at "px"
        exact hN _ rfl
      · walk_at "px"
        refine ⟨mil (by simp at len; simp; omega), ?_⟩
        walk_at "px"
        have e : [PyData.tuple [.str e0.hd.w, e0.d]] ++ List.map (fun d => PyData.tuple [.str "branch", d]) (List.zipWith Pg.brD bs (bodies.map Ex.d)) = (within (.nd (.nd (.cas bs) (e0 :: bodies)))).map Pl.d := by
          show _ = Pl.d (.nd e0) :: (List.zipWith Pl.br bs bodies).map Pl.d
          rw [List.map_zipWith, List.map_zipWith, List.zipWith_map_right]
          rfl
        rw [← e] at k
        exact k
    · have nc := hd_case fun bs z => hc ⟨bs, z⟩
      rw [decide_eq_false nc]
      walk_at "px"
      refine ⟨fit0, few0, ?_⟩
      walk_at "px"
      refine Px.comp_map (fun d => .tuple [itD d, d]) rfl rfl (mil (by rw [List.length_map]; exact len)) (fun d hd N hN => ?_) ?_
      · obtain ⟨x, _, rfl⟩ := List.mem_map.mp hd
        walk_at "px"
        simp only [itD_ex] at hN
        exact hN _ rfl
      · walk_at "px"
        rw [go fun bs z => hc ⟨bs, z⟩, List.map_map] at k
        have e : List.map (fun d => PyData.tuple [itD d, d]) (List.map Ex.d (Ex.nd hd es).es) = List.map (Pl.d ∘ Pl.nd) es := by
          rw [List.map_map]
          refine List.map_congr_left fun x _ => ?_
          show PyData.tuple [itD x.d, x.d] = .tuple [.str x.hd.w, x.d]
          rw [itD_ex]
        rw [e]
        exact k
abbrev s_places : Stmt := top 36
abbrev n_places : List Str := ["body", "found", "waiting", "word", "thing"]
theorem sc_places : FnScope n_places ["body"] (defScope s_places) := ⟨rfl, rfl, rfl, by decide +kernel, rfl, by decide +kernel, by decide +kernel⟩
theorem ok_places {f : Addr} {fd : FuncData} (F : Fun K "places" "places" s_places f fd) (T : Blt mg) {f_0 : Addr} {fd_0 : FuncData} (Dplaces_within : DfD P w K mg base "places_within" 2 f_0 fd_0 ["word", "thing"] fWithin) : FnG P w K mg base CX0 3 f fd ["body"] (spD K IK.ks fPlaces) := by
  have sc := sc_places
  refine FnG.data F sc (by decide) (fun Δ Ψ h => by first | (obtain ⟨rfl, _⟩ := h; rfl) | (obtain ⟨_, rfl, _⟩ := h; rfl) | (obtain ⟨_, _, rfl, _⟩ := h; rfl) | (obtain ⟨_, _, _, rfl, _⟩ := h; rfl) | (obtain ⟨_, _, _, _, rfl, _⟩ := h; rfl) | (obtain ⟨_, _, _, _, _, rfl, _⟩ := h; rfl)) (fun cdv A outer s H E Δ Ψ noG hr h => ?_)
  obtain ⟨e, rfl, fit, few, k⟩ := h
  have lp := pre_len e
  refine ⟨_, _, (xss_cons (xs_set (i := 1) sc.nd rfl (Or.inl rfl) (xe_lst xv_nil)) 
      (xss_cons (xs_set (i := 2) sc.nd rfl (Or.inl rfl) (xe_lst (xv_cons (xe_tup (xv_cons (xe_ix (xe_var (pv 0)) xe_int (fun _ _ => rfl)) (xv_cons (xe_var (pv 0)) xv_nil))) xv_nil))) 
      (xss_cons (xs_while PassesOwn.never (xt_tru (xe_var (pv 2)) (fun _ p => pt_truth p (by intro _; rfl))) (xss_cons (xs_asg (xe_pop (i := 2) (pe_bm0 PySem.F.plainAttrs_list PySem.F.slot_list_pop PySem.F.type_list_pop mt_pop (pv 2))) (xg_tup (by rfl) (xgs_cons (xg_name (i := 3) sc.nd rfl (Or.inl rfl)) (xgs_cons (xg_name (i := 4) sc.nd rfl (Or.inl rfl)) xgs_nil)))) 
        (xss_cons (xs_expr (xe_append (i := 1) (xe_tup (xv_cons (xe_var (pv 3)) (xv_cons (xe_var (pv 4)) xv_nil))) (fun _ p => pe_bm PySem.F.plainAttrs_list PySem.F.slot_list_append PySem.F.type_list_append mt_append (pv 1) p))) 
        (xss_one (xs_expr (xe_extend (i := 2) (xe_revL (xe_call Dplaces_within.ok noG (hr.mono (by decide)) (by rfl) Dplaces_within.m Dplaces_within.k Dplaces_within.b (xp_cons (xe_var (pv 3)) (xp_cons (xe_var (pv 4)) xp_nil)))) (fun _ p => pe_bm PySem.F.plainAttrs_list PySem.F.slot_list_extend PySem.F.type_list_extend mt_extend (pv 2) p))))))) 
      (xss_one (xs_ret (xe_var (pv 1))))))), ?_⟩
  walk_at "px"
  refine ⟨fun m Γ => ∃ (acc st : List Pl) (c3 c4 : Option D), Γ = [some (.v e.d), some (.own (.list (acc.map Pl.d))), some (.own (.list (st.reverse.map Pl.d))), c3, c4] ∧ acc ++ st.flatMap pres = pre e ∧ (∀ p ∈ st, p.e.fit = true) ∧ (∀ p ∈ st, p.e.n ≤ 400000) ∧ m = (st.flatMap pres).length, ?_, ?_⟩
  · exact ⟨_, [], [.nd e], none, none, rfl, by simp [pres], by simpa [Pl.e] using fit, by simpa [Pl.e] using few, rfl⟩
  rintro m Γ ⟨acc, st, c3, c4, rfl, eq, fits, fews, rfl⟩
  cases st with
  | nil =>
    walk_at "px"
    rw [← eq, List.flatMap_nil, List.append_nil] at k
    exact k
  | cons p st =>
    rw [show (p :: st).reverse.map Pl.d = st.reverse.map Pl.d ++ [p.d] by simp]
    have pfit := fits p (by simp)
    have pfew := fews p (by simp)
    have pw := pres_within pfit
    have tot : acc.length + ((p :: st).flatMap pres).length < 800000 := by
      rw [← List.length_append, eq]; omega
    have eq2 : (acc ++ [p]) ++ (within p ++ st).flatMap pres = pre e := by
      rw [← eq, List.flatMap_cons, pw, List.flatMap_append]; simp
    have wl : (within p).length ≤ ((within p).flatMap pres).length := flat_len _
    have sl : st.length ≤ (st.flatMap pres).length := flat_len _
    have t2 : ((p :: st).flatMap pres).length = 1 + ((within p).flatMap pres).length + (st.flatMap pres).length := by
      rw [List.flatMap_cons, pw, List.length_append, List.length_cons]; omega
    walk_at "px"
    rw [show (!(st.reverse.map Pl.d ++ [p.d]).isEmpty) = true by simp]
    refine yT ?_
    walk_at "px"
    refine ⟨_, _, _, rfl, rfl, milt (by rw [List.length_map]; omega), ?_⟩
    walk_at "px"
    refine ⟨pfit, by omega, ?_⟩
    walk_at "px"
    refine ⟨mil (by simp; omega), ?_⟩
    have el : st.reverse.map Pl.d ++ ((within p).map Pl.d).reverse = (within p ++ st).reverse.map Pl.d := by simp
    have ea : acc.map Pl.d ++ [PyData.tuple [.str p.w, p.x]] = (acc ++ [p]).map Pl.d := by simp [Pl.d]
    refine ⟨_, ?_, acc ++ [p], within p ++ st, some (.v (.str p.w)), some (.v p.x), ?_, eq2, ?_, ?_, rfl⟩
    · rw [List.flatMap_append, List.length_append]; omega
    · rw [← el, ← ea]; rfl
    · intro q hq
      rcases List.mem_append.mp hq with hq | hq
      · exact within_fit pfit hq
      · exact fits q (by simp [hq])
    · intro q hq
      rcases List.mem_append.mp hq with hq | hq
      · exact Nat.le_trans (within_n pfit hq) pfew
      · exact fews q (by simp [hq])
end
end K10
end

/-! K10d -/
section
set_option Elab.async false
set_option linter.all false
set_option maxRecDepth 100000
set_option maxHeartbeats 8000000
namespace K10
open PySem PySem.Spec PyProof.Rows L2 Dh Px Pg
local macro_rules | `(tactic| walk_at "px") => `(tactic| repeat (first
  | refine yT ?_ | refine yF ?_ | refine ⟨_, rfl, ?_⟩ | refine ⟨_, _, rfl, rfl, ?_⟩ | refine ⟨_, _, rfl, ?_⟩
  | refine ⟨_, _, rfl, isi (.tuple _), ?_⟩ | refine ⟨_, _, rfl, isi (.str _), ?_⟩ | refine ⟨_, _, rfl, isi (.int _), ?_⟩ | refine ⟨_, _, rfl, isi (.bool _), ?_⟩
  | refine pix_word ?_ | refine ⟨⟨_, rfl⟩, ?_⟩ | refine ⟨True.intro, ?_⟩ | refine ⟨rfl, ?_⟩ | refine ⟨(Nat.le_of_ble_eq_true rfl : _ ≤ sizeLine), ?_⟩))
def fBoundToo : PF := fun Δ Ψ => ∃ (kds : KD) (ns : List Str) (a b : Px.D), Δ = [a, b] ∧ (a = .ro (dkD kds) ∨ a = .v (dkD kds)) ∧ (b = .v (.tuple (ns.map .str)) ∨ b = .v (.list (ns.map .str))) ∧ kds.length + ns.length ≤ 1000000 ∧ Ψ (.own (dkD (bindD kds ns)))
theorem bindD_snoc (kds : KD) (ns : List Str) (x : Str) : bindD kds (ns ++ [x]) = putD (bindD kds ns) (.inr x) (.bool true) := by
  unfold bindD
  rw [List.foldl_append]; rfl
def fScopes : PF := fun Δ Ψ => ∃ (e : Ex) (kds : KD), Δ = [.v e.d, .v (dkD kds)] ∧ e.fit = true ∧ kds.length + e.n ≤ 1000000 ∧ Ψ (.own (.list ((scopes (e, kds)).map itemD)))
def unStr : PyData → Option Str
  | .str x => some x
  | _ => none
theorem unStrs (ns : List Str) : (ns.map PyData.str).filterMap unStr = ns := by
  rw [List.filterMap_map]
  induction ns with
  | nil => rfl
  | cons x r ih => rw [List.filterMap_cons]; simp only [Function.comp_apply, unStr]; rw [ih]
/-- a branch with its names bound -/
def brItem (kds : KD) : PyData → PyData
  | .tuple [_, .tuple ns, b] => .tuple [b, dkD (bindD kds (ns.filterMap unStr))]
  | _ => .none
theorem scL_plain {h : Hd} {kds : KD} (z : ∀ i, h.binds i = []) : ∀ (i : Nat) (es : List Ex), scL h kds i es = es.map fun e => (e, kds)
  | _, [] => rfl
  | i, e :: es => by rw [scL, z, scL_plain z]; rfl
theorem scL_cas (bs : List (Str × List Str)) (kds : KD) : ∀ (i : Nat) (es : List Ex), es.length = bs.length - i → scL (.cas bs) kds (i + 1) es = List.zipWith (fun b e => (e, bindD kds b.2)) (bs.drop i) es
  | _, [], _ => by simp [scL]
  | i, e :: es, hl => by
    have lt : i < bs.length := by simp at hl; omega
    rw [scL, scL_cas bs kds (i + 1) es (by simp at hl; omega), List.drop_eq_getElem_cons lt, List.zipWith_cons_cons]
    have : Hd.binds (.cas bs) (i + 1) = bs[i].2 := by
      show (match bs[i]? with | some b => b.2 | none => []) = _
      rw [List.getElem?_eq_getElem lt]
    rw [this]
theorem plain_binds {h : Hd} (n1 : ∀ bs, h ≠ .cas bs) (n2 : ∀ x, h ≠ .lt x) : ∀ i, h.binds i = [] := by
  cases h with
  | cas bs => exact absurd rfl (n1 bs)
  | lt x => exact absurd rfl (n2 x)
  | _ => exact fun _ => rfl
theorem zip_br2 {bs : List (Str × List Str)} {ds : List PyData} {d : PyData} (h : d ∈ List.zipWith Pg.brD bs ds) : ∃ b x, b ∈ bs ∧ d = Pg.brD b x := by
  obtain ⟨i, hi, e⟩ := List.getElem_of_mem h
  rw [List.getElem_zipWith] at e
  exact ⟨_, _, List.getElem_mem _, e.symm⟩
theorem sum_mem {ns : List Nat} {n : Nat} (h : n ∈ ns) : n ≤ ns.sum := by
  induction ns with
  | nil => cases h
  | cons m r ih =>
    rw [List.sum_cons]
    rcases List.mem_cons.mp h with rfl | h
    · omega
    · have := ih h; omega
theorem hd_let {h : Hd} (n : ∀ x, h ≠ .lt x) : h.w ≠ "let" := by
  cases h with
  | int i => exact (by decide +kernel : ("int" : Str) ≠ "let")
  | nam x => exact (by decide +kernel : ("name" : Str) ≠ "let")
  | call x => exact (by decide +kernel : ("call" : Str) ≠ "let")
  | make x => exact (by decide +kernel : ("make" : Str) ≠ "let")
  | cas x => exact (by decide +kernel : ("case" : Str) ≠ "let")
  | lt x => exact absurd rfl (n x)
  | iff x => exact (by decide +kernel : ("if" : Str) ≠ "let")
  | op x => exact (by decide +kernel : ("op" : Str) ≠ "let")
  | delay => exact (by decide +kernel : ("delay" : Str) ≠ "let")
  | force => exact (by decide +kernel : ("force" : Str) ≠ "let")
section
variable {P : Program} {w : World} {K : PySem.W.Frag} {mg : Str → Option Value} {base : Heap}
abbrev s_boundToo : Stmt := top 39
abbrev n_boundToo : List Str := ["bound", "names", "now_bound", "name"]
theorem sc_boundToo : FnScope n_boundToo ["bound", "names"] (defScope s_boundToo) := ⟨rfl, rfl, rfl, by decide +kernel, rfl, by decide +kernel, by decide +kernel⟩
theorem ok_boundToo {f : Addr} {fd : FuncData} (F : Fun K "bound_too" "bound_too" s_boundToo f fd) (T : Blt mg) : FnG P w K mg base CX0 1 f fd ["bound", "names"] (spD K IK.ks fBoundToo) := by
  have sc := sc_boundToo
  refine FnG.data F sc (by decide) (fun Δ Ψ h => by first | (obtain ⟨rfl, _⟩ := h; rfl) | (obtain ⟨_, rfl, _⟩ := h; rfl) | (obtain ⟨_, _, rfl, _⟩ := h; rfl) | (obtain ⟨_, _, _, rfl, _⟩ := h; rfl) | (obtain ⟨_, _, _, _, rfl, _⟩ := h; rfl) | (obtain ⟨_, _, _, _, _, rfl, _⟩ := h; rfl)) (fun cdv A outer s H E Δ Ψ noG hr h => ?_)
  have hu := hu_of hr
  obtain ⟨kds, ns, a, b, rfl, ea, eb, few, k⟩ := h
  refine ⟨_, _, (xss_cons (xs_set (i := 2) sc.nd rfl (Or.inl rfl) (xe_CB (xr_cons (xe_var (pv 0)) xr_nil) (fun _ p => pe_callTy cr_dict (by rfl) T.dict (by decide +kernel) p) PDictOf)) 
      (xss_cons (xs_for PassesOwn.never rfl (xi_or (xi_listS (xe_var (pv 1))) (xi_tupS (xe_var (pv 1)))) (xg_name (i := 3) sc.nd rfl (Or.inl rfl))
        (xss_one (xs_asg xe_bl (xg_dputV (i := 2) (j := 3) hu (pv 2) (pv 3))))) 
      (xss_one (xs_ret (xe_var (pv 2)))))), ?_⟩
  have loop : ∀ (b0 b1 : Px.D), loopW (gN 3) (wAsg (wC (.bool true)) (gDputV 2 3)) (ns.map .str) [some b0, some b1, some (.own (dkD kds)), none] { nx := fun Γ1 => wRet (wVar 2) Γ1 { nx := fun _ => Ψ (.v .none), rt := fun r => Fine r ∧ Ψ r }, rt := fun r => Fine r ∧ Ψ r } := by
    intro b0 b1
    refine loop_inv (fun r Γ => ∃ (pre suf : List Str) (c3 : Option Px.D), ns = pre ++ suf ∧ r = suf.map .str ∧ Γ = [some b0, some b1, some (.own (dkD (bindD kds pre))), c3]) ?_ ?_ _ _ ⟨[], ns, none, rfl, rfl, rfl⟩
    · rintro d r Γ N ⟨pre, suf, c3, rfl, er, rfl⟩ hN
      cases suf with
      | nil => cases er
      | cons x suf =>
        obtain ⟨rfl, rfl⟩ := List.cons.inj er
        walk_at "px"
        have bl := bindD_len pre kds
        rw [List.length_append] at few
        exact ⟨_, .inr x, rfl, rfl, milt (by omega), hN _ ⟨pre ++ [x], suf, _, by simp, rfl, by rw [bindD_snoc]; rfl⟩⟩
    · rintro Γ ⟨pre, suf, c3, e, er, rfl⟩
      have : suf = [] := by cases suf with | nil => rfl | cons _ _ => cases er
      subst this
      rw [List.append_nil] at e
      rw [e] at k
      walk_at "px"
      exact k
  rcases ea with rfl | rfl <;> rcases eb with rfl | rfl
  · walk_at "px"
    refine Or.inr ⟨_, rfl, _, _, rfl, loop _ _⟩
  · walk_at "px"
    refine Or.inl ⟨_, rfl, _, _, rfl, loop _ _⟩
  · walk_at "px"
    refine Or.inr ⟨_, rfl, _, _, rfl, loop _ _⟩
  · walk_at "px"
    refine Or.inl ⟨_, rfl, _, _, rfl, loop _ _⟩
abbrev s_scopesWithin : Stmt := top 40
abbrev n_scopesWithin : List Str := ["expression", "bound", "bodies", "_", "names", "body", "part"]
theorem sc_scopesWithin : FnScope n_scopesWithin ["expression", "bound"] (defScope s_scopesWithin) := ⟨rfl, rfl, rfl, by decide +kernel, rfl, by decide +kernel, by decide +kernel⟩
theorem ok_scopesWithin {f : Addr} {fd : FuncData} (F : Fun K "scopes_within" "scopes_within" s_scopesWithin f fd) (T : Blt mg) {f_0 : Addr} {fd_0 : FuncData} (Dinner : DfD P w K mg base "inner" 1 f_0 fd_0 ["thing"] fInner) {f_1 : Addr} {fd_1 : FuncData} (Dbound_too : DfD P w K mg base "bound_too" 1 f_1 fd_1 ["bound", "names"] fBoundToo) : FnG P w K mg base CX0 2 f fd ["expression", "bound"] (spD K IK.ks fScopes) := by
  have sc := sc_scopesWithin
  refine FnG.data F sc (by decide) (fun Δ Ψ h => by first | (obtain ⟨rfl, _⟩ := h; rfl) | (obtain ⟨_, rfl, _⟩ := h; rfl) | (obtain ⟨_, _, rfl, _⟩ := h; rfl) | (obtain ⟨_, _, _, rfl, _⟩ := h; rfl) | (obtain ⟨_, _, _, _, rfl, _⟩ := h; rfl) | (obtain ⟨_, _, _, _, _, rfl, _⟩ := h; rfl)) (fun cdv A outer s H E Δ Ψ noG hr h => ?_)
  obtain ⟨e, kds, rfl, fit, few, k⟩ := h
  refine ⟨_, _, (xss_cons (xs_if (xt_cmp op_eq PEq (xe_ix (xe_var (pv 0)) xe_int (fun _ _ => rfl)) xe_str (nomark _)) (xss_cons (xs_setLc (i := 2) (own := [("_", 3), ("names", 4), ("body", 5)]) (g := gTup K 3 (gCons (gName 3) (gCons (gName 4) (gCons (gName 5) gNil)))) (tt := tYes) (te := (tTup (tCons (tVar 5) (tCons (tCall (spD K IK.ks _) [] (fun _ _ _ => False) (tCons (tVar 1) (tCons (tVar 4) tNil))) tNil)))) rfl sc.nd rfl rfl (sw_true rfl rfl rfl (by decide +kernel)) (xc_tup (xe_ix (xe_var (pv 0)) xe_int (fun _ _ => rfl))) (blkOk_by ( N := n_scopesWithin) (sc := defScope s_scopesWithin) (by decide +kernel)) (fun _ _ _ _ _ => (xg_tup (by rfl) (xgs_cons (xg_name (i := 3) sc.nd rfl (Or.inl rfl)) (xgs_cons (xg_name (i := 4) sc.nd rfl (Or.inl rfl)) (xgs_cons (xg_name (i := 5) sc.nd rfl (Or.inl rfl)) xgs_nil))))) (fun _ _ _ _ _ => xts_nil) (fun _ _ _ _ _ => (xe_tup (xv_cons (xe_var (pv 5)) (xv_cons (xe_call Dbound_too.ok noG (hr.mono (by decide)) (by rfl) Dbound_too.m Dbound_too.k Dbound_too.b (xp_cons (xe_var (pv 1)) (xp_cons (xe_var (pv 4)) xp_nil))) xv_nil))))) 
        (xss_one (xs_ret (xe_lst (xv_cons (xe_tup (xv_cons (xe_ix (xe_var (pv 0)) xe_int (fun _ _ => rfl)) (xv_cons (xe_var (pv 1)) xv_nil))) (xv_star (xe_var (pv 2)) xv_nil)))))) xss_nil) 
      (xss_cons (xs_if (xt_cmp op_eq PEq (xe_ix (xe_var (pv 0)) xe_int (fun _ _ => rfl)) xe_str (nomark _)) (xss_one (xs_ret (xe_lst (xv_cons (xe_tup (xv_cons (xe_ix (xe_var (pv 0)) xe_int (fun _ _ => rfl)) (xv_cons (xe_var (pv 1)) xv_nil))) (xv_cons (xe_tup (xv_cons (xe_ix (xe_var (pv 0)) xe_int (fun _ _ => rfl)) (xv_cons (xe_call Dbound_too.ok noG (hr.mono (by decide)) (by rfl) Dbound_too.m Dbound_too.k Dbound_too.b (xp_cons (xe_var (pv 1)) (xp_cons (xe_lst (xv_cons (xe_ix (xe_var (pv 0)) xe_int (fun _ _ => rfl)) xv_nil)) xp_nil))) xv_nil))) xv_nil))))) xss_nil) 
      (xss_one (xs_ret (xe_lc (own := [("part", 6)]) (g := gName 6) (tt := tYes) (te := (tTup (tCons (tVar 6) (tCons (tVar 1) tNil)))) rfl sc.nd (xc_list (xe_call Dinner.ok noG (hr.mono (by decide)) (by rfl) Dinner.m Dinner.k Dinner.b (xp_cons (xe_var (pv 0)) xp_nil))) (blkOk_by ( N := n_scopesWithin) (sc := defScope s_scopesWithin) (by decide +kernel)) (fun _ _ _ _ _ => (xg_name (i := 6) sc.nd rfl (Or.inl rfl))) (fun _ _ _ _ _ => xts_nil) (fun _ _ _ _ _ => (xe_tup (xv_cons (xe_var (pv 6)) (xv_cons (xe_var (pv 1)) xv_nil))))))))), ?_⟩
  obtain ⟨hd, es⟩ := e
  have fit0 := fit
  have few0 := few
  obtain ⟨fit, fits⟩ := Ex.fit_nd fit
  have nn : (Ex.nd hd es).n = 1 + hd.bn + nL es := by rw [Ex.n]
  have len := nL_len es
  show _
  walk_at "px"
  by_cases hc : ∃ bs, hd = .cas bs
  · obtain ⟨bs, rfl⟩ := hc
    obtain ⟨e0, bodies, rfl, hl, _, _, _⟩ := fit_cas fit
    have bl : ∀ b ∈ bs, b.2.length ≤ (Hd.cas bs).bn := fun b hb => sum_mem (List.mem_map.mpr ⟨b, hb, rfl⟩)
    rw [Ex.d_nd]
    walk_at "px"
    refine Px.comp_map (brItem kds) rfl rfl (mil (by simp at len; simp; omega)) (fun d hd N hN => ?_) ?_
    · obtain ⟨b, x, hb, rfl⟩ := zip_br2 hd
      have := bl b hb
      rw [show brItem kds (Pg.brD b x) = .tuple [x, dkD (bindD kds b.2)] by show PyData.tuple [x, dkD (bindD kds ((b.2.map PyData.str).filterMap unStr))] = _; rw [unStrs]] at hN
      walk_at "px"
      refine ⟨kds, b.2, _, _, rfl, .inr rfl, .inl rfl, by omega, ?_⟩
      walk_at "px"
      exact hN _ rfl
    · walk_at "px"
      refine ⟨mil (by simp at len; simp; omega), ?_⟩
      walk_at "px"
      have e : [PyData.tuple [e0.d, dkD kds]] ++ ((List.zipWith Pg.brD bs (bodies.map Ex.d)).map (brItem kds) ++ []) = (scopes (.nd (.cas bs) (e0 :: bodies), kds)).map itemD := by
        show _ = (scL (.cas bs) kds 0 (e0 :: bodies)).map itemD
        rw [scL, scL_cas bs kds 0 bodies (by omega), List.append_nil, List.map_cons, List.drop_zero, List.map_zipWith, List.map_zipWith, List.zipWith_map_right]
        have eg : (fun (b : Str × List Str) (x : Ex) => brItem kds (Pg.brD b x.d)) = fun b x => itemD (x, bindD kds b.2) := by
          funext b x
          show PyData.tuple [x.d, dkD (bindD kds ((b.2.map PyData.str).filterMap unStr))] = .tuple [x.d, dkD (bindD kds b.2)]
          rw [unStrs]
        exact congrArg (fun g => PyData.tuple [e0.d, dkD kds] :: List.zipWith g bs bodies) eg
      rw [← e] at k
      exact k
  · have nc : (Ex.nd hd es).hd.w ≠ "case" := hd_case fun bs z => hc ⟨bs, z⟩
    rw [decide_eq_false nc]
    walk_at "px"
    by_cases hl : ∃ x, hd = .lt x
    · obtain ⟨x, rfl⟩ := hl
      obtain ⟨a, b, rfl⟩ := two (of_decide_eq_true fit)
      rw [Ex.d_nd]
      walk_at "px"
      refine ⟨kds, [x], _, _, rfl, .inr rfl, .inr rfl, by simp; omega, ?_⟩
      walk_at "px"
      exact k
    · have nl : (Ex.nd hd es).hd.w ≠ "let" := hd_let fun x z => hl ⟨x, z⟩
      rw [decide_eq_false nl]
      walk_at "px"
      refine ⟨fit0, by omega, ?_⟩
      walk_at "px"
      refine Px.comp_map (fun d => .tuple [d, dkD kds]) rfl rfl (mil (by rw [List.length_map]; show es.length ≤ _; omega)) (fun d hd N hN => ?_) ?_
      · walk_at "px"
        exact hN _ rfl
      · walk_at "px"
        have e : (es.map Ex.d).map (fun d => PyData.tuple [d, dkD kds]) = (scopes (.nd hd es, kds)).map itemD := by
          show _ = (scL hd kds 0 es).map itemD
          rw [scL_plain (plain_binds (fun bs z => hc ⟨bs, z⟩) fun x z => hl ⟨x, z⟩), List.map_map, List.map_map]; rfl
        rw [← e] at k
        exact k
end
end K10
end

/-! K10e -/
section
set_option Elab.async false
set_option linter.all false
set_option maxRecDepth 100000
set_option maxHeartbeats 8000000
namespace K10
open PySem PySem.Spec PyProof.Rows L2 Dh Px Pg
local macro_rules | `(tactic| walk_at "px") => `(tactic| repeat (first
  | refine yT ?_ | refine yF ?_ | refine ⟨_, rfl, ?_⟩ | refine ⟨_, _, rfl, rfl, ?_⟩ | refine ⟨_, _, rfl, ?_⟩
  | refine ⟨_, _, rfl, isi (.tuple _), ?_⟩ | refine ⟨_, _, rfl, isi (.str _), ?_⟩ | refine ⟨_, _, rfl, isi (.int _), ?_⟩ | refine ⟨_, _, rfl, isi (.bool _), ?_⟩
  | refine pix_word ?_ | refine ⟨⟨_, rfl⟩, ?_⟩ | refine ⟨True.intro, ?_⟩ | refine ⟨rfl, ?_⟩ | refine ⟨(Nat.le_of_ble_eq_true rfl : _ ≤ sizeLine), ?_⟩))
/-- a row of a size that is looked through -/
structure RwOk (r : Rw) : Prop where
  fit : r.2.2.fit = true
  p : r.2.1.length ≤ 4000
  n : r.2.1.length + r.2.2.n ≤ 400000
structure POk (rows : List Rw) : Prop where
  len : rows.length ≤ 4000
  tot : (rows.map fun r => r.2.1.length + r.2.2.n).sum ≤ 200000
  ok : ∀ r ∈ rows, RwOk r
def faultD (w : Str) : Option (Str × Str) → PyData
  | none => .none
  | some z => .tuple [.str w, .str z.1, .str z.2]
def twiceD : Option Str → PyData
  | none => .none
  | some x => .tuple [.str "twice", .str x]
theorem fs_some {α β : Type} {f : α → Option β} {a : α} {l : List α} {b : β} (h : f a = some b) : (a :: l).findSome? f = some b := by rw [List.findSome?_cons, h]
theorem fs_none {α β : Type} {f : α → Option β} {a : α} {l : List α} (h : f a = none) : (a :: l).findSome? f = l.findSome? f := by rw [List.findSome?_cons, h]
def twiceF (rows : List Rw) : Option Str := firstRep (rows.map (·.1)) []
def brNames (e : Ex) : List (List Str) := (pre e).filterMap fun p => match p with
  | .br b _ => some b.2
  | _ => none
def paramF (rows : List Rw) : Option (Str × Str) := rows.findSome? fun r => ((r.2.1 :: brNames r.2.2).findSome? fun ns => firstRep ns []).map fun x => (r.1, x)
def brTag : Pl → Option Str
  | .nd (.nd (.cas bs) _) => firstRep (bs.map (·.1)) []
  | _ => none
def branchF (rows : List Rw) : Option (Str × Str) := rows.findSome? fun r => ((pre r.2.2).findSome? brTag).map fun x => (r.1, x)
def fTwice : PF := fun Δ Ψ => ∃ rows : List Rw, Δ = [.v (progD rows)] ∧ POk rows ∧ Ψ (.v (twiceD (twiceF rows)))
def fParam : PF := fun Δ Ψ => ∃ rows : List Rw, Δ = [.v (progD rows)] ∧ POk rows ∧ Ψ (.v (faultD "parameter" (paramF rows)))
def fUnbound : PF := fun Δ Ψ => ∃ rows : List Rw, Δ = [.v (progD rows)] ∧ POk rows ∧ Ψ (.v (faultD "unbound" (unbF rows)))
def fBranch : PF := fun Δ Ψ => ∃ rows : List Rw, Δ = [.v (progD rows)] ∧ POk rows ∧ Ψ (.v (faultD "branch" (branchF rows)))
def firstD : PyData → PyData
  | .tuple (x :: _) => x
  | _ => .none
def isBrD : PyData → Bool
  | .tuple [.str w, _] => decide (w = "branch")
  | _ => false
def secD : PyData → PyData
  | .tuple [_, .tuple [_, ns, _]] => ns
  | _ => .none
theorem brs_list (e : Ex) : (((pre e).map Pl.d).filter isBrD).map secD = (brNames e).map fun ns => .tuple (ns.map .str) := by
  unfold brNames
  generalize pre e = ps
  induction ps with
  | nil => rfl
  | cons p ps ih =>
    cases p with
    | br b x =>
      rw [List.map_cons, List.filter_cons_of_pos (by rfl), List.map_cons, ih, List.filterMap_cons]
      rfl
    | nd x =>
      rw [List.map_cons, List.filter_cons_of_neg (by show ¬ decide (x.hd.w = "branch") = true; rw [decide_eq_false (hd_word x.hd)]; decide), ih, List.filterMap_cons]
mutual
theorem br_small : ∀ e : Ex, e.fit = true → ∀ p ∈ pre e, ∀ b x, p = .br b x → b.2.length ≤ 4000
  | .nd h es, z, p, hp, b, x, ep => by
    obtain ⟨z1, z2⟩ := Ex.fit_nd z
    rw [pre] at hp
    rcases List.mem_cons.mp hp with rfl | hp
    · cases ep
    · exact br_smallL h es z1 0 es z2 p hp b x ep
theorem br_smallL (h : Hd) (es0 : List Ex) (z : h.fits es0.length = true) : ∀ (i : Nat) (es : List Ex), (∀ e ∈ es, e.fit = true) → ∀ p ∈ preL h i es, ∀ b x, p = .br b x → b.2.length ≤ 4000
  | _, [], _, p, hp, _, _, _ => by rw [preL] at hp; cases hp
  | i, e :: es, zs, p, hp, b, x, ep => by
    rw [preL] at hp
    rcases List.mem_append.mp hp with hp | hp
    · rcases List.mem_append.mp hp with hp | hp
      · cases h with
        | cas bs =>
          obtain ⟨_, _, _, _, _, _, small⟩ := fit_cas z
          cases i with
          | zero => cases hp
          | succ i =>
            unfold Hd.brs at hp
            simp only at hp
            split at hp
            · rename_i b' hb'
              rw [List.mem_singleton.mp hp] at ep
              cases ep
              exact small _ (List.mem_of_getElem? hb')
            · cases hp
        | _ => cases hp
      · exact br_small e (zs e (by simp)) p hp b x ep
    · exact br_smallL h es0 z (i + 1) es (fun e he => zs e (by simp [he])) p hp b x ep
end
theorem brNames_small {e : Ex} (z : e.fit = true) : ∀ ns ∈ brNames e, ns.length ≤ 4000 := by
  intro ns hns
  unfold brNames at hns
  obtain ⟨p, hp, q⟩ := List.mem_filterMap.mp hns
  cases p with
  | br b x => cases q; exact br_small e z _ hp b x rfl
  | nd x => cases q
section
variable {P : Program} {w : World} {K : PySem.W.Frag} {mg : Str → Option Value} {base : Heap}
abbrev s_twiceFault : Stmt := top 33
abbrev n_twiceFault : List Str := ["program", "f", "definition"]
theorem sc_twiceFault : FnScope n_twiceFault ["program"] (defScope s_twiceFault) := ⟨rfl, rfl, rfl, by decide +kernel, rfl, by decide +kernel, by decide +kernel⟩
theorem ok_twiceFault {f : Addr} {fd : FuncData} (F : Fun K "twice_fault" "twice_fault" s_twiceFault f fd) (T : Blt mg) {f_0 : Addr} {fd_0 : FuncData} (Dfirst_repeated : DfD P w K mg base "first_repeated" 1 f_0 fd_0 ["words"] fFirst) : FnG P w K mg base CX0 2 f fd ["program"] (spD K IK.ks fTwice) := by
  have sc := sc_twiceFault
  refine FnG.data F sc (by decide) (fun Δ Ψ h => by first | (obtain ⟨rfl, _⟩ := h; rfl) | (obtain ⟨_, rfl, _⟩ := h; rfl) | (obtain ⟨_, _, rfl, _⟩ := h; rfl) | (obtain ⟨_, _, _, rfl, _⟩ := h; rfl) | (obtain ⟨_, _, _, _, rfl, _⟩ := h; rfl) | (obtain ⟨_, _, _, _, _, rfl, _⟩ := h; rfl)) (fun cdv A outer s H E Δ Ψ noG hr h => ?_)
  obtain ⟨rows, rfl, ok, k⟩ := h
  refine ⟨_, _, (xss_cons (xs_set (i := 1) sc.nd rfl (Or.inl rfl) (xe_call Dfirst_repeated.ok noG (hr.mono (by decide)) (by rfl) Dfirst_repeated.m Dfirst_repeated.k Dfirst_repeated.b (xp_cons (xe_lc (own := [("definition", 2)]) (g := gName 2) (tt := tYes) (te := (tOp (rIx K) (tVar 2) (tC _))) rfl sc.nd (xc_tup (xe_var (pv 0))) (blkOk_by ( N := n_twiceFault) (sc := defScope s_twiceFault) (by decide +kernel)) (fun _ _ _ _ _ => (xg_name (i := 2) sc.nd rfl (Or.inl rfl))) (fun _ _ _ _ _ => xts_nil) (fun _ _ _ _ _ => (xe_ix (xe_var (pv 2)) xe_int (fun _ _ => rfl)))) xp_nil))) 
      (xss_one (xs_ret (xe_if (xt_cmp op_isN PIsN (xe_var (pv 1)) xe_non (nomark _)) xe_non (xe_tup (xv_cons xe_str (xv_cons (xe_var (pv 1)) xv_nil))))))), ?_⟩
  walk_at "px"
  refine Px.comp_map firstD rfl rfl (mil (by have := ok.len; rw [List.length_map]; omega)) (fun d hd N hN => ?_) ?_
  · obtain ⟨r, _, rfl⟩ := List.mem_map.mp hd
    walk_at "px"
    exact hN _ rfl
  · walk_at "px"
    have e : (rows.map rowD).map firstD = (rows.map (·.1)).map PyData.str := by
      rw [List.map_map, List.map_map]; rfl
    rw [e]
    refine ⟨rows.map (·.1), .inl rfl, by rw [List.length_map]; exact ok.len, ?_⟩
    unfold twiceF at k
    cases hf : firstRep (rows.map (·.1)) [] with
    | none =>
      rw [hf] at k
      walk_at "px"
      exact k
    | some x =>
      rw [hf] at k
      walk_at "px"
      exact k
abbrev s_parameterFault : Stmt := top 35
abbrev n_parameterFault : List Str := ["program", "f", "parameters", "body", "rows", "names", "x", "word", "thing"]
theorem sc_parameterFault : FnScope n_parameterFault ["program"] (defScope s_parameterFault) := ⟨rfl, rfl, rfl, by decide +kernel, rfl, by decide +kernel, by decide +kernel⟩
theorem ok_parameterFault {f : Addr} {fd : FuncData} (F : Fun K "parameter_fault" "parameter_fault" s_parameterFault f fd) (T : Blt mg) {f_0 : Addr} {fd_0 : FuncData} (Dfirst_repeated : DfD P w K mg base "first_repeated" 1 f_0 fd_0 ["words"] fFirst) {f_1 : Addr} {fd_1 : FuncData} (Dplaces : DfD P w K mg base "places" 3 f_1 fd_1 ["body"] fPlaces) : FnG P w K mg base CX0 4 f fd ["program"] (spD K IK.ks fParam) := by
  have sc := sc_parameterFault
  refine FnG.data F sc (by decide) (fun Δ Ψ h => by first | (obtain ⟨rfl, _⟩ := h; rfl) | (obtain ⟨_, rfl, _⟩ := h; rfl) | (obtain ⟨_, _, rfl, _⟩ := h; rfl) | (obtain ⟨_, _, _, rfl, _⟩ := h; rfl) | (obtain ⟨_, _, _, _, rfl, _⟩ := h; rfl) | (obtain ⟨_, _, _, _, _, rfl, _⟩ := h; rfl)) (fun cdv A outer s H E Δ Ψ noG hr h => ?_)
  obtain ⟨rows, rfl, ok, k⟩ := h
  refine ⟨_, _, (xss_cons (xs_for PassesOwn.never rfl (xi_tupS (xe_var (pv 0))) (xg_tup (by rfl) (xgs_cons (xg_name (i := 1) sc.nd rfl (Or.inl rfl)) (xgs_cons (xg_name (i := 2) sc.nd rfl (Or.inl rfl)) (xgs_cons (xg_name (i := 3) sc.nd rfl (Or.inl rfl)) xgs_nil))))
        (xss_cons (xs_set (i := 4) sc.nd rfl (Or.inl rfl) (xe_op op_cat PCat (xe_lst (xv_cons (xe_var (pv 2)) xv_nil)) (xe_lc (own := [("word", 7), ("thing", 8)]) (g := gTup K 2 (gCons (gName 7) (gCons (gName 8) gNil))) (tt := (tTest (tOp _ (tVar 7) (tC _)))) (te := (tOp (rIx K) (tVar 8) (tC _))) rfl sc.nd (xc_list (xe_call Dplaces.ok noG (hr.mono (by decide)) (by rfl) Dplaces.m Dplaces.k Dplaces.b (xp_cons (xe_var (pv 3)) xp_nil))) (blkOk_by ( N := n_parameterFault) (sc := defScope s_parameterFault) (by decide +kernel)) (fun _ _ _ _ _ => (xg_tup (by rfl) (xgs_cons (xg_name (i := 7) sc.nd rfl (Or.inl rfl)) (xgs_cons (xg_name (i := 8) sc.nd rfl (Or.inl rfl)) xgs_nil)))) (fun _ _ _ _ _ => (xts_one (xt_cmp op_eq PEq (xe_var (pv 7)) xe_str (nomark _)))) (fun _ _ _ _ _ => (xe_ix (xe_var (pv 8)) xe_int (fun _ _ => rfl)))))) 
        (xss_one (xs_for PassesOwn.never rfl (xi_listS (xe_var (pv 4))) (xg_name (i := 5) sc.nd rfl (Or.inl rfl))
          (xss_cons (xs_set (i := 6) sc.nd rfl (Or.inl rfl) (xe_call Dfirst_repeated.ok noG (hr.mono (by decide)) (by rfl) Dfirst_repeated.m Dfirst_repeated.k Dfirst_repeated.b (xp_cons (xe_var (pv 5)) xp_nil))) 
          (xss_one (xs_if (xt_cmp op_notN PNotN (xe_var (pv 6)) xe_non (nomark _)) (xss_one (xs_ret (xe_tup (xv_cons xe_str (xv_cons (xe_var (pv 1)) (xv_cons (xe_var (pv 6)) xv_nil)))))) xss_nil))))))) 
      (xss_one (xs_ret xe_non))), ?_⟩
  refine ⟨_, rfl, _, _, rfl, ?_⟩
  refine loop_inv (fun q Γ => ∃ (suf : List Rw) (c1 c2 c3 c4 c5 c6 : Option Px.D), q = suf.map rowD ∧ (∀ r ∈ suf, r ∈ rows) ∧ Γ = [some (.v (progD rows)), c1, c2, c3, c4, c5, c6, none, none] ∧ paramF rows = paramF suf) ?_ ?_ _ _ ⟨rows, none, none, none, none, none, none, rfl, fun _ h => h, rfl, rfl⟩
  · rintro d q Γ N ⟨suf, c1, c2, c3, c4, c5, c6, eq, sub, rfl, ef⟩ hN
    cases suf with
    | nil => cases eq
    | cons r suf =>
      obtain ⟨rfl, rfl⟩ := List.cons.inj eq
      have rok := ok.ok r (sub r (by simp))
      obtain ⟨f, ps, e⟩ := r
      have pl := pre_len e
      have en : ps.length + e.n ≤ 400000 := rok.n
      walk_at "px"
      refine ⟨rok.fit, (show e.n ≤ 400000 by omega), ?_⟩
      walk_at "px"
      refine comp_fm isBrD secD rfl rfl (mil (by rw [List.length_map]; show (pre e).length ≤ _; omega)) (fun d hd N1 N0 h1 h0 => ?_) ?_
      · obtain ⟨p, _, rfl⟩ := List.mem_map.mp hd
        cases p with
        | br b x =>
          walk_at "px"
          exact h1 rfl _ rfl
        | nd x =>
          walk_at "px"
          have hw : decide ((Pl.nd x).w = "branch") = false := decide_eq_false (hd_word x.hd)
          rw [hw]
          exact yF (h0 hw _ rfl)
      · rw [brs_list]
        walk_at "px"
        have bl : (brNames e).length ≤ (pre e).length := by unfold brNames; exact List.length_filterMap_le _ _
        refine ⟨mil (by rw [List.length_map]; show 1 + (brNames e).length ≤ _; omega), ?_⟩
        have el : [PyData.tuple (ps.map PyData.str)] ++ (brNames e).map (fun ns => PyData.tuple (ns.map .str)) = (ps :: brNames e).map fun ns => .tuple (ns.map .str) := rfl
        generalize hL : [PyData.tuple (List.map PyData.str (f, ps, e).2.1)] ++ List.map (fun ns => PyData.tuple (List.map PyData.str ns)) (brNames (f, ps, e).2.2) = L
        have hL : L = (ps :: brNames e).map fun ns => .tuple (ns.map .str) := hL.symm.trans el
        walk_at "px"
        have small : ∀ ns ∈ ps :: brNames e, ns.length ≤ 4000 := by
          intro ns hns
          rcases List.mem_cons.mp hns with rfl | hns
          · exact rok.p
          · exact brNames_small rok.fit ns hns
        refine loop_inv (fun q Γ => ∃ (rest : List (List Str)) (c5 c6 : Option Px.D), q = rest.map (fun ns => .tuple (ns.map .str)) ∧ (∀ ns ∈ rest, ns.length ≤ 4000) ∧ Γ = [some (.v (progD rows)), some (.v (.str f)), some (.v (.tuple (ps.map .str))), some (.v e.d), some (.v (.list L)), c5, c6, none, none] ∧
          (ps :: brNames e).findSome? (fun ns => firstRep ns []) = rest.findSome? fun ns => firstRep ns []) ?_ ?_ _ _ ⟨_, c5, c6, hL, small, rfl, rfl⟩
        · rintro d q Γ M ⟨rest, c5, c6, eq, sm, rfl, er⟩ hM
          cases rest with
          | nil => cases eq
          | cons ns rest =>
            obtain ⟨rfl, rfl⟩ := List.cons.inj eq
            walk_at "px"
            refine ⟨ns, .inr (.inl rfl), sm ns (by simp), ?_⟩
            have er := er.trans List.findSome?_cons
            cases hf : firstRep ns [] with
            | none =>
              rw [hf] at er
              walk_at "px"
              exact hM _ ⟨rest, _, _, rfl, fun x hx => sm x (by simp [hx]), rfl, er⟩
            | some x =>
              rw [hf] at er
              walk_at "px"
              have : paramF rows = some (f, x) := by
                rw [ef]
                exact fs_some (by show Option.map _ ((ps :: brNames e).findSome? fun ns => firstRep ns []) = _; rw [er]; rfl)
              rw [this] at k
              exact k
        · rintro Γ ⟨rest, c5, c6, eq, sm, rfl, er⟩
          have : rest = [] := by cases rest with | nil => rfl | cons _ _ => cases eq
          subst this
          refine hN _ ⟨suf, _, _, _, _, _, _, rfl, fun x hx => sub x (by simp [hx]), rfl, ?_⟩
          rw [ef]
          exact fs_none (by show Option.map _ ((ps :: brNames e).findSome? fun ns => firstRep ns []) = _; rw [er]; rfl)
  · rintro Γ ⟨suf, c1, c2, c3, c4, c5, c6, eq, sub, rfl, ef⟩
    have : suf = [] := by cases suf with | nil => rfl | cons _ _ => cases eq
    subst this
    rw [ef] at k
    walk_at "px"
    exact k
end
end K10
end

/-! K10f -/
section
set_option Elab.async false
set_option linter.all false
set_option maxRecDepth 100000
set_option maxHeartbeats 8000000
namespace K10
open PySem PySem.Spec PyProof.Rows L2 Dh Px Pg
local macro_rules | `(tactic| walk_at "px") => `(tactic| repeat (first
  | refine yT ?_ | refine yF ?_ | refine ⟨_, rfl, ?_⟩ | refine ⟨_, _, rfl, rfl, ?_⟩ | refine ⟨_, _, rfl, ?_⟩
  | refine ⟨_, _, rfl, isi (.tuple _), ?_⟩ | refine ⟨_, _, rfl, isi (.str _), ?_⟩ | refine ⟨_, _, rfl, isi (.int _), ?_⟩ | refine ⟨_, _, rfl, isi (.bool _), ?_⟩
  | refine pix_word ?_ | refine ⟨⟨_, rfl⟩, ?_⟩ | refine ⟨True.intro, ?_⟩ | refine ⟨rfl, ?_⟩ | refine ⟨(Nat.le_of_ble_eq_true rfl : _ ≤ sizeLine), ?_⟩))
/-! ### the walk for names that are bound nowhere -/
abbrev Gi := (Ex × KD) × List Str
def scG (h : Hd) (kds : KD) (sc : List Str) : Nat → List Ex → List Gi
  | _, [] => []
  | i, e :: es => ((e, bindD kds (h.binds i)), sc ++ h.binds i) :: scG h kds sc (i + 1) es
theorem scG_fst (h : Hd) (kds : KD) (sc : List Str) : ∀ (i : Nat) (es : List Ex), (scG h kds sc i es).map (·.1) = scL h kds i es
  | _, [] => rfl
  | i, e :: es => by rw [scG, scL, List.map_cons, scG_fst h kds sc]
def ubs (st : List Gi) : List Str := st.flatMap fun p => ub p.1.1 p.2
theorem scG_ub (h : Hd) (kds : KD) (sc : List Str) : ∀ (i : Nat) (es : List Ex), ubs (scG h kds sc i es) = ubL h i es sc
  | _, [] => by rw [ubL]; rfl
  | i, e :: es => by
    rw [ubL, ← scG_ub h kds sc (i + 1) es]
    rfl
def szs (st : List Gi) : Nat := (st.map fun p => p.1.1.n).sum
theorem szs_app (a b : List Gi) : szs (a ++ b) = szs a + szs b := by unfold szs; rw [List.map_append, List.sum_append_nat]
theorem scG_sz (h : Hd) (kds : KD) (sc : List Str) : ∀ (i : Nat) (es : List Ex), szs (scG h kds sc i es) = nL es
  | _, [] => rfl
  | i, e :: es => by
    have := scG_sz h kds sc (i + 1) es
    unfold szs at this ⊢
    rw [scG, List.map_cons, List.sum_cons, this, nL]
theorem szs_len : ∀ st : List Gi, st.length ≤ szs st
  | [] => Nat.le_refl _
  | p :: st => by
    have := szs_len st
    have := p.1.1.n_pos
    unfold szs at *
    rw [List.map_cons, List.sum_cons, List.length_cons]; omega
structure GiOk (p : Gi) : Prop where
  fit : p.1.1.fit = true
  n : p.1.2.length + p.1.1.n ≤ 800000
  bd : Bd p.1.2 p.2
theorem binds_len (h : Hd) (i : Nat) : (h.binds i).length ≤ h.bn := by
  cases h with
  | cas bs =>
    cases i with
    | zero => exact Nat.zero_le _
    | succ i =>
      show (match bs[i]? with | some b => b.2 | none => []).length ≤ _
      cases e : bs[i]? with
      | none => exact Nat.zero_le _
      | some b => exact sum_mem (List.mem_map.mpr ⟨b, List.mem_of_getElem? e, rfl⟩)
  | lt x =>
    show (if i = 1 then [x] else []).length ≤ 1
    split <;> simp
  | _ => exact Nat.zero_le _
theorem scG_ok {h : Hd} {kds : KD} {sc : List Str} (bd : Bd kds sc) {N : Nat} : ∀ (i : Nat) (es : List Ex), (∀ e ∈ es, e.fit = true) → (∀ e ∈ es, kds.length + h.bn + e.n ≤ 800000) → ∀ p ∈ scG h kds sc i es, GiOk p
  | _, [], _, _, p, hp => by rw [scG] at hp; cases hp
  | i, e :: es, zs, ns, p, hp => by
    rw [scG] at hp
    rcases List.mem_cons.mp hp with rfl | hp
    · have h1 := bindD_len (h.binds i) kds
      have h2 := binds_len h i
      have h3 := ns e (by simp)
      exact ⟨zs e (by simp), by show (bindD kds (h.binds i)).length + e.n ≤ _; omega, bd.bind⟩
    · exact scG_ok bd (N := N) (i + 1) es (fun e he => zs e (by simp [he])) (fun e he => ns e (by simp [he])) p hp
theorem hd_name {h : Hd} (n : ∀ x, h ≠ .nam x) : h.w ≠ "name" := by
  cases h with
  | int i => exact (by decide +kernel : ("int" : Str) ≠ "name")
  | nam x => exact absurd rfl (n x)
  | call x => exact (by decide +kernel : ("call" : Str) ≠ "name")
  | make x => exact (by decide +kernel : ("make" : Str) ≠ "name")
  | cas x => exact (by decide +kernel : ("case" : Str) ≠ "name")
  | lt x => exact (by decide +kernel : ("let" : Str) ≠ "name")
  | iff x => exact (by decide +kernel : ("if" : Str) ≠ "name")
  | op x => exact (by decide +kernel : ("op" : Str) ≠ "name")
  | delay => exact (by decide +kernel : ("delay" : Str) ≠ "name")
  | force => exact (by decide +kernel : ("force" : Str) ≠ "name")
theorem free_nil {h : Hd} (n : ∀ x, h ≠ .nam x) (sc : List Str) : h.free sc = [] := by
  cases h with
  | nam x => exact absurd rfl (n x)
  | _ => rfl
section
variable {P : Program} {w : World} {K : PySem.W.Frag} {mg : Str → Option Value} {base : Heap}
abbrev s_unboundFault : Stmt := top 38
abbrev n_unboundFault : List Str := ["program", "f", "parameters", "body", "waiting", "expression", "bound"]
theorem sc_unboundFault : FnScope n_unboundFault ["program"] (defScope s_unboundFault) := ⟨rfl, rfl, rfl, by decide +kernel, rfl, by decide +kernel, by decide +kernel⟩
theorem ok_unboundFault {f : Addr} {fd : FuncData} (F : Fun K "unbound_fault" "unbound_fault" s_unboundFault f fd) (T : Blt mg) {f_0 : Addr} {fd_0 : FuncData} (Dbound_too : DfD P w K mg base "bound_too" 1 f_0 fd_0 ["bound", "names"] fBoundToo) {f_1 : Addr} {fd_1 : FuncData} (Dscopes_within : DfD P w K mg base "scopes_within" 2 f_1 fd_1 ["expression", "bound"] fScopes) : FnG P w K mg base CX0 3 f fd ["program"] (spD K IK.ks fUnbound) := by
  have sc := sc_unboundFault
  refine FnG.data F sc (by decide) (fun Δ Ψ h => by first | (obtain ⟨rfl, _⟩ := h; rfl) | (obtain ⟨_, rfl, _⟩ := h; rfl) | (obtain ⟨_, _, rfl, _⟩ := h; rfl) | (obtain ⟨_, _, _, rfl, _⟩ := h; rfl) | (obtain ⟨_, _, _, _, rfl, _⟩ := h; rfl) | (obtain ⟨_, _, _, _, _, rfl, _⟩ := h; rfl)) (fun cdv A outer s H E Δ Ψ noG hr h => ?_)
  have hu := hu_of hr
  obtain ⟨rows, rfl, ok, k⟩ := h
  refine ⟨_, _, (xss_cons (xs_for PassesOwn.never rfl (xi_tupS (xe_var (pv 0))) (xg_tup (by rfl) (xgs_cons (xg_name (i := 1) sc.nd rfl (Or.inl rfl)) (xgs_cons (xg_name (i := 2) sc.nd rfl (Or.inl rfl)) (xgs_cons (xg_name (i := 3) sc.nd rfl (Or.inl rfl)) xgs_nil))))
        (xss_cons (xs_set (i := 4) sc.nd rfl (Or.inl rfl) (xe_lst (xv_cons (xe_tup (xv_cons (xe_var (pv 3)) (xv_cons (xe_call Dbound_too.ok noG (hr.mono (by decide)) (by rfl) Dbound_too.m Dbound_too.k Dbound_too.b (xp_cons xe_dict0 (xp_cons (xe_var (pv 2)) xp_nil))) xv_nil))) xv_nil))) 
        (xss_one (xs_while PassesOwn.never (xt_tru (xe_var (pv 4)) (fun _ p => pt_truth p (by intro _; rfl))) (xss_cons (xs_asg (xe_pop (i := 4) (pe_bm0 PySem.F.plainAttrs_list PySem.F.slot_list_pop PySem.F.type_list_pop mt_pop (pv 4))) (xg_tup (by rfl) (xgs_cons (xg_name (i := 5) sc.nd rfl (Or.inl rfl)) (xgs_cons (xg_name (i := 6) sc.nd rfl (Or.inl rfl)) xgs_nil)))) 
          (xss_cons (xs_if (xt_w (xw_and (xt_cmp op_eq PEq (xe_ix (xe_var (pv 5)) xe_int (fun _ _ => rfl)) xe_str (nomark _)) (xw_and1 (xt_dnotin hu (xe_ix (xe_var (pv 5)) xe_int (fun _ _ => rfl)) (xe_var (pv 6)))))) (xss_one (xs_ret (xe_tup (xv_cons xe_str (xv_cons (xe_var (pv 1)) (xv_cons (xe_ix (xe_var (pv 5)) xe_int (fun _ _ => rfl)) xv_nil)))))) xss_nil) 
          (xss_one (xs_expr (xe_extend (i := 4) (xe_revL (xe_call Dscopes_within.ok noG (hr.mono (by decide)) (by rfl) Dscopes_within.m Dscopes_within.k Dscopes_within.b (xp_cons (xe_var (pv 5)) (xp_cons (xe_var (pv 6)) xp_nil)))) (fun _ p => pe_bm PySem.F.plainAttrs_list PySem.F.slot_list_extend PySem.F.type_list_extend mt_extend (pv 4) p)))))))))) 
      (xss_one (xs_ret xe_non))), ?_⟩
  refine ⟨_, rfl, _, _, rfl, ?_⟩
  refine loop_inv (fun q Γ => ∃ (suf : List Rw) (c1 c2 c3 c4 c5 c6 : Option Px.D), q = suf.map rowD ∧ (∀ r ∈ suf, r ∈ rows) ∧ Γ = [some (.v (progD rows)), c1, c2, c3, c4, c5, c6] ∧ unbF rows = unbF suf) ?_ ?_ _ _ ⟨rows, none, none, none, none, none, none, rfl, fun _ h => h, rfl, rfl⟩
  · rintro d q Γ N ⟨suf, c1, c2, c3, c4, c5, c6, eq, sub, rfl, ef⟩ hN
    cases suf with
    | nil => cases eq
    | cons r suf =>
      obtain ⟨rfl, rfl⟩ := List.cons.inj eq
      have rok := ok.ok r (sub r (by simp))
      obtain ⟨f, ps, e⟩ := r
      have en : ps.length + e.n ≤ 400000 := rok.n
      walk_at "px"
      refine ⟨[], ps, _, _, rfl, .inr rfl, .inl rfl, (show 0 + ps.length ≤ _ by omega), ?_⟩
      walk_at "px"
      refine ⟨fun m Γ => ∃ (st : List Gi) (c5 c6 : Option Px.D), Γ = [some (.v (progD rows)), some (.v (.str f)), some (.v (.tuple (ps.map .str))), some (.v e.d), some (.own (.list (st.reverse.map fun p => itemD p.1))), c5, c6] ∧ (∀ p ∈ st, GiOk p) ∧ (ub e ps).head? = (ubs st).head? ∧ szs st ≤ 400000 ∧ m = szs st, ?_, ?_⟩
      · have l0 := bindD_len ps []
        refine ⟨_, [((e, bindD [] ps), [] ++ ps)], c5, c6, rfl, fun p hp => ?_, by simp [ubs], ?_, rfl⟩
        · rw [List.mem_singleton.mp hp]
          exact ⟨rok.fit, by show (bindD [] ps).length + e.n ≤ _; simp at l0; omega, Bd.nil.bind⟩
        · show e.n + 0 ≤ _
          omega
      rintro m Γ ⟨st, c5, c6, rfl, oks, eh, tot, rfl⟩
      cases st with
      | nil =>
        walk_at "px"
        refine hN _ ⟨suf, _, _, _, _, _, _, rfl, fun r hr => sub r (by simp [hr]), rfl, ef.trans (fs_none ?_)⟩
        show (ub e ps).head?.map _ = none
        rw [eh]; rfl
      | cons p st =>
        rw [show ((p :: st).reverse.map fun p => itemD p.1) = (st.reverse.map fun p => itemD p.1) ++ [itemD p.1] by simp]
        walk_at "px"
        rw [show (!((st.reverse.map fun p => itemD p.1) ++ [itemD p.1]).isEmpty) = true by simp]
        refine yT ?_
        obtain ⟨⟨x0, kds⟩, sc⟩ := p
        obtain ⟨h, es⟩ := x0
        have pok := oks _ List.mem_cons_self
        have pn : kds.length + (Ex.nd h es).n ≤ 800000 := pok.n
        have nn : (Ex.nd h es).n = 1 + h.bn + nL es := by rw [Ex.n]
        have szc : szs (((Ex.nd h es, kds), sc) :: st) = (Ex.nd h es).n + szs st := by
          unfold szs; rw [List.map_cons, List.sum_cons]
        have sl := szs_len st
        have gl := szs_len (scG h kds sc 0 es)
        rw [scG_sz] at gl
        obtain ⟨fit0, fits⟩ := Ex.fit_nd pok.fit
        walk_at "px"
        by_cases hc : ∃ x, h = .nam x
        · obtain ⟨x, rfl⟩ := hc
          have ee : es = [] := List.eq_nil_of_length_eq_zero (of_decide_eq_true fit0)
          have hbx := pok.bd x
          rw [Ex.d_nd]
          walk_at "px"
          refine ⟨kds, .inr x, rfl, rfl, ?_⟩
          rw [if_pos rfl, show (valD kds (.inr x)).isSome = decide (x ∈ sc) from hbx]
          by_cases hx : x ∈ sc
          · rw [decide_eq_true hx]
            refine yF ?_
            show _
            rw [← Ex.d_nd]
            walk_at "px"
            refine ⟨pok.fit, (show kds.length + (Ex.nd (Hd.nam x) es).n ≤ _ by omega), ?_⟩
            walk_at "px"
            refine ⟨mil (by simp only [List.length_map, List.length_reverse]; show st.length + (scL (Hd.nam x) kds 0 es).length ≤ _; rw [← scG_fst (Hd.nam x) kds sc, List.length_map]; omega), ?_⟩
            refine ⟨_, ?_, scG (Hd.nam x) kds sc 0 es ++ st, some (.v (Ex.nd (Hd.nam x) es).d), some (.v (dkD kds)), ?_, fun q hq => ?_, ?_, ?_, rfl⟩
            · rw [szs_app, scG_sz]; omega
            · have el : (st.reverse.map fun p => itemD p.1) ++ ((scopes (Ex.nd (Hd.nam x) es, kds)).map itemD).reverse = (scG (Hd.nam x) kds sc 0 es ++ st).reverse.map fun p => itemD p.1 := by
                rw [List.reverse_append, List.map_append, ← List.map_reverse]
                show _ ++ ((scL (Hd.nam x) kds 0 es).reverse.map itemD) = _
                rw [← scG_fst (Hd.nam x) kds sc, ← List.map_reverse, List.map_map]; rfl
              rw [← el]; rfl
            · rcases List.mem_append.mp hq with hq | hq
              · refine scG_ok pok.bd (N := 0) 0 es fits (fun e' he => ?_) q hq
                have := nL_mem he
                exact (show kds.length + (Hd.nam x).bn + e'.n ≤ 800000 by omega)
              · exact oks q (by simp [hq])
            · rw [eh, show ubs ((( Ex.nd (Hd.nam x) es, kds), sc) :: st) = ub (Ex.nd (Hd.nam x) es) sc ++ ubs st from rfl, ub_nd, show (Hd.nam x).free sc = [] by show (if x ∈ sc then [] else [x]) = []; rw [if_pos hx], List.nil_append, ← scG_ub (Hd.nam x) kds sc, show ubs (scG (Hd.nam x) kds sc 0 es ++ st) = ubs (scG (Hd.nam x) kds sc 0 es) ++ ubs st from List.flatMap_append]
            · rw [szs_app, scG_sz]; omega
          · rw [decide_eq_false hx]
            refine yT ?_
            walk_at "px"
            have : unbF rows = some (f, x) := by
              rw [ef]
              refine fs_some ?_
              show (ub e ps).head?.map _ = _
              rw [eh, show ubs (((Ex.nd (.nam x) es, kds), sc) :: st) = ub (Ex.nd (.nam x) es) sc ++ ubs st from rfl, ub_nd, show (Hd.nam x).free sc = [x] by show (if x ∈ sc then [] else [x]) = [x]; rw [if_neg hx]]
              rfl
            rw [this] at k
            exact k
        · have nw : (Ex.nd h es).hd.w ≠ "name" := hd_name fun x z => hc ⟨x, z⟩
          rw [decide_eq_false nw]
          walk_at "px"
          refine ⟨pok.fit, (show kds.length + (Ex.nd h es).n ≤ _ by omega), ?_⟩
          walk_at "px"
          refine ⟨mil (by simp only [List.length_map, List.length_reverse]; show st.length + (scL h kds 0 es).length ≤ _; rw [← scG_fst h kds sc, List.length_map]; omega), ?_⟩
          refine ⟨_, ?_, scG h kds sc 0 es ++ st, some (.v (Ex.nd h es).d), some (.v (dkD kds)), ?_, fun q hq => ?_, ?_, ?_, rfl⟩
          · rw [szs_app, scG_sz]; omega
          · have el : (st.reverse.map fun p => itemD p.1) ++ ((scopes (Ex.nd h es, kds)).map itemD).reverse = (scG h kds sc 0 es ++ st).reverse.map fun p => itemD p.1 := by
              rw [List.reverse_append, List.map_append, ← List.map_reverse]
              show _ ++ ((scL h kds 0 es).reverse.map itemD) = _
              rw [← scG_fst h kds sc, ← List.map_reverse, List.map_map]; rfl
            rw [← el]; rfl
          · rcases List.mem_append.mp hq with hq | hq
            · refine scG_ok pok.bd (N := 0) 0 es fits (fun e' he => ?_) q hq
              have := nL_mem he
              exact (show kds.length + h.bn + e'.n ≤ 800000 by omega)
            · exact oks q (by simp [hq])
          · rw [eh, show ubs ((( Ex.nd h es, kds), sc) :: st) = ub (Ex.nd h es) sc ++ ubs st from rfl, ub_nd, free_nil (fun x z => hc ⟨x, z⟩) sc, List.nil_append, ← scG_ub h kds sc, show ubs (scG h kds sc 0 es ++ st) = ubs (scG h kds sc 0 es) ++ ubs st from List.flatMap_append]
          · rw [szs_app, scG_sz]; omega
  · rintro Γ ⟨suf, c1, c2, c3, c4, c5, c6, eq, sub, rfl, ef⟩
    have : suf = [] := by cases suf with | nil => rfl | cons _ _ => cases eq
    subst this
    rw [ef] at k
    walk_at "px"
    exact k
end
end K10
end

/-! K10g -/
section
set_option Elab.async false
set_option linter.all false
set_option maxRecDepth 100000
set_option maxHeartbeats 8000000
namespace K10
open PySem PySem.Spec PyProof.Rows L2 Dh Px Pg
local macro_rules | `(tactic| walk_at "px") => `(tactic| repeat (first
  | refine yT ?_ | refine yF ?_ | refine ⟨_, rfl, ?_⟩ | refine ⟨_, _, rfl, rfl, ?_⟩ | refine ⟨_, _, rfl, ?_⟩
  | refine ⟨_, _, rfl, isi (.tuple _), ?_⟩ | refine ⟨_, _, rfl, isi (.str _), ?_⟩ | refine ⟨_, _, rfl, isi (.int _), ?_⟩ | refine ⟨_, _, rfl, isi (.bool _), ?_⟩
  | refine pix_word ?_ | refine ⟨⟨_, rfl⟩, ?_⟩ | refine ⟨True.intro, ?_⟩ | refine ⟨rfl, ?_⟩ | refine ⟨(Nat.le_of_ble_eq_true rfl : _ ≤ sizeLine), ?_⟩))
mutual
theorem cas_small : ∀ e : Ex, e.fit = true → ∀ p ∈ pre e, ∀ bs es, p = .nd (.nd (.cas bs) es) → bs.length ≤ 4000 ∧ es.length = bs.length + 1
  | .nd h es, z, p, hp, bs, es', ep => by
    obtain ⟨z1, z2⟩ := Ex.fit_nd z
    rw [pre] at hp
    rcases List.mem_cons.mp hp with rfl | hp
    · cases ep
      obtain ⟨_, _, rfl, hl, _, small, _⟩ := fit_cas z1
      exact ⟨small, by simp [hl]⟩
    · exact cas_smallL h 0 es z2 p hp bs es' ep
theorem cas_smallL (h : Hd) : ∀ (i : Nat) (es : List Ex), (∀ e ∈ es, e.fit = true) → ∀ p ∈ preL h i es, ∀ bs es', p = .nd (.nd (.cas bs) es') → bs.length ≤ 4000 ∧ es'.length = bs.length + 1
  | _, [], _, p, hp, _, _, _ => by rw [preL] at hp; cases hp
  | i, e :: es, zs, p, hp, bs, es', ep => by
    rw [preL] at hp
    rcases List.mem_append.mp hp with hp | hp
    · rcases List.mem_append.mp hp with hp | hp
      · subst ep
        cases h with
        | cas cs =>
          cases i with
          | zero => cases hp
          | succ i =>
            unfold Hd.brs at hp
            simp only at hp
            split at hp
            · cases List.mem_singleton.mp hp
            · cases hp
        | _ => cases hp
      · exact cas_small e (zs e (by simp)) p hp bs es' ep
    · exact cas_smallL h (i + 1) es (fun e he => zs e (by simp [he])) p hp bs es' ep
end
theorem w_case {p : Pl} (h : ∀ bs es, p ≠ .nd (.nd (.cas bs) es)) : p.w ≠ "case" := by
  cases p with
  | br b e => exact (by decide +kernel : ("branch" : Str) ≠ "case")
  | nd e =>
    obtain ⟨hd, es⟩ := e
    exact hd_case fun bs z => h bs es (by rw [← z]; rfl)
theorem w_call {p : Pl} (h : ∀ f es, p ≠ .nd (.nd (.call f) es)) : p.w ≠ "call" := by
  cases p with
  | br b e => exact (by decide +kernel : ("branch" : Str) ≠ "call")
  | nd e =>
    obtain ⟨hd, es⟩ := e
    cases hd with
    | int i => exact (by decide +kernel : ("int" : Str) ≠ "call")
    | nam x => exact (by decide +kernel : ("name" : Str) ≠ "call")
    | call x => exact absurd rfl (h x es)
    | make x => exact (by decide +kernel : ("make" : Str) ≠ "call")
    | cas x => exact (by decide +kernel : ("case" : Str) ≠ "call")
    | lt x => exact (by decide +kernel : ("let" : Str) ≠ "call")
    | iff x => exact (by decide +kernel : ("if" : Str) ≠ "call")
    | op x => exact (by decide +kernel : ("op" : Str) ≠ "call")
    | delay => exact (by decide +kernel : ("delay" : Str) ≠ "call")
    | force => exact (by decide +kernel : ("force" : Str) ≠ "call")
theorem w_make {p : Pl} (h : ∀ f es, p ≠ .nd (.nd (.make f) es)) : p.w ≠ "make" := by
  cases p with
  | br b e => exact (by decide +kernel : ("branch" : Str) ≠ "make")
  | nd e =>
    obtain ⟨hd, es⟩ := e
    cases hd with
    | int i => exact (by decide +kernel : ("int" : Str) ≠ "make")
    | nam x => exact (by decide +kernel : ("name" : Str) ≠ "make")
    | call x => exact (by decide +kernel : ("call" : Str) ≠ "make")
    | make x => exact absurd rfl (h x es)
    | cas x => exact (by decide +kernel : ("case" : Str) ≠ "make")
    | lt x => exact (by decide +kernel : ("let" : Str) ≠ "make")
    | iff x => exact (by decide +kernel : ("if" : Str) ≠ "make")
    | op x => exact (by decide +kernel : ("op" : Str) ≠ "make")
    | delay => exact (by decide +kernel : ("delay" : Str) ≠ "make")
    | force => exact (by decide +kernel : ("force" : Str) ≠ "make")
theorem first_zip : ∀ {bs : List (Str × List Str)} {ds : List PyData}, ds.length = bs.length → (List.zipWith Pg.brD bs ds).map firstD = (bs.map (·.1)).map PyData.str
  | [], [], _ => rfl
  | b :: bs, d :: ds, h => by
    rw [List.zipWith_cons_cons, List.map_cons, first_zip (by simpa using h)]; rfl
section
variable {P : Program} {w : World} {K : PySem.W.Frag} {mg : Str → Option Value} {base : Heap}
abbrev s_branchFault : Stmt := top 43
abbrev n_branchFault : List Str := ["program", "f", "_", "body", "word", "thing", "tag", "branch"]
theorem sc_branchFault : FnScope n_branchFault ["program"] (defScope s_branchFault) := ⟨rfl, rfl, rfl, by decide +kernel, rfl, by decide +kernel, by decide +kernel⟩
theorem ok_branchFault {f : Addr} {fd : FuncData} (F : Fun K "branch_fault" "branch_fault" s_branchFault f fd) (T : Blt mg) {f_0 : Addr} {fd_0 : FuncData} (Dplaces : DfD P w K mg base "places" 3 f_0 fd_0 ["body"] fPlaces) {f_1 : Addr} {fd_1 : FuncData} (Dfirst_repeated : DfD P w K mg base "first_repeated" 1 f_1 fd_1 ["words"] fFirst) : FnG P w K mg base CX0 4 f fd ["program"] (spD K IK.ks fBranch) := by
  have sc := sc_branchFault
  refine FnG.data F sc (by decide) (fun Δ Ψ h => by first | (obtain ⟨rfl, _⟩ := h; rfl) | (obtain ⟨_, rfl, _⟩ := h; rfl) | (obtain ⟨_, _, rfl, _⟩ := h; rfl) | (obtain ⟨_, _, _, rfl, _⟩ := h; rfl) | (obtain ⟨_, _, _, _, rfl, _⟩ := h; rfl) | (obtain ⟨_, _, _, _, _, rfl, _⟩ := h; rfl)) (fun cdv A outer s H E Δ Ψ noG hr h => ?_)
  obtain ⟨rows, rfl, ok, k⟩ := h
  refine ⟨_, _, (xss_cons (xs_for PassesOwn.never rfl (xi_tupS (xe_var (pv 0))) (xg_tup (by rfl) (xgs_cons (xg_name (i := 1) sc.nd rfl (Or.inl rfl)) (xgs_cons (xg_name (i := 2) sc.nd rfl (Or.inl rfl)) (xgs_cons (xg_name (i := 3) sc.nd rfl (Or.inl rfl)) xgs_nil))))
        (xss_one (xs_for PassesOwn.never rfl (xi_listS (xe_call Dplaces.ok noG (hr.mono (by decide)) (by rfl) Dplaces.m Dplaces.k Dplaces.b (xp_cons (xe_var (pv 3)) xp_nil))) (xg_tup (by rfl) (xgs_cons (xg_name (i := 4) sc.nd rfl (Or.inl rfl)) (xgs_cons (xg_name (i := 5) sc.nd rfl (Or.inl rfl)) xgs_nil)))
          (xss_one (xs_if (xt_cmp op_eq PEq (xe_var (pv 4)) xe_str (nomark _)) (xss_cons (xs_set (i := 6) sc.nd rfl (Or.inl rfl) (xe_call Dfirst_repeated.ok noG (hr.mono (by decide)) (by rfl) Dfirst_repeated.m Dfirst_repeated.k Dfirst_repeated.b (xp_cons (xe_lc (own := [("branch", 7)]) (g := gName 7) (tt := tYes) (te := (tOp (rIx K) (tVar 7) (tC _))) rfl sc.nd (xc_tup (xe_ix (xe_var (pv 5)) xe_int (fun _ _ => rfl))) (blkOk_by ( N := n_branchFault) (sc := defScope s_branchFault) (by decide +kernel)) (fun _ _ _ _ _ => (xg_name (i := 7) sc.nd rfl (Or.inl rfl))) (fun _ _ _ _ _ => xts_nil) (fun _ _ _ _ _ => (xe_ix (xe_var (pv 7)) xe_int (fun _ _ => rfl)))) xp_nil))) 
            (xss_one (xs_if (xt_cmp op_notN PNotN (xe_var (pv 6)) xe_non (nomark _)) (xss_one (xs_ret (xe_tup (xv_cons xe_str (xv_cons (xe_var (pv 1)) (xv_cons (xe_var (pv 6)) xv_nil)))))) xss_nil))) xss_nil))))) 
      (xss_one (xs_ret xe_non))), ?_⟩
  refine ⟨_, rfl, _, _, rfl, ?_⟩
  refine loop_inv (fun q Γ => ∃ (suf : List Rw) (c1 c2 c3 c4 c5 c6 : Option Px.D), q = suf.map rowD ∧ (∀ r ∈ suf, r ∈ rows) ∧ Γ = [some (.v (progD rows)), c1, c2, c3, c4, c5, c6, none] ∧ branchF rows = branchF suf) ?_ ?_ _ _ ⟨rows, none, none, none, none, none, none, rfl, fun _ h => h, rfl, rfl⟩
  · rintro d q Γ N ⟨suf, c1, c2, c3, c4, c5, c6, eq, sub, rfl, ef⟩ hN
    cases suf with
    | nil => cases eq
    | cons r suf =>
      obtain ⟨rfl, rfl⟩ := List.cons.inj eq
      have rok := ok.ok r (sub r (by simp))
      obtain ⟨f, ps, e⟩ := r
      have en : ps.length + e.n ≤ 400000 := rok.n
      have fit : e.fit = true := rok.fit
      walk_at "px"
      refine ⟨fit, (show e.n ≤ 400000 by omega), ?_⟩
      generalize hL : List.map Pl.d (pre (f, ps, e).2.2) = L
      walk_at "px"
      refine loop_inv (fun q Γ => ∃ (rest : List Pl) (c4 c5 c6 : Option Px.D), q = rest.map Pl.d ∧ (∀ p ∈ rest, p ∈ pre e) ∧ Γ = [some (.v (progD rows)), some (.v (.str f)), some (.v (.tuple (ps.map .str))), some (.v e.d), c4, c5, c6, none] ∧ (pre e).findSome? brTag = rest.findSome? brTag) ?_ ?_ _ _ ⟨pre e, c4, c5, c6, hL.symm, fun _ h => h, rfl, rfl⟩
      · rintro d q Γ M ⟨rest, c4, c5, c6, eq, sp, rfl, er⟩ hM
        cases rest with
        | nil => cases eq
        | cons p rest =>
          obtain ⟨rfl, rfl⟩ := List.cons.inj eq
          have er := er.trans List.findSome?_cons
          have pin := sp p (by simp)
          walk_at "px"
          by_cases hc : ∃ bs es, p = .nd (.nd (.cas bs) es)
          · obtain ⟨bs, es, rfl⟩ := hc
            obtain ⟨sm, el⟩ := cas_small e fit _ pin bs es rfl
            simp only [Pl.w, Pl.x, Ex.hd, Ex.d_nd]
            walk_at "px"
            refine Px.comp_map firstD rfl rfl (mil (by rw [List.length_zipWith, List.length_tail, List.length_map]; omega)) (fun d hd N hN => ?_) ?_
            · obtain ⟨b, x, _, rfl⟩ := zip_br2 hd
              walk_at "px"
              exact hN _ rfl
            · walk_at "px"
              have et : (List.zipWith Pg.brD bs (List.map Ex.d es).tail).map firstD = (bs.map (·.1)).map PyData.str := first_zip (by rw [List.length_tail, List.length_map]; omega)
              rw [et]
              refine ⟨bs.map (·.1), .inl rfl, by rw [List.length_map]; exact sm, ?_⟩
              rw [show brTag (.nd (.nd (.cas bs) es)) = firstRep (bs.map (·.1)) [] from rfl] at er
              cases hf : firstRep (bs.map (·.1)) [] with
              | none =>
                rw [hf] at er
                walk_at "px"
                exact hM _ ⟨rest, _, _, _, rfl, fun x hx => sp x (by simp [hx]), rfl, er⟩
              | some x =>
                rw [hf] at er
                walk_at "px"
                have : branchF rows = some (f, x) := by
                  rw [ef]
                  exact fs_some (by show Option.map _ ((pre e).findSome? brTag) = _; rw [er]; rfl)
                rw [this] at k
                exact k
          · have nw := w_case fun bs es z => hc ⟨bs, es, z⟩
            rw [decide_eq_false nw]
            have eb : brTag p = none := by
              unfold brTag
              split
              · rename_i bs es
                exact absurd ⟨_, _, rfl⟩ hc
              · rfl
            rw [eb] at er
            exact yF (hM _ ⟨rest, _, _, _, rfl, fun x hx => sp x (by simp [hx]), rfl, er⟩)
      · rintro Γ ⟨rest, c4, c5, c6, eq, sp, rfl, er⟩
        have : rest = [] := by cases rest with | nil => rfl | cons _ _ => cases eq
        subst this
        refine hN _ ⟨suf, _, _, _, _, _, _, rfl, fun x hx => sub x (by simp [hx]), rfl, ?_⟩
        rw [ef]
        exact fs_none (by show Option.map _ ((pre e).findSome? brTag) = _; rw [er]; rfl)
  · rintro Γ ⟨suf, c1, c2, c3, c4, c5, c6, eq, sub, rfl, ef⟩
    have : suf = [] := by cases suf with | nil => rfl | cons _ _ => cases eq
    subst this
    rw [ef] at k
    walk_at "px"
    exact k
end
end K10
end

/-! K10h -/
section
set_option Elab.async false
set_option linter.all false
set_option maxRecDepth 100000
set_option maxHeartbeats 8000000
namespace K10
open PySem PySem.Spec PyProof.Rows L2 Dh Px Pg
local macro_rules | `(tactic| walk_at "px") => `(tactic| repeat (first
  | refine yT ?_ | refine yF ?_ | refine ⟨_, rfl, ?_⟩ | refine ⟨_, _, rfl, rfl, ?_⟩ | refine ⟨_, _, rfl, ?_⟩
  | refine ⟨_, _, rfl, isi (.tuple _), ?_⟩ | refine ⟨_, _, rfl, isi (.str _), ?_⟩ | refine ⟨_, _, rfl, isi (.int _), ?_⟩ | refine ⟨_, _, rfl, isi (.bool _), ?_⟩
  | refine pix_word ?_ | refine ⟨⟨_, rfl⟩, ?_⟩ | refine ⟨True.intro, ?_⟩ | refine ⟨rfl, ?_⟩ | refine ⟨(Nat.le_of_ble_eq_true rfl : _ ≤ sizeLine), ?_⟩))
def countsFrom (D : KD) (rows : List Rw) : KD := rows.foldl (fun acc r => putD acc (.inr r.1) (.int (r.2.1.length : Int))) D
def countsD (rows : List Rw) : KD := countsFrom [] rows
/-- how many parameters the last row of a name has -/
def cntFrom (f : Str) (acc : Option Nat) (rows : List Rw) : Option Nat := rows.foldl (fun acc r => if r.1 = f then some r.2.1.length else acc) acc
def cnt (rows : List Rw) (f : Str) : Option Nat := cntFrom f none rows
def natO : Option Nat → PyData
  | none => .none
  | some n => .int (n : Int)
theorem eqS_nat (o : Option Nat) (n : Nat) : eqS (natO o) (.int (n : Int)) = some (decide (o = some n)) := by
  cases o with
  | none => rfl
  | some m =>
    show some (decide ((m : Int) = (n : Int))) = _
    by_cases h : m = n
    · rw [decide_eq_true (by rw [h]), decide_eq_true (by rw [h])]
    · rw [decide_eq_false (by omega), decide_eq_false (fun z => h (Option.some.inj z))]
theorem counts_from (f : Str) : ∀ (rows : List Rw) (D : KD) (acc : Option Nat), (valD D (.inr f)).getD .none = natO acc → (valD (countsFrom D rows) (.inr f)).getD .none = natO (cntFrom f acc rows)
  | [], _, _, h => h
  | r :: rows, D, acc, h => by
    refine counts_from f rows (putD D (.inr r.1) (.int (r.2.1.length : Int))) (if r.1 = f then some r.2.1.length else acc) ?_
    rw [valD_put]
    by_cases e : r.1 = f
    · rw [if_pos (by rw [e]), if_pos e]; rfl
    · rw [if_neg (fun z => e (Sum.inr.inj z).symm), if_neg e]; exact h
theorem counts_ok (rows : List Rw) (f : Str) : (valD (countsD rows) (.inr f)).getD .none = natO (cnt rows f) := counts_from f rows [] none rfl
theorem counts_len : ∀ (rows : List Rw) (D : KD), (countsFrom D rows).length ≤ D.length + rows.length
  | [], _ => Nat.le_refl _
  | r :: rows, D => by
    have h1 := counts_len rows (putD D (.inr r.1) (.int (r.2.1.length : Int)))
    have h2 := putD_len D (.inr r.1) (.int (r.2.1.length : Int))
    show (countsFrom (putD D (.inr r.1) (.int (r.2.1.length : Int))) rows).length ≤ _
    rw [List.length_cons]; omega
def fCounts : PF := fun Δ Ψ => ∃ rows : List Rw, Δ = [.v (progD rows)] ∧ POk rows ∧ Ψ (.own (dkD (countsD rows)))
def callBad (rows : List Rw) : Pl → Option Str
  | .nd (.nd (.call f) es) => if cnt rows f = some es.length then none else some f
  | _ => none
def callF (rows : List Rw) : Option (Str × Str) := rows.findSome? fun r => ((pre r.2.2).findSome? (callBad rows)).map fun x => (r.1, x)
def fCall : PF := fun Δ Ψ => ∃ rows : List Rw, Δ = [.v (progD rows)] ∧ POk rows ∧ Ψ (.v (faultD "call" (callF rows)))
section
variable {P : Program} {w : World} {K : PySem.W.Frag} {mg : Str → Option Value} {base : Heap}
abbrev s_parameterCounts : Stmt := top 27
abbrev n_parameterCounts : List Str := ["program", "f", "parameters", "_"]
theorem sc_parameterCounts : FnScope n_parameterCounts ["program"] (defScope s_parameterCounts) := ⟨rfl, rfl, rfl, by decide +kernel, rfl, by decide +kernel, by decide +kernel⟩
theorem ok_parameterCounts {f : Addr} {fd : FuncData} (F : Fun K "parameter_counts" "parameter_counts" s_parameterCounts f fd) (T : Blt mg) : FnG P w K mg base CX0 1 f fd ["program"] (spD K IK.ks fCounts) := by
  have sc := sc_parameterCounts
  refine FnG.data F sc (by decide) (fun Δ Ψ h => by first | (obtain ⟨rfl, _⟩ := h; rfl) | (obtain ⟨_, rfl, _⟩ := h; rfl) | (obtain ⟨_, _, rfl, _⟩ := h; rfl) | (obtain ⟨_, _, _, rfl, _⟩ := h; rfl) | (obtain ⟨_, _, _, _, rfl, _⟩ := h; rfl) | (obtain ⟨_, _, _, _, _, rfl, _⟩ := h; rfl)) (fun cdv A outer s H E Δ Ψ noG hr h => ?_)
  obtain ⟨rows, rfl, ok, k⟩ := h
  refine ⟨_, _, (xss_one (xs_ret (xe_dc (own := [("f", 1), ("parameters", 2), ("_", 3)]) (g := gTup K 3 (gCons (gName 1) (gCons (gName 2) (gCons (gName 3) gNil)))) (tt := tYes) (tk := (tVar 1)) (tv := (tCB (Px.rLen K) (tCons (tVar 2) tNil))) rfl sc.nd (xc_tup (xe_var (pv 0))) (blkOk_by ( N := n_parameterCounts) (sc := defScope s_parameterCounts) (by decide +kernel)) (fun _ _ _ _ _ => (xg_tup (by rfl) (xgs_cons (xg_name (i := 1) sc.nd rfl (Or.inl rfl)) (xgs_cons (xg_name (i := 2) sc.nd rfl (Or.inl rfl)) (xgs_cons (xg_name (i := 3) sc.nd rfl (Or.inl rfl)) xgs_nil))))) (fun _ _ _ _ _ => xts_nil) (fun _ _ _ _ _ => (xe_var (pv 1))) (fun _ _ _ _ _ => (xe_CB (xr_cons (xe_var (pv 2)) xr_nil) (fun _ p => pe_callB call_len (by rfl) T.len (by decide +kernel) p) PLen))))), ?_⟩
  walk_at "px"
  refine compK_inv (fun q acc Γ => ∃ (preR suf : List Rw), rows = preR ++ suf ∧ q = suf.map rowD ∧ acc = countsD preR ∧ Γ = [some (.v (progD rows)), none, none, none]) ?_ ?_ _ _ _ ⟨[], rows, rfl, rfl, rfl, rfl⟩
  · rintro d q acc Γ N ⟨preR, suf, er, eq, rfl, rfl⟩ hN
    cases suf with
    | nil => cases eq
    | cons r suf =>
      obtain ⟨rfl, rfl⟩ := List.cons.inj eq
      have h1 := counts_len preR []
      have h2 := ok.len
      rw [er, List.length_append] at h2
      refine ⟨rfl, milt (by have : (countsD preR).length ≤ 0 + preR.length := h1; omega), ?_⟩
      walk_at "px"
      refine ⟨.inr r.1, _, _, rfl, rfl, ?_⟩
      refine hN _ _ ⟨preR ++ [r], suf, by rw [er]; simp, rfl, ?_, rfl⟩
      unfold countsD countsFrom
      rw [List.foldl_append, List.length_map]; rfl
  · rintro acc Γ ⟨preR, suf, er, eq, rfl, rfl⟩
    have : suf = [] := by cases suf with | nil => rfl | cons _ _ => cases eq
    subst this
    rw [List.append_nil] at er
    rw [er] at k
    exact ⟨rfl, _, _, rfl, trivial, k⟩
abbrev s_callFault : Stmt := top 41
abbrev n_callFault : List Str := ["program", "counts", "f", "_", "body", "word", "thing"]
theorem sc_callFault : FnScope n_callFault ["program"] (defScope s_callFault) := ⟨rfl, rfl, rfl, by decide +kernel, rfl, by decide +kernel, by decide +kernel⟩
theorem ok_callFault {f : Addr} {fd : FuncData} (F : Fun K "call_fault" "call_fault" s_callFault f fd) (T : Blt mg) {f_0 : Addr} {fd_0 : FuncData} (Dparameter_counts : DfD P w K mg base "parameter_counts" 1 f_0 fd_0 ["program"] fCounts) {f_1 : Addr} {fd_1 : FuncData} (Dplaces : DfD P w K mg base "places" 3 f_1 fd_1 ["body"] fPlaces) : FnG P w K mg base CX0 4 f fd ["program"] (spD K IK.ks fCall) := by
  have sc := sc_callFault
  refine FnG.data F sc (by decide) (fun Δ Ψ h => by first | (obtain ⟨rfl, _⟩ := h; rfl) | (obtain ⟨_, rfl, _⟩ := h; rfl) | (obtain ⟨_, _, rfl, _⟩ := h; rfl) | (obtain ⟨_, _, _, rfl, _⟩ := h; rfl) | (obtain ⟨_, _, _, _, rfl, _⟩ := h; rfl) | (obtain ⟨_, _, _, _, _, rfl, _⟩ := h; rfl)) (fun cdv A outer s H E Δ Ψ noG hr h => ?_)
  have hu := hu_of hr
  obtain ⟨rows, rfl, ok, k⟩ := h
  refine ⟨_, _, (xss_cons (xs_set (i := 1) sc.nd rfl (Or.inl rfl) (xe_call Dparameter_counts.ok noG (hr.mono (by decide)) (by rfl) Dparameter_counts.m Dparameter_counts.k Dparameter_counts.b (xp_cons (xe_var (pv 0)) xp_nil))) 
      (xss_cons (xs_for PassesOwn.never rfl (xi_tupS (xe_var (pv 0))) (xg_tup (by rfl) (xgs_cons (xg_name (i := 2) sc.nd rfl (Or.inl rfl)) (xgs_cons (xg_name (i := 3) sc.nd rfl (Or.inl rfl)) (xgs_cons (xg_name (i := 4) sc.nd rfl (Or.inl rfl)) xgs_nil))))
        (xss_one (xs_for PassesOwn.never rfl (xi_listS (xe_call Dplaces.ok noG (hr.mono (by decide)) (by rfl) Dplaces.m Dplaces.k Dplaces.b (xp_cons (xe_var (pv 4)) xp_nil))) (xg_tup (by rfl) (xgs_cons (xg_name (i := 5) sc.nd rfl (Or.inl rfl)) (xgs_cons (xg_name (i := 6) sc.nd rfl (Or.inl rfl)) xgs_nil)))
          (xss_one (xs_if (xt_w (xw_and (xt_cmp op_eq PEq (xe_var (pv 5)) xe_str (nomark _)) (xw_and1 (xt_cmp op_ne PNe (xe_dget1 hu (xe_var (pv 1)) (xe_ix (xe_var (pv 6)) xe_int (fun _ _ => rfl)) ⟨rfl, rfl, rfl, rfl⟩) (xe_CB (xr_cons (xe_ix (xe_var (pv 6)) xe_int (fun _ _ => rfl)) xr_nil) (fun _ p => pe_callB call_len (by rfl) T.len (by decide +kernel) p) PLen) (nomark _))))) (xss_one (xs_ret (xe_tup (xv_cons xe_str (xv_cons (xe_var (pv 2)) (xv_cons (xe_ix (xe_var (pv 6)) xe_int (fun _ _ => rfl)) xv_nil)))))) xss_nil))))) 
      (xss_one (xs_ret xe_non)))), ?_⟩
  walk_at "px"
  refine ⟨ok, ?_⟩
  walk_at "px"
  refine loop_inv (fun q Γ => ∃ (suf : List Rw) (c2 c3 c4 c5 c6 : Option Px.D), q = suf.map rowD ∧ (∀ r ∈ suf, r ∈ rows) ∧ Γ = [some (.v (progD rows)), some (.own (dkD (countsD rows))), c2, c3, c4, c5, c6] ∧ callF rows = suf.findSome? fun r => ((pre r.2.2).findSome? (callBad rows)).map fun x => (r.1, x)) ?_ ?_ _ _ ⟨rows, none, none, none, none, none, rfl, fun _ h => h, rfl, rfl⟩
  · rintro d q Γ N ⟨suf, c2, c3, c4, c5, c6, eq, sub, rfl, ef⟩ hN
    cases suf with
    | nil => cases eq
    | cons r suf =>
      obtain ⟨rfl, rfl⟩ := List.cons.inj eq
      have rok := ok.ok r (sub r (by simp))
      obtain ⟨f, ps, e⟩ := r
      have en : ps.length + e.n ≤ 400000 := rok.n
      have fit : e.fit = true := rok.fit
      walk_at "px"
      refine ⟨fit, (show e.n ≤ 400000 by omega), ?_⟩
      generalize hL : List.map Pl.d (pre (f, ps, e).2.2) = L
      walk_at "px"
      refine loop_inv (fun q Γ => ∃ (rest : List Pl) (c5 c6 : Option Px.D), q = rest.map Pl.d ∧ Γ = [some (.v (progD rows)), some (.own (dkD (countsD rows))), some (.v (.str f)), some (.v (.tuple (ps.map .str))), some (.v e.d), c5, c6] ∧ (pre e).findSome? (callBad rows) = rest.findSome? (callBad rows)) ?_ ?_ _ _ ⟨pre e, c5, c6, hL.symm, rfl, rfl⟩
      · rintro d q Γ M ⟨rest, c5, c6, eq, rfl, er⟩ hM
        cases rest with
        | nil => cases eq
        | cons p rest =>
          obtain ⟨rfl, rfl⟩ := List.cons.inj eq
          have er := er.trans List.findSome?_cons
          walk_at "px"
          by_cases hc : ∃ g es, p = .nd (.nd (.call g) es)
          · obtain ⟨g, es, rfl⟩ := hc
            simp only [Pl.w, Pl.x, Ex.hd, Ex.d_nd]
            walk_at "px"
            refine ⟨countsD rows, .inr g, rfl, rfl, ?_⟩
            rw [counts_ok]
            walk_at "px"
            refine ⟨_, eqS_nat _ _, ?_⟩
            walk_at "px"
            rw [List.length_map]
            have eb : callBad rows (.nd (.nd (.call g) es)) = if cnt rows g = some es.length then none else some g := rfl
            by_cases hx : cnt rows g = some es.length
            · rw [eb, if_pos hx] at er
              rw [decide_eq_true hx]
              walk_at "px"
              exact hM _ ⟨rest, _, _, rfl, rfl, er⟩
            · rw [eb, if_neg hx] at er
              rw [decide_eq_false hx]
              walk_at "px"
              have : callF rows = some (f, g) := by
                rw [ef]
                exact fs_some (by show Option.map _ ((pre e).findSome? (callBad rows)) = _; rw [er]; rfl)
              rw [this] at k
              exact k
          · have nw := w_call fun bs es z => hc ⟨bs, es, z⟩
            rw [decide_eq_false nw]
            have eb : callBad rows p = none := by
              unfold callBad
              split
              · rename_i bs es
                exact absurd ⟨_, _, rfl⟩ hc
              · rfl
            rw [eb] at er
            walk_at "px"
            exact hM _ ⟨rest, _, _, rfl, rfl, er⟩
      · rintro Γ ⟨rest, c5, c6, eq, rfl, er⟩
        have : rest = [] := by cases rest with | nil => rfl | cons _ _ => cases eq
        subst this
        refine hN _ ⟨suf, _, _, _, _, _, rfl, fun x hx => sub x (by simp [hx]), rfl, ?_⟩
        rw [ef]
        exact fs_none (by show Option.map _ ((pre e).findSome? (callBad rows)) = _; rw [er]; rfl)
  · rintro Γ ⟨suf, c2, c3, c4, c5, c6, eq, sub, rfl, ef⟩
    have : suf = [] := by cases suf with | nil => rfl | cons _ _ => cases eq
    subst this
    rw [ef] at k
    walk_at "px"
    exact k
end
end K10
end

/-! K10i -/
section
set_option Elab.async false
set_option linter.all false
set_option maxRecDepth 100000
set_option maxHeartbeats 8000000
namespace K10
open PySem PySem.Spec PyProof.Rows L2 Dh Px Pg
local macro_rules | `(tactic| walk_at "px") => `(tactic| repeat (first
  | refine yT ?_ | refine yF ?_ | refine ⟨_, rfl, ?_⟩ | refine ⟨_, _, rfl, rfl, ?_⟩ | refine ⟨_, _, rfl, ?_⟩
  | refine ⟨_, _, rfl, isi (.tuple _), ?_⟩ | refine ⟨_, _, rfl, isi (.str _), ?_⟩ | refine ⟨_, _, rfl, isi (.int _), ?_⟩ | refine ⟨_, _, rfl, isi (.bool _), ?_⟩
  | refine pix_word ?_ | refine ⟨⟨_, rfl⟩, ?_⟩ | refine ⟨True.intro, ?_⟩ | refine ⟨rfl, ?_⟩ | refine ⟨(Nat.le_of_ble_eq_true rfl : _ ≤ sizeLine), ?_⟩))
theorem milt2 {n : Nat} (h : n ≤ 10000000) : n < sizeLine := Nat.lt_of_le_of_lt h (by decide)
/-! ### tags -/
def tagEv : Pl → Option (Str × Nat)
  | .nd (.nd (.make t) es) => some (t, es.length)
  | .br b _ => some (b.1, b.2.length)
  | _ => none
abbrev Szs := List (Str × Nat)
def tagRun : List Pl → Szs → Szs × Option Str
  | [], T => (T, none)
  | p :: ps, T => match tagEv p with
    | none => tagRun ps T
    | some (t, n) => match T.lookup t with
      | some m => if m = n then tagRun ps T else (T, some t)
      | none => tagRun ps (T ++ [(t, n)])
def tagRows : List Rw → Szs → Option (Str × Str)
  | [], _ => none
  | r :: rs, T => match (tagRun (pre r.2.2) T).2 with
    | none => tagRows rs (tagRun (pre r.2.2) T).1
    | some t => some (r.1, t)
def tagF (rows : List Rw) : Option (Str × Str) := tagRows rows []
def kdT (T : Szs) : KD := T.map fun p => (.inr p.1, .int (p.2 : Int))
theorem kdT_val (t : Str) : ∀ T : Szs, valD (kdT T) (.inr t) = (T.lookup t).map fun n => PyData.int (n : Int)
  | [] => rfl
  | p :: T => by
    have := kdT_val t T
    unfold kdT at *
    rw [List.map_cons, valD_cons, this]
    obtain ⟨a, b⟩ := p
    by_cases h : a = t
    · subst h
      rw [if_pos rfl, List.lookup_cons_self]; rfl
    · rw [if_neg (fun z => h (Sum.inr.inj z)), List.lookup_cons, show (t == a) = false from beq_eq_false_iff_ne.mpr fun z => h z.symm]
theorem kdT_put {t : Str} {n : Nat} {T : Szs} (h : T.lookup t = none) : putD (kdT T) (.inr t) (.int (n : Int)) = kdT (T ++ [(t, n)]) := by
  have hv := kdT_val t T
  rw [h] at hv
  have hn : ¬ ((kdT T).any fun p => decide (p.1 = (.inr t : Key))) = true := by
    intro z
    rw [List.any_eq_true] at z
    obtain ⟨p, hp, e⟩ := z
    have e := of_decide_eq_true e
    have : ∀ l : KD, p ∈ l → valD l (.inr t) ≠ none := by
      intro l
      induction l with
      | nil => intro z; cases z
      | cons q l ih =>
        intro hq
        rw [valD_cons]
        by_cases hh : q.1 = .inr t
        · rw [if_pos hh]; intro z; cases z
        · rw [if_neg hh]
          rcases List.mem_cons.mp hq with rfl | hq
          · exact absurd e hh
          · exact ih hq
    exact this _ hp hv
  unfold putD
  rw [if_neg hn]
  unfold kdT
  rw [List.map_append]; rfl
theorem tagRun_len : ∀ (ps : List Pl) (T : Szs), (tagRun ps T).1.length ≤ T.length + ps.length
  | [], T => Nat.le_refl _
  | p :: ps, T => by
    rw [tagRun, List.length_cons]
    split
    · have := tagRun_len ps T; omega
    · rename_i t n _
      split
      · split
        · have := tagRun_len ps T; omega
        · show T.length ≤ _; omega
      · have := tagRun_len ps (T ++ [(t, n)])
        rw [List.length_append] at this
        have e : [(t, n)].length = 1 := rfl
        omega
theorem dec_nat {m n n' : Nat} (h : n' = n) : decide ((m : Int) = (n' : Int)) = decide (m = n) := by
  subst h
  by_cases h : m = n'
  · rw [decide_eq_true h, decide_eq_true (by rw [h])]
  · rw [decide_eq_false h, decide_eq_false (by omega)]
theorem sum_le : ∀ rows : List Rw, (rows.map fun r => r.2.2.n).sum ≤ (rows.map fun r => r.2.1.length + r.2.2.n).sum
  | [] => Nat.le_refl _
  | r :: rs => by
    have := sum_le rs
    rw [List.map_cons, List.map_cons, List.sum_cons, List.sum_cons]; omega
def fTag : PF := fun Δ Ψ => ∃ rows : List Rw, Δ = [.v (progD rows)] ∧ POk rows ∧ Ψ (.v (faultD "tag" (tagF rows)))
section
variable {P : Program} {w : World} {K : PySem.W.Frag} {mg : Str → Option Value} {base : Heap}
abbrev s_tagFault : Stmt := top 42
abbrev n_tagFault : List Str := ["program", "first_sizes", "f", "_", "body", "word", "thing", "tag", "parts"]
theorem sc_tagFault : FnScope n_tagFault ["program"] (defScope s_tagFault) := ⟨rfl, rfl, rfl, by decide +kernel, rfl, by decide +kernel, by decide +kernel⟩
theorem ok_tagFault {f : Addr} {fd : FuncData} (F : Fun K "tag_fault" "tag_fault" s_tagFault f fd) (T : Blt mg) {f_0 : Addr} {fd_0 : FuncData} (Dplaces : DfD P w K mg base "places" 3 f_0 fd_0 ["body"] fPlaces) : FnG P w K mg base CX0 4 f fd ["program"] (spD K IK.ks fTag) := by
  have sc := sc_tagFault
  refine FnG.data F sc (by decide) (fun Δ Ψ h => by first | (obtain ⟨rfl, _⟩ := h; rfl) | (obtain ⟨_, rfl, _⟩ := h; rfl) | (obtain ⟨_, _, rfl, _⟩ := h; rfl) | (obtain ⟨_, _, _, rfl, _⟩ := h; rfl) | (obtain ⟨_, _, _, _, rfl, _⟩ := h; rfl) | (obtain ⟨_, _, _, _, _, rfl, _⟩ := h; rfl)) (fun cdv A outer s H E Δ Ψ noG hr h => ?_)
  obtain ⟨rows, rfl, ok, k⟩ := h
  refine ⟨_, _, (xss_cons (xs_set (i := 1) sc.nd rfl (Or.inl rfl) xe_dict0) 
      (xss_cons (xs_for PassesOwn.never rfl (xi_tupS (xe_var (pv 0))) (xg_tup (by rfl) (xgs_cons (xg_name (i := 2) sc.nd rfl (Or.inl rfl)) (xgs_cons (xg_name (i := 3) sc.nd rfl (Or.inl rfl)) (xgs_cons (xg_name (i := 4) sc.nd rfl (Or.inl rfl)) xgs_nil))))
        (xss_one (xs_for PassesOwn.never rfl (xi_listS (xe_call Dplaces.ok noG (hr.mono (by decide)) (by rfl) Dplaces.m Dplaces.k Dplaces.b (xp_cons (xe_var (pv 4)) xp_nil))) (xg_tup (by rfl) (xgs_cons (xg_name (i := 5) sc.nd rfl (Or.inl rfl)) (xgs_cons (xg_name (i := 6) sc.nd rfl (Or.inl rfl)) xgs_nil)))
          (xss_cons (xs_if (xt_w (xw_and (xt_cmp op_ne PNe (xe_var (pv 5)) xe_str (nomark _)) (xw_and1 (xt_cmp op_ne PNe (xe_var (pv 5)) xe_str (nomark _))))) (xss_one xs_continue) xss_nil) 
          (xss_cons (xs_asg (xe_if (xt_cmp op_eq PEq (xe_var (pv 5)) xe_str (nomark _)) (xe_tup (xv_cons (xe_ix (xe_var (pv 6)) xe_int (fun _ _ => rfl)) (xv_cons (xe_ix (xe_var (pv 6)) xe_int (fun _ _ => rfl)) xv_nil))) (xe_tup (xv_cons (xe_ix (xe_var (pv 6)) xe_int (fun _ _ => rfl)) (xv_cons (xe_ix (xe_var (pv 6)) xe_int (fun _ _ => rfl)) xv_nil)))) (xg_tup (by rfl) (xgs_cons (xg_name (i := 7) sc.nd rfl (Or.inl rfl)) (xgs_cons (xg_name (i := 8) sc.nd rfl (Or.inl rfl)) xgs_nil)))) 
          (xss_one (xs_if (xt_cmp op_ne PNe (xe_setd (i := 1) (pv 1) (xe_var (pv 7)) (xe_CB (xr_cons (xe_var (pv 8)) xr_nil) (fun _ p => pe_callB call_len (by rfl) T.len (by decide +kernel) p) PLen) ⟨rfl, rfl, rfl, rfl⟩) (xe_CB (xr_cons (xe_var (pv 8)) xr_nil) (fun _ p => pe_callB call_len (by rfl) T.len (by decide +kernel) p) PLen) (nomark _)) (xss_one (xs_ret (xe_tup (xv_cons xe_str (xv_cons (xe_var (pv 2)) (xv_cons (xe_var (pv 7)) xv_nil)))))) xss_nil))))))) 
      (xss_one (xs_ret xe_non)))), ?_⟩
  walk_at "px"
  refine loop_inv (fun q Γ => ∃ (suf : List Rw) (T : Szs) (c2 c3 c4 c5 c6 c7 c8 : Option Px.D), q = suf.map rowD ∧ (∀ r ∈ suf, r ∈ rows) ∧ T.length + 2 * (suf.map fun r => r.2.2.n).sum ≤ 8000000 ∧ Γ = [some (.v (progD rows)), some (.own (dkD (kdT T))), c2, c3, c4, c5, c6, c7, c8] ∧ tagF rows = tagRows suf T) ?_ ?_ _ _ ⟨rows, [], none, none, none, none, none, none, none, rfl, fun _ h => h, by have := ok.tot; have := sum_le rows; simp; omega, rfl, rfl⟩
  · rintro d q Γ N ⟨suf, T, c2, c3, c4, c5, c6, c7, c8, eq, sub, tot, rfl, ef⟩ hN
    cases suf with
    | nil => cases eq
    | cons r suf =>
      obtain ⟨rfl, rfl⟩ := List.cons.inj eq
      have rok := ok.ok r (sub r (by simp))
      obtain ⟨f, ps, e⟩ := r
      have en : ps.length + e.n ≤ 400000 := rok.n
      have fit : e.fit = true := rok.fit
      have pl := pre_len e
      rw [List.map_cons, List.sum_cons] at tot
      have tot : T.length + 2 * (e.n + (suf.map fun r => r.2.2.n).sum) ≤ 8000000 := tot
      walk_at "px"
      refine ⟨fit, (show e.n ≤ 400000 by omega), ?_⟩
      generalize hL : List.map Pl.d (pre (f, ps, e).2.2) = L
      walk_at "px"
      refine loop_inv (fun q Γ => ∃ (rest : List Pl) (T2 : Szs) (c5 c6 c7 c8 : Option Px.D), q = rest.map Pl.d ∧ T2.length + rest.length ≤ T.length + (pre e).length ∧ Γ = [some (.v (progD rows)), some (.own (dkD (kdT T2))), some (.v (.str f)), some (.v (.tuple (ps.map .str))), some (.v e.d), c5, c6, c7, c8] ∧ tagRun (pre e) T = tagRun rest T2) ?_ ?_ _ _ ⟨pre e, T, c5, c6, c7, c8, hL.symm, Nat.le_refl _, rfl, rfl⟩
      · rintro d q Γ M ⟨rest, T2, c5, c6, c7, c8, eq, tl, rfl, er⟩ hM
        cases rest with
        | nil => cases eq
        | cons p rest =>
          obtain ⟨rfl, rfl⟩ := List.cons.inj eq
          rw [List.length_cons] at tl
          rw [tagRun] at er
          cases p with
          | br b x =>
            simp only [Pl.w, Pl.x, Pg.brD]
            walk_at "px"
            have er : tagRun (pre e) T = (match T2.lookup b.1 with | some m => if m = b.2.length then tagRun rest T2 else (T2, some b.1) | none => tagRun rest (T2 ++ [(b.1, b.2.length)])) := er
            refine ⟨kdT T2, .inr b.1, _, _, rfl, rfl, rfl, milt2 (by simp only [kdT, List.length_map]; omega), fun d0 hd0 => ?_, fun hd0 => ?_⟩
            · rw [kdT_val] at hd0
              cases hl : T2.lookup b.1 with
              | none => rw [hl] at hd0; cases hd0
              | some m =>
                rw [hl] at hd0 er
                cases hd0
                walk_at "px"
                rw [show decide ((m : Int) = (((List.map PyData.str b.2).length : Nat) : Int)) = decide (m = b.2.length) from dec_nat (List.length_map _)]
                by_cases hm : m = b.2.length
                · rw [decide_eq_true hm]
                  have er : tagRun (pre e) T = if m = b.2.length then tagRun rest T2 else (T2, some b.1) := er
                  rw [if_pos hm] at er
                  walk_at "px"
                  exact hM _ ⟨rest, T2, _, _, _, _, rfl, by omega, rfl, er⟩
                · rw [decide_eq_false hm]
                  have er : tagRun (pre e) T = if m = b.2.length then tagRun rest T2 else (T2, some b.1) := er
                  rw [if_neg hm] at er
                  walk_at "px"
                  have : tagF rows = some (f, b.1) := by rw [ef, tagRows, er]
                  rw [this] at k
                  exact k
            · rw [kdT_val] at hd0
              cases hl : T2.lookup b.1 with
              | some m => rw [hl] at hd0; cases hd0
              | none =>
                rw [hl] at er
                walk_at "px"
                rw [show decide ((((List.map PyData.str b.2).length : Nat) : Int) = (((List.map PyData.str b.2).length : Nat) : Int)) = true from decide_eq_true rfl]
                walk_at "px"
                refine hM _ ⟨rest, T2 ++ [(b.1, b.2.length)], some (.v (.str "branch")), some (.v (Pg.brD b x.d)), some (.v (.str b.1)), some (.v (.tuple (b.2.map .str))), rfl, by simp; omega, ?_, er⟩
                rw [← kdT_put hl, ← show (List.map PyData.str b.2).length = b.2.length from List.length_map _]
                rfl
          | nd x =>
            obtain ⟨hd, es⟩ := x
            by_cases hc : ∃ t, hd = .make t
            · obtain ⟨t, rfl⟩ := hc
              simp only [Pl.w, Pl.x, Ex.hd, Ex.d_nd]
              walk_at "px"
              have er : tagRun (pre e) T = (match T2.lookup t with | some m => if m = es.length then tagRun rest T2 else (T2, some t) | none => tagRun rest (T2 ++ [(t, es.length)])) := er
              refine ⟨kdT T2, .inr t, _, _, rfl, rfl, rfl, milt2 (by simp only [kdT, List.length_map]; omega), fun d0 hd0 => ?_, fun hd0 => ?_⟩
              · rw [kdT_val] at hd0
                cases hl : T2.lookup t with
                | none => rw [hl] at hd0; cases hd0
                | some m =>
                  rw [hl] at hd0 er
                  cases hd0
                  walk_at "px"
                  rw [show decide ((m : Int) = (((dL es).length : Nat) : Int)) = decide (m = es.length) from dec_nat ((by rw [dL_map, List.length_map]))]
                  by_cases hm : m = es.length
                  · rw [decide_eq_true hm]
                    have er : tagRun (pre e) T = if m = es.length then tagRun rest T2 else (T2, some t) := er
                    rw [if_pos hm] at er
                    walk_at "px"
                    exact hM _ ⟨rest, T2, _, _, _, _, rfl, by omega, rfl, er⟩
                  · rw [decide_eq_false hm]
                    have er : tagRun (pre e) T = if m = es.length then tagRun rest T2 else (T2, some t) := er
                    rw [if_neg hm] at er
                    walk_at "px"
                    have : tagF rows = some (f, t) := by rw [ef, tagRows, er]
                    rw [this] at k
                    exact k
              · rw [kdT_val] at hd0
                cases hl : T2.lookup t with
                | some m => rw [hl] at hd0; cases hd0
                | none =>
                  rw [hl] at er
                  walk_at "px"
                  rw [show decide ((((dL es).length : Nat) : Int) = (((dL es).length : Nat) : Int)) = true from decide_eq_true rfl]
                  walk_at "px"
                  refine hM _ ⟨rest, T2 ++ [(t, es.length)], some (.v (.str "make")), some (.v (Ex.nd (.make t) es).d), some (.v (.str t)), some (.v (.tuple (dL es))), rfl, by simp; omega, ?_, er⟩
                  rw [← kdT_put hl, ← show (dL es).length = es.length from (by rw [dL_map, List.length_map])]
                  rfl
            · have nm : (Pl.nd (Ex.nd hd es)).w ≠ "make" := w_make fun t es' z => hc ⟨t, by cases z; rfl⟩
              have nb : (Pl.nd (Ex.nd hd es)).w ≠ "branch" := hd_word hd
              have et : tagEv (.nd (.nd hd es)) = none := by
                cases hd with
                | make t => exact absurd ⟨t, rfl⟩ hc
                | _ => rfl
              rw [et] at er
              walk_at "px"
              rw [decide_eq_false nm]
              walk_at "px"
              rw [decide_eq_false nb]
              walk_at "px"
              exact hM _ ⟨rest, T2, _, _, _, _, rfl, by omega, rfl, er⟩
      · rintro Γ ⟨rest, T2, c5, c6, c7, c8, eq, tl, rfl, er⟩
        have : rest = [] := by cases rest with | nil => rfl | cons _ _ => cases eq
        subst this
        refine hN _ ⟨suf, T2, _, _, _, _, _, _, _, rfl, fun x hx => sub x (by simp [hx]), by simp at tl; omega, rfl, ?_⟩
        rw [ef, tagRows, er]
        rfl
  · rintro Γ ⟨suf, T, c2, c3, c4, c5, c6, c7, c8, eq, sub, tot, rfl, ef⟩
    have : suf = [] := by cases suf with | nil => rfl | cons _ _ => cases eq
    subst this
    rw [ef] at k
    walk_at "px"
    exact k
end
end K10
end

/-! K10j -/
section
set_option Elab.async false
set_option linter.all false
set_option maxRecDepth 100000
set_option maxHeartbeats 8000000
namespace K10
open PySem PySem.Spec PyProof.Rows L2 Dh Px Pg
local macro_rules | `(tactic| walk_at "px") => `(tactic| repeat (first
  | refine yT ?_ | refine yF ?_ | refine ⟨_, rfl, ?_⟩ | refine ⟨_, _, rfl, rfl, ?_⟩ | refine ⟨_, _, rfl, ?_⟩
  | refine ⟨_, _, rfl, isi (.tuple _), ?_⟩ | refine ⟨_, _, rfl, isi (.str _), ?_⟩ | refine ⟨_, _, rfl, isi (.int _), ?_⟩ | refine ⟨_, _, rfl, isi (.bool _), ?_⟩
  | refine pix_word ?_ | refine ⟨⟨_, rfl⟩, ?_⟩ | refine ⟨True.intro, ?_⟩ | refine ⟨rfl, ?_⟩ | refine ⟨(Nat.le_of_ble_eq_true rfl : _ ≤ sizeLine), ?_⟩))
/-! ### the fault -/
abbrev GF := List Rw → PyData
def gTwice : GF := fun rows => twiceD (twiceF rows)
def gParam : GF := fun rows => faultD "parameter" (paramF rows)
def gUnb : GF := fun rows => faultD "unbound" (unbF rows)
def gCall : GF := fun rows => faultD "call" (callF rows)
def gTag : GF := fun rows => faultD "tag" (tagF rows)
def gBranch : GF := fun rows => faultD "branch" (branchF rows)
def fS (g : GF) : PF := fun Δ Ψ => ∃ rows : List Rw, Δ = [.v (progD rows)] ∧ POk rows ∧ Ψ (.v (g rows))
def firstOf : List GF → GF
  | [], _ => .none
  | g :: gs, rows => if isNone (g rows) = true then firstOf gs rows else g rows
def faultG : GF := firstOf [gTwice, gParam, gUnb, gCall, gTag, gBranch]
abbrev Srch := List (Addr × FuncData × GF)
structure SrchOk (P : Program) (w : World) (K : PySem.W.Frag) (mg : Str → Option Value) (base : Heap) (a : Addr) (S : Srch) : Prop where
  m : mg "SEARCHES" = some (.ref a)
  t : KT K a (S.map fun p => .ref p.1)
  ok : ∀ p ∈ S, FnG P w K mg base CX0 4 p.1 p.2.1 ["program"] (spD K IK.ks (fS p.2.2))
  kp : ∀ p ∈ S, PySem.W.keepIn K (.ref p.1) = true
  bd : ∀ p ∈ S, Binds K p.2.1 ["program"] []
  gs : S.map (·.2.2) = [gTwice, gParam, gUnb, gCall, gTag, gBranch]
def fFault : PF := fun Δ Ψ => ∃ rows : List Rw, Δ = [.v (progD rows)] ∧ POk rows ∧ Few (progD rows) ∧ isProg (progD rows) = true ∧ Ψ (.v (faultG rows))
def fChecked : PF := fun Δ Ψ => ∃ rows : List Rw, Δ = [.v (progD rows)] ∧ POk rows ∧ Few (progD rows) ∧ isProg (progD rows) = true ∧ Ψ (.v (.bool (isNone (faultG rows))))
section
variable {P : Program} {w : World} {K : PySem.W.Frag} {mg : Str → Option Value} {base : Heap}
abbrev s_fault : Stmt := top 45
abbrev n_fault : List Str := ["program", "search", "found"]
theorem sc_fault : FnScope n_fault ["program"] (defScope s_fault) := ⟨rfl, rfl, rfl, by decide +kernel, rfl, by decide +kernel, by decide +kernel⟩
theorem ok_fault {f : Addr} {fd : FuncData} (F : Fun K "fault" "fault" s_fault f fd) (T : Blt mg) {f_0 : Addr} {fd_0 : FuncData} (Dis_program : DfD P w K mg base "is_program" 10 f_0 fd_0 ["thing"] (fB isProg)) {aS : Addr} {S : Srch} (HS : SrchOk P w K mg base aS S) :
    FnG P w K mg base CX0 11 f fd ["program"] (spD K IK.ks fFault) := by
  have sc := sc_fault
  refine FnG.data F sc (by decide) (fun Δ Ψ h => by obtain ⟨_, rfl, _⟩ := h; rfl) (fun cdv A outer s H E Δ Ψ noG hr h => ?_)
  obtain ⟨rows, rfl, ok, few, isp, k⟩ := h
  have FO : FnsOk (cxOf CX0 P w K mg base n_fault "fault" (defScope s_fault) f cdv A outer s H E).nox 4 ["program"] (S.map fun p => (p.1, p.2.1, fS p.2.2)) :=
    ⟨fun p hp => by obtain ⟨q, hq, rfl⟩ := List.mem_map.mp hp; exact HS.ok q hq, fun p hp => by obtain ⟨q, hq, rfl⟩ := List.mem_map.mp hp; exact HS.kp q hq, fun p hp => by obtain ⟨q, hq, rfl⟩ := List.mem_map.mp hp; exact HS.bd q hq⟩
  refine ⟨_, _, (xss_cons (xs_if (xt_not (xt_val (xe_call Dis_program.ok noG (hr.mono (by decide)) (by rfl) Dis_program.m Dis_program.k Dis_program.b (xp_cons (xe_var (pv 0)) xp_nil)))) (xss_one xs_never) xss_nil) 
      (xss_cons (xs_forR PassesOwn.never rfl (pe_glob (v := .ref aS) (by rfl) HS.m rfl) HS.t (pg_name (i := 1) sc.nd rfl (Or.inl rfl))
        (xss_cons (xs_set (i := 2) sc.nd rfl (Or.inl rfl) (xe_callVs (i := 1) FO noG (hr.mono (by decide)) rfl (.inl rfl) (xp_cons (xe_var (pv 0)) xp_nil))) 
        (xss_one (xs_if (xt_cmp op_notN PNotN (xe_var (pv 2)) xe_non (nomark _)) (xss_one (xs_ret (xe_var (pv 2)))) xss_nil)))) 
      (xss_one (xs_ret xe_non)))), ?_⟩
  walk_at "px"
  refine ⟨few, ?_⟩
  rw [isp]
  walk_at "px"
  refine loopR_inv (fun xs Γ => ∃ (suf : Srch) (c1 c2 : Option Px.D), xs = suf.map (fun p => .ref p.1) ∧ (∀ p ∈ suf, p ∈ S) ∧ Γ = [some (.v (progD rows)), c1, c2] ∧ faultG rows = firstOf (suf.map (·.2.2)) rows) ?_ ?_ _ _ ⟨S, none, none, rfl, fun _ h => h, rfl, by rw [HS.gs]; rfl⟩
  · rintro x xs Γ N ⟨suf, c1, c2, ex, sub, rfl, ef⟩ hN
    cases suf with
    | nil => cases ex
    | cons p suf =>
      obtain ⟨rfl, rfl⟩ := List.cons.inj ex
      refine ⟨(show 1 < 3 by decide), ?_⟩
      refine ⟨(p.1, p.2.1, fS p.2.2), List.mem_map.mpr ⟨p, sub p (by simp), rfl⟩, rfl, ?_⟩
      walk_at "px"
      refine ⟨ok, ?_⟩
      walk_at "px"
      rw [List.map_cons, firstOf] at ef
      cases hn : isNone (p.2.2 rows) with
      | true =>
        rw [hn, if_pos rfl] at ef
        walk_at "px"
        exact hN _ ⟨suf, _, _, rfl, fun q hq => sub q (by simp [hq]), rfl, ef⟩
      | false =>
        rw [hn, if_neg (by decide)] at ef
        rw [ef] at k
        walk_at "px"
        exact k
  · rintro Γ ⟨suf, c1, c2, ex, sub, rfl, ef⟩
    have : suf = [] := by cases suf with | nil => rfl | cons _ _ => cases ex
    subst this
    rw [ef] at k
    walk_at "px"
    exact k
end
end K10
end

/-! K10k -/
section
set_option Elab.async false
set_option linter.all false
set_option maxRecDepth 100000
set_option maxHeartbeats 4000000
namespace K10
open PySem PySem.Spec PyProof.Rows L2 Dh Px Pg
/-! ### trees with names in order are programs -/
def okHd : Hd → Bool
  | .int _ => true
  | .nam x => isName (.str x)
  | .call f => isName (.str f)
  | .make t => isTag (.str t)
  | .cas bs => bs.all fun b => isTag (.str b.1) && b.2.all fun x => isName (.str x)
  | .lt x => isName (.str x)
  | .iff t => isTest (.str t)
  | .op s => isSign (.str s)
  | .delay => true
  | .force => true
mutual
def okE : Ex → Bool
  | .nd h es => okHd h && okEL es
def okEL : List Ex → Bool
  | [] => true
  | e :: es => okE e && okEL es
end
theorem okEL_iff : ∀ {es : List Ex}, okEL es = true ↔ ∀ e ∈ es, okE e = true
  | [] => by simp [okEL]
  | e :: es => by rw [okEL, Bool.and_eq_true, okEL_iff]; simp
theorem okE_nd {h : Hd} {es : List Ex} : okE (.nd h es) = true ↔ okHd h = true ∧ ∀ e ∈ es, okE e = true := by
  rw [okE, Bool.and_eq_true, okEL_iff]
theorem zip_zipD : ∀ (ps : List PyData) (ss : List Str), (zipD ps (ss.map .str)).flatMap itemParts = innerOf (ps.zip ss)
  | [], _ => by simp [zipD, innerOf]
  | p :: ps, [] => by simp [zipD, innerOf]
  | p :: ps, s :: ss => by
    have := zip_zipD ps ss
    unfold innerOf at *
    rw [List.map_cons, zipD, List.flatMap_cons, this, List.zip_cons_cons, List.map_cons, List.flatten_cons]
    rfl
theorem inner_ex {h : Hd} {es : List Ex} (fit : h.fits es.length = true) : innerD (Ex.nd h es).d = es.map Ex.d := by
  have e := (inner_parts fit).1
  rw [zip_zipD] at e
  rw [Ex.d_nd]
  show (match forms.lookup h.w with | some ss => innerOf ((h.rest (es.map Ex.d)).zip ss) | none => []) = _
  rw [forms_hd]
  exact e
theorem so_integer : sortOk "integer" = isInteger := by unfold sortOk; rw [if_pos rfl]
theorem so_name : sortOk "name" = isName := by unfold sortOk; rw [if_neg (by decide +kernel), if_pos rfl]
theorem so_tag : sortOk "tag" = isTag := by unfold sortOk; rw [if_neg (by decide +kernel), if_neg (by decide +kernel), if_pos rfl]
theorem so_test : sortOk "test" = isTest := by unfold sortOk; rw [if_neg (by decide +kernel), if_neg (by decide +kernel), if_neg (by decide +kernel), if_pos rfl]
theorem so_sign : sortOk "sign" = isSign := by unfold sortOk; rw [if_neg (by decide +kernel), if_neg (by decide +kernel), if_neg (by decide +kernel), if_neg (by decide +kernel), if_pos rfl]
theorem so_expr (d : PyData) : sortOk "expression" d = true := by unfold sortOk; rw [if_neg (by decide +kernel), if_neg (by decide +kernel), if_neg (by decide +kernel), if_neg (by decide +kernel), if_neg (by decide +kernel), if_pos rfl]
theorem so_exprs : sortOk "expressions" = isTup := by unfold sortOk; rw [if_neg (by decide +kernel), if_neg (by decide +kernel), if_neg (by decide +kernel), if_neg (by decide +kernel), if_neg (by decide +kernel), if_neg (by decide +kernel), if_pos rfl]
theorem so_brs : sortOk "branches" = areBranches := by unfold sortOk; rw [if_neg (by decide +kernel), if_neg (by decide +kernel), if_neg (by decide +kernel), if_neg (by decide +kernel), if_neg (by decide +kernel), if_neg (by decide +kernel), if_neg (by decide +kernel)]
theorem form_ex {h : Hd} {es : List Ex} (fit : h.fits es.length = true) (ok : okHd h = true) : hasForm (Ex.nd h es).d = true := by
  rw [Ex.d_nd]
  show (match forms.lookup h.w with | some ss => decide ((h.rest (es.map Ex.d)).length = ss.length) && ((h.rest (es.map Ex.d)).zip ss).all fun q => sortOk q.2 q.1 | none => false) = true
  rw [forms_hd]
  cases h with
  | int i => simp [Hd.rest, Hd.sorts, so_integer, isInteger]
  | nam x => simpa [Hd.rest, Hd.sorts, so_name] using (show isName (.str x) = true from ok)
  | call f => simpa [Hd.rest, Hd.sorts, so_name, so_exprs, isTup] using (show isName (.str f) = true from ok)
  | make f => simpa [Hd.rest, Hd.sorts, so_tag, so_exprs, isTup] using (show isTag (.str f) = true from ok)
  | cas bs =>
    obtain ⟨e0, bodies, rfl, hl, ne, _, _⟩ := fit_cas fit
    simp only [Hd.rest, Hd.sorts, List.length_cons, List.length_nil, List.zip_cons_cons, List.zip_nil_right, List.all_cons, List.all_nil, so_expr, so_brs, Bool.true_and, Bool.and_true, decide_true]
    show (decide (1 ≤ (List.zipWith Pg.brD bs (List.map Ex.d (e0 :: bodies)).tail).length) && (List.zipWith Pg.brD bs (List.map Ex.d (e0 :: bodies)).tail).all isBranch) = true
    rw [Bool.and_eq_true]
    constructor
    · have : 0 < bs.length := List.length_pos_iff.mpr ne
      rw [decide_eq_true_eq, List.length_zipWith, List.map_cons, List.tail_cons, List.length_map]
      omega
    · rw [List.all_eq_true]
      intro d hd
      obtain ⟨b, x, hb, rfl⟩ := zip_br2 hd
      have hb2 := List.all_eq_true.mp ok b hb
      rw [Bool.and_eq_true] at hb2
      show (isTag (.str b.1) && (b.2.map PyData.str).all isName) = true
      rw [hb2.1, List.all_map]
      exact hb2.2
  | lt x =>
    obtain ⟨a, b, rfl⟩ := two (of_decide_eq_true fit)
    simpa [Hd.rest, Hd.sorts, so_name, so_expr] using (show isName (.str x) = true from ok)
  | iff x =>
    obtain ⟨a, b, c, d, rfl⟩ := four (of_decide_eq_true fit)
    simpa [Hd.rest, Hd.sorts, so_test, so_expr] using (show isTest (.str x) = true from ok)
  | op x =>
    obtain ⟨a, b, rfl⟩ := two (of_decide_eq_true fit)
    simpa [Hd.rest, Hd.sorts, so_sign, so_expr] using (show isSign (.str x) = true from ok)
  | delay =>
    obtain ⟨a, rfl⟩ := List.length_eq_one_iff.mp (of_decide_eq_true fit)
    simp [Hd.rest, Hd.sorts, so_expr]
  | force =>
    obtain ⟨a, rfl⟩ := List.length_eq_one_iff.mp (of_decide_eq_true fit)
    simp [Hd.rest, Hd.sorts, so_expr]
theorem expr_ok : ∀ e : Ex, e.fit = true → okE e = true → isExpr e.d = true := by
  refine Ex.ind ?_
  intro h es ih fit ok
  obtain ⟨f1, f2⟩ := Ex.fit_nd fit
  obtain ⟨o1, o2⟩ := okE_nd.mp ok
  rw [isExpr_eq, form_ex f1 o1, inner_ex f1, Bool.true_and, List.all_map, List.all_eq_true]
  exact fun e he => ih e he (f2 e he) (o2 e he)
structure RwN (r : Rw) : Prop where
  f : isName (.str r.1) = true
  p : ∀ x ∈ r.2.1, isName (.str x) = true
  e : okE r.2.2 = true
theorem prog_ok {rows : List Rw} (ne : rows ≠ []) (ok : POk rows) (nm : ∀ r ∈ rows, RwN r) : isProg (progD rows) = true := by
  show (decide (1 ≤ (rows.map rowD).length) && (rows.map rowD).all isDef) = true
  rw [Bool.and_eq_true]
  constructor
  · have : 0 < rows.length := List.length_pos_iff.mpr ne
    rw [decide_eq_true_eq, List.length_map]; omega
  · rw [List.all_map, List.all_eq_true]
    intro r hr
    have n := nm r hr
    show (isName (.str r.1) && (r.2.1.map PyData.str).all isName && isExpr r.2.2.d) = true
    have hp : r.2.1.all (isName ∘ PyData.str) = true := List.all_eq_true.mpr fun x hx => n.p x hx
    rw [n.f, expr_ok _ (ok.ok r hr).fit n.e, List.all_map, hp]
    rfl
/-! ### their size -/
theorem word_len {a b : Str} {x : Str} (h : isWordL a b x.cps.toList = true) : x.length ≤ 12 := by
  unfold isWordL at h
  rw [Bool.and_eq_true, Bool.and_eq_true, decide_eq_true_eq] at h
  have := h.1.1.2
  show x.cps.size ≤ 12
  simpa using this
theorem tag_len {x : Str} (h : isTag (.str x) = true) : x.length ≤ 12 := word_len h
theorem name_len {x : Str} (h : isName (.str x) = true) : x.length ≤ 12 := by
  have h : (isWordL lowS alnS x.cps.toList && !(resv.contains x)) = true := h
  rw [Bool.and_eq_true] at h
  exact word_len h.1
theorem test_len {x : Str} (h : isTest (.str x) = true) : x.length ≤ 12 := by
  have h : (["<", "="] : List Str).contains x = true := h
  rw [List.contains_iff_mem] at h
  simp only [List.mem_cons, List.not_mem_nil, or_false] at h
  rcases h with rfl | rfl <;> decide +kernel
theorem sign_len {x : Str} (h : isSign (.str x) = true) : x.length ≤ 12 := by
  have h : (["+", "-", "*"] : List Str).contains x = true := h
  rw [List.contains_iff_mem] at h
  simp only [List.mem_cons, List.not_mem_nil, or_false] at h
  rcases h with rfl | rfl | rfl <;> decide +kernel
theorem szA_strs : ∀ xs : List Str, (∀ x ∈ xs, x.length ≤ 12) → szA (xs.map .str) ≤ 13 * xs.length
  | [], _ => by simp [szA]
  | x :: xs, h => by
    have h1 := h x (by simp)
    have h2 := szA_strs xs fun y hy => h y (by simp [hy])
    rw [List.map_cons, szA, List.length_cons]
    simp only [sz]; omega
theorem szA_brs : ∀ (bs : List (Str × List Str)) (ds : List PyData), (∀ b ∈ bs, b.1.length ≤ 12 ∧ ∀ x ∈ b.2, x.length ≤ 12) → szA (List.zipWith Pg.brD bs ds) ≤ 15 * ds.length + 13 * (bs.map (·.2.length)).sum + szA ds
  | [], _, _ => by simp [szA]
  | b :: bs, [], _ => by simp [szA]
  | b :: bs, d :: ds, h => by
    have h1 := h b (by simp)
    have h2 := szA_brs bs ds fun y hy => h y (by simp [hy])
    have h3 := szA_strs b.2 h1.2
    rw [List.zipWith_cons_cons, szA, List.length_cons, List.map_cons, List.sum_cons, szA]
    simp only [Pg.brD, sz, szA]; omega
theorem w_len (h : Hd) : h.w.length ≤ 6 := by
  cases h with
  | int i => exact (by decide +kernel : ("int" : Str).length ≤ 6)
  | nam x => exact (by decide +kernel : ("name" : Str).length ≤ 6)
  | call x => exact (by decide +kernel : ("call" : Str).length ≤ 6)
  | make x => exact (by decide +kernel : ("make" : Str).length ≤ 6)
  | cas x => exact (by decide +kernel : ("case" : Str).length ≤ 6)
  | lt x => exact (by decide +kernel : ("let" : Str).length ≤ 6)
  | iff x => exact (by decide +kernel : ("if" : Str).length ≤ 6)
  | op x => exact (by decide +kernel : ("op" : Str).length ≤ 6)
  | delay => exact (by decide +kernel : ("delay" : Str).length ≤ 6)
  | force => exact (by decide +kernel : ("force" : Str).length ≤ 6)
theorem szA_es : ∀ es : List Ex, (∀ e ∈ es, sz e.d + 16 ≤ 60 * e.n) → szA (es.map Ex.d) + 16 * es.length ≤ 60 * nL es
  | [], _ => by simp [szA, nL]
  | e :: es, h => by
    have h1 := h e (by simp)
    have h2 := szA_es es fun y hy => h y (by simp [hy])
    rw [List.map_cons, szA, nL, List.length_cons]; omega
theorem sz_ex : ∀ e : Ex, e.fit = true → okE e = true → sz e.d + 16 ≤ 60 * e.n := by
  refine Ex.ind ?_
  intro h es ih fit ok
  obtain ⟨f1, f2⟩ := Ex.fit_nd fit
  obtain ⟨o1, o2⟩ := okE_nd.mp ok
  have s := szA_es es fun e he => ih e he (f2 e he) (o2 e he)
  have wl := w_len h
  rw [Ex.d_nd, Ex.n]
  have top : ∀ N, szA (h.rest (es.map Ex.d)) ≤ N → sz (.tuple (.str h.w :: h.rest (es.map Ex.d))) ≤ 8 + N := by
    intro N hN
    simp only [sz, szA]; omega
  refine Nat.le_trans (Nat.add_le_add_right (top (20 + 13 * h.bn + (szA (es.map Ex.d) + 16 * es.length)) ?_) 16) (by omega)
  cases h with
  | int i => simp only [Hd.rest, szA, sz]; omega
  | nam x =>
    have := name_len (show isName (.str x) = true from o1)
    simp only [Hd.rest, szA, sz]; omega
  | call f =>
    have := name_len (show isName (.str f) = true from o1)
    simp only [Hd.rest, szA, sz]; omega
  | make f =>
    have := tag_len (show isTag (.str f) = true from o1)
    simp only [Hd.rest, szA, sz]; omega
  | cas bs =>
    obtain ⟨e0, bodies, rfl, hl, ne, _, _⟩ := fit_cas f1
    have := szA_brs bs (bodies.map Ex.d) fun b hb => by
      have hb2 := List.all_eq_true.mp (show (bs.all fun b => isTag (.str b.1) && b.2.all fun x => isName (.str x)) = true from o1) b hb
      rw [Bool.and_eq_true] at hb2
      exact ⟨tag_len hb2.1, fun x hx => name_len (List.all_eq_true.mp hb2.2 x hx)⟩
    rw [List.length_map] at this
    simp only [Hd.rest, Hd.bn, szA, sz, List.map_cons, List.headD_cons, List.tail_cons, List.length_cons]; omega
  | lt x =>
    have := name_len (show isName (.str x) = true from o1)
    simp only [Hd.rest, szA, sz]; omega
  | iff x =>
    have := test_len (show isTest (.str x) = true from o1)
    simp only [Hd.rest, szA, sz]; omega
  | op x =>
    have := sign_len (show isSign (.str x) = true from o1)
    simp only [Hd.rest, szA, sz]; omega
  | delay => simp only [Hd.rest]; omega
  | force => simp only [Hd.rest]; omega
theorem szA_rows : ∀ rows : List Rw, (∀ r ∈ rows, r.2.2.fit = true) → (∀ r ∈ rows, RwN r) → szA (rows.map rowD) ≤ 16 * rows.length + 60 * (rows.map fun r => r.2.1.length + r.2.2.n).sum
  | [], _, _ => by simp [szA]
  | r :: rs, ft, nm => by
    have h1 := szA_rows rs (fun x hx => ft x (by simp [hx])) fun x hx => nm x (by simp [hx])
    have n := nm r (by simp)
    have h2 := sz_ex _ (ft r (by simp)) n.e
    have h3 := szA_strs r.2.1 fun x hx => name_len (n.p x hx)
    have h4 := name_len n.f
    rw [List.map_cons, szA, List.length_cons, List.map_cons, List.sum_cons]
    simp only [rowD, sz, szA]; omega
theorem prog_few {rows : List Rw} (ok : POk rows) (nm : ∀ r ∈ rows, RwN r) : Few (progD rows) := by
  have h1 := szA_rows rows (fun r hr => (ok.ok r hr).fit) nm
  have h2 := ok.len
  have h3 := ok.tot
  unfold Few progD
  simp only [sz]
  omega
end K10
end

/-! K10m -/
section
set_option Elab.async false
set_option linter.all false
set_option maxRecDepth 100000
set_option maxHeartbeats 4000000
namespace K10
open PySem PySem.Spec PyProof.Rows L2 Dh Px Pg
/-! ### drawn programs as trees -/
theorem word_is {a b : Str} (sub : ∀ c ∈ a.cps.toList, c ∈ b.cps.toList) {x : Str} (h : wordOf a b x = true) : isWordL a b x.cps.toList = true := by
  unfold wordOf at h
  unfold isWordL
  split at h
  · cases h
  · rename_i c r e
    rw [Bool.and_eq_true, Bool.and_eq_true, decide_eq_true_eq, decide_eq_true_eq] at h
    obtain ⟨⟨h1, h2⟩, h3⟩ := h
    rw [e]
    simp only [List.length_cons, List.all_cons, Bool.and_eq_true, decide_eq_true_eq]
    exact ⟨⟨by omega, h1⟩, sub c h1, h2⟩
theorem name_is {x : Str} (h : nameOk x = true) : isName (.str x) = true := by
  unfold nameOk at h
  rw [Bool.and_eq_true] at h
  show (isWordL lowS alnS x.cps.toList && !(resv.contains x)) = true
  rw [word_is (by decide +kernel) h.1, h.2]; rfl
theorem tag_is {x : Str} (h : tagOk x = true) : isTag (.str x) = true := word_is (a := uppS) (b := bothS) (by decide +kernel) h
/-- what a head has with the signs of a program: calls with so many arguments, tags with so many parts -/
def wfHd (fs ts : List (Str × Nat)) (n : Nat) : Hd → Prop
  | .call f => (f, n) ∈ fs
  | .make t => (t, n) ∈ ts
  | .cas bs => (bs.map (·.1)).Nodup ∧ ∀ b ∈ bs, (b.1, b.2.length) ∈ ts ∧ b.2.Nodup
  | _ => True
mutual
def wfE (fs ts : List (Str × Nat)) : Ex → Prop
  | .nd h es => wfHd fs ts es.length h ∧ wfEL fs ts es
def wfEL (fs ts : List (Str × Nat)) : List Ex → Prop
  | [] => True
  | e :: es => wfE fs ts e ∧ wfEL fs ts es
end
theorem wfEL_iff {fs ts : List (Str × Nat)} : ∀ {es : List Ex}, wfEL fs ts es ↔ ∀ e ∈ es, wfE fs ts e
  | [] => by simp [wfEL]
  | e :: es => by rw [wfEL, wfEL_iff]; simp
theorem wfE_nd {fs ts : List (Str × Nat)} {h : Hd} {es : List Ex} : wfE fs ts (.nd h es) ↔ wfHd fs ts es.length h ∧ ∀ e ∈ es, wfE fs ts e := by
  rw [wfE, wfEL_iff]
/-- the names that are bound are among some -/
def lcHd (loc : List Str) : Hd → Prop
  | .cas bs => ∀ b ∈ bs, ∀ x ∈ b.2, x ∈ loc
  | .lt x => x ∈ loc
  | _ => True
mutual
def lcE (loc : List Str) : Ex → Prop
  | .nd h es => lcHd loc h ∧ lcEL loc es
def lcEL (loc : List Str) : List Ex → Prop
  | [] => True
  | e :: es => lcE loc e ∧ lcEL loc es
end
theorem lcEL_iff {loc : List Str} : ∀ {es : List Ex}, lcEL loc es ↔ ∀ e ∈ es, lcE loc e
  | [] => by simp [lcEL]
  | e :: es => by rw [lcEL, lcEL_iff]; simp
theorem lcE_nd {loc : List Str} {h : Hd} {es : List Ex} : lcE loc (.nd h es) ↔ lcHd loc h ∧ ∀ e ∈ es, lcE loc e := by
  rw [lcE, lcEL_iff]
def bnd : Nat → Nat
  | 0 => 1
  | n + 1 => 10 + 4 * bnd n
theorem bnd_pos (n : Nat) : 1 ≤ bnd n := by cases n <;> simp only [bnd] <;> omega
/-- a drawn expression -/
structure Good (S : Sg) (n : Nat) (sc : List Str) (e : Ex) : Prop where
  fit : e.fit = true
  ok : okE e = true
  wf : wfE S.fs S.ts e
  ub : Pg.ub e sc = []
  n : e.n ≤ bnd n
  lc : lcE S.loc e
theorem pick_list {Q : Ex → Prop} : ∀ {ds : List PyData}, (∀ d ∈ ds, ∃ e : Ex, d = e.d ∧ Q e) → ∃ es : List Ex, ds = es.map Ex.d ∧ es.length = ds.length ∧ ∀ e ∈ es, Q e
  | [], _ => ⟨[], rfl, rfl, fun _ h => nomatch h⟩
  | d :: ds, h => by
    obtain ⟨e, he, q⟩ := h d (by simp)
    obtain ⟨es, h1, h2, h3⟩ := pick_list fun x hx => h x (List.mem_cons_of_mem _ hx)
    refine ⟨e :: es, by rw [he, h1]; rfl, by simp [h2], fun x hx => ?_⟩
    rcases List.mem_cons.mp hx with rfl | hx
    · exact q
    · exact h3 x hx
theorem ubL_nil {h : Hd} {sc : List Str} (z : ∀ i, h.binds i = []) : ∀ (i : Nat) (es : List Ex), (∀ e ∈ es, ub e sc = []) → ubL h i es sc = []
  | _, [], _ => by rw [ubL]
  | i, e :: es, k => by
    rw [ubL, z, List.append_nil, k e (by simp), ubL_nil z (i + 1) es fun x hx => k x (by simp [hx])]; rfl
theorem nL_le {N : Nat} : ∀ es : List Ex, (∀ e ∈ es, e.n ≤ N) → nL es ≤ es.length * N
  | [], _ => by simp [nL]
  | e :: es, h => by
    have h1 := h e (by simp)
    have h2 := nL_le es fun x hx => h x (by simp [hx])
    rw [nL, List.length_cons, Nat.succ_mul]; omega
/-- heads that bind nothing -/
theorem good_plain {S : Sg} {n : Nat} {sc : List Str} {h : Hd} {es : List Ex} (z : ∀ i, h.binds i = []) (hf : h.free sc = []) (hb : h.bn = 0) (fit : h.fits es.length = true) (ok : okHd h = true) (wf : wfHd S.fs S.ts es.length h) (len : es.length ≤ 4) (g : ∀ e ∈ es, Good S n sc e) (lh : lcHd S.loc h := by trivial) : Good S (n + 1) sc (.nd h es) := by
  refine ⟨?_, okE_nd.mpr ⟨ok, fun e he => (g e he).ok⟩, wfE_nd.mpr ⟨wf, fun e he => (g e he).wf⟩, ?_, ?_, lcE_nd.mpr ⟨lh, fun e he => (g e he).lc⟩⟩
  · rw [Ex.fit, fit, fitL_iff.mpr fun e he => (g e he).fit]; rfl
  · rw [ub_nd, hf, ubL_nil z 0 es fun e he => (g e he).ub]; rfl
  · have := nL_le es fun e he => (g e he).n
    have h4 : es.length * bnd n ≤ 4 * bnd n := Nat.mul_le_mul_right _ len
    rw [Ex.n, hb, bnd]; omega
theorem good_leaf {S : Sg} {n : Nat} {sc : List Str} {h : Hd} (fit : h.fits 0 = true) (ok : okHd h = true) (wf : wfHd S.fs S.ts 0 h) (hf : h.free sc = []) (hb : h.bn = 0) (lh : lcHd S.loc h := by trivial) : Good S n sc (.nd h []) := by
  refine ⟨?_, okE_nd.mpr ⟨ok, fun _ z => nomatch z⟩, wfE_nd.mpr ⟨wf, fun _ z => nomatch z⟩, ?_, ?_, lcE_nd.mpr ⟨lh, fun _ z => nomatch z⟩⟩
  · rw [Ex.fit, List.length_nil, fit]; rfl
  · rw [ub_nd, hf, ubL]; rfl
  · rw [Ex.n, hb, nL]; exact bnd_pos n
theorem pick_br {S : Sg} {n : Nat} {sc : List Str} : ∀ {bs : List (Str × List Str × PyData)}, (∀ b ∈ bs, ∃ e : Ex, b.2.2 = e.d ∧ Good S n (sc ++ b.2.1) e) →
    ∃ es : List Ex, bs.map Dh.brD = List.zipWith Pg.brD (bs.map fun b => (b.1, b.2.1)) (es.map Ex.d) ∧ es.length = bs.length ∧ (∀ e ∈ es, e.fit = true ∧ okE e = true ∧ wfE S.fs S.ts e ∧ e.n ≤ bnd n ∧ lcE S.loc e) ∧
      ∀ (pre : List (Str × List Str)), ubL (.cas (pre ++ bs.map fun b => (b.1, b.2.1))) (pre.length + 1) es sc = []
  | [], _ => ⟨[], rfl, rfl, (fun _ h => nomatch h), fun _ => by rw [ubL]⟩
  | b :: bs, h => by
    obtain ⟨e, he, g⟩ := h b (by simp)
    obtain ⟨es, h1, h2, h3, h4⟩ := pick_br fun x hx => h x (List.mem_cons_of_mem _ hx)
    refine ⟨e :: es, ?_, by simp [h2], fun x hx => ?_, fun pre => ?_⟩
    · rw [List.map_cons, List.map_cons, List.map_cons, List.zipWith_cons_cons, h1]
      show PyData.tuple [.str b.1, .tuple (b.2.1.map .str), b.2.2] :: _ = _
      rw [he]; rfl
    · rcases List.mem_cons.mp hx with rfl | hx
      · exact ⟨g.fit, g.ok, g.wf, g.n, g.lc⟩
      · exact h3 x hx
    · have := h4 (pre ++ [(b.1, b.2.1)])
      rw [List.append_assoc, List.length_append] at this
      rw [ubL]
      have hb : Hd.binds (.cas (pre ++ (b :: bs).map fun b => (b.1, b.2.1))) (pre.length + 1) = b.2.1 := by
        show (match (pre ++ (b :: bs).map fun b => (b.1, b.2.1))[pre.length]? with | some b => b.2 | none => []) = _
        rw [List.getElem?_append_right (Nat.le_refl _)]; simp
      rw [hb, g.ub]
      exact this
theorem ge_ex {S : Sg} (so : SgOk S) {n : Nat} {sc : List Str} {d : PyData} (g : GE S n sc d) : (∀ x ∈ sc, x ∈ S.loc) → ∃ e : Ex, d = e.d ∧ Good S n sc e := by
  have nm : ∀ x ∈ S.loc, isName (.str x) = true := fun x hx => name_is (so.l3 x hx)
  induction g with
  | leaf h =>
    intro hs
    rcases h with ⟨x, hx, rfl⟩ | ⟨i, _, rfl⟩
    · exact ⟨.nd (.nam x) [], by rw [Ex.d_nd]; rfl, good_leaf rfl (nm x (hs x hx)) trivial (by show (if x ∈ _ then [] else [x]) = []; rw [if_pos hx]) rfl⟩
    · exact ⟨.nd (.int i) [], by rw [Ex.d_nd]; rfl, good_leaf rfl rfl trivial rfl rfl⟩
  | call hf hl _ ih =>
    intro hs
    obtain ⟨es, rfl, h2, h3⟩ := pick_list fun d hd => ih d hd hs
    have h3' := so.f3 _ hf
    refine ⟨.nd (.call _) es, by rw [Ex.d_nd]; rfl, good_plain (fun _ => rfl) rfl rfl rfl (name_is (so.f4 _ hf)) ?_ (by simp at hl h2 h3'; omega) h3⟩
    show (_, es.length) ∈ S.fs
    rw [List.length_map] at hl
    rw [hl]; exact hf
  | make hf hl _ ih =>
    intro hs
    obtain ⟨es, rfl, h2, h3⟩ := pick_list fun d hd => ih d hd hs
    have h3' := so.t3 _ hf
    refine ⟨.nd (.make _) es, by rw [Ex.d_nd]; rfl, good_plain (fun _ => rfl) rfl rfl rfl (tag_is (so.t4 _ hf)) ?_ (by simp at hl h2 h3'; omega) h3⟩
    show (_, es.length) ∈ S.ts
    rw [List.length_map] at hl
    rw [hl]; exact hf
  | @case n sc e bs g0 ne l3 nd ts nd2 gb ih0 ihb =>
    intro hs
    obtain ⟨e0, rfl, gg⟩ := ih0 hs
    obtain ⟨es, h1, h2, h3, h4⟩ := pick_br (bs := bs) fun b hb => ihb b hb fun x hx => by
      rcases List.mem_append.mp hx with hx | hx
      · exact hs x hx
      · exact (nd2 b hb).2 x hx
    refine ⟨.nd (.cas (bs.map fun b => (b.1, b.2.1))) (e0 :: es), by rw [Ex.d_nd, h1]; rfl, ?_, ?_, ?_, ?_, ?_, lcE_nd.mpr ⟨fun b hb x hx => ?_, fun e he => ?_⟩⟩
    rotate_left 5
    · obtain ⟨c, hc, rfl⟩ := List.mem_map.mp hb
      exact (nd2 c hc).2 x hx
    · rcases List.mem_cons.mp he with rfl | he
      · exact gg.lc
      · exact (h3 e he).2.2.2.2
    · rw [Ex.fit, show (Hd.cas (bs.map fun b => (b.1, b.2.1))).fits (e0 :: es).length = true from decide_eq_true ⟨by simpa using ne, by simp [h2], by rw [List.length_map]; omega, fun b hb => by
        obtain ⟨c, hc, rfl⟩ := List.mem_map.mp hb
        have := so.t3 _ (ts c hc)
        show c.2.1.length ≤ 4000
        have : c.2.1.length ≤ 3 := this
        omega⟩, fitL, gg.fit, fitL_iff.mpr fun e he => (h3 e he).1]; rfl
    · refine okE_nd.mpr ⟨List.all_eq_true.mpr fun b hb => ?_, fun e he => ?_⟩
      · obtain ⟨c, hc, rfl⟩ := List.mem_map.mp hb
        rw [Bool.and_eq_true]
        exact ⟨tag_is (so.t4 _ (ts c hc)), List.all_eq_true.mpr fun x hx => nm x ((nd2 c hc).2 x hx)⟩
      · rcases List.mem_cons.mp he with rfl | he
        · exact gg.ok
        · exact (h3 e he).2.1
    · refine wfE_nd.mpr ⟨⟨by rw [List.map_map]; exact nd, fun b hb => ?_⟩, fun e he => ?_⟩
      · obtain ⟨c, hc, rfl⟩ := List.mem_map.mp hb
        exact ⟨ts c hc, (nd2 c hc).1⟩
      · rcases List.mem_cons.mp he with rfl | he
        · exact gg.wf
        · exact (h3 e he).2.2.1
    · rw [ub_nd, ubL, show Hd.binds (.cas (bs.map fun b => (b.1, b.2.1))) 0 = [] from rfl, List.append_nil, gg.ub]
      exact h4 []
    · have hb : (bs.map fun b => b.2.1.length).sum ≤ 9 := by
        have : ∀ l : List (Str × List Str × PyData), (∀ b ∈ l, b ∈ bs) → (l.map fun b => b.2.1.length).sum ≤ 3 * l.length := by
          intro l
          induction l with
          | nil => intro _; simp
          | cons c l ih =>
            intro hl
            have h1 : c.2.1.length ≤ 3 := so.t3 _ (ts c (hl c (by simp)))
            have h2 := ih fun b hb => hl b (by simp [hb])
            rw [List.map_cons, List.sum_cons, List.length_cons]; omega
        have := this bs fun _ h => h
        omega
      have hn := nL_le es fun e he => (h3 e he).2.2.2.1
      have h9 : es.length * bnd n ≤ 3 * bnd n := Nat.mul_le_mul_right _ (by omega)
      have g0n := gg.n
      rw [Ex.n, show (Hd.cas (bs.map fun b => (b.1, b.2.1))).bn = (bs.map fun b => b.2.1.length).sum by show ((bs.map fun b => (b.1, b.2.1)).map (·.2.length)).sum = _; rw [List.map_map]; rfl, nL, bnd]
      omega
  | @«let» n sc x e b hx _ _ ih1 ih2 =>
    intro hs
    obtain ⟨a, rfl, ga⟩ := ih1 hs
    obtain ⟨c, rfl, gc⟩ := ih2 fun y hy => by
      rcases List.mem_append.mp hy with hy | hy
      · exact hs y hy
      · rw [List.mem_singleton.mp hy]; exact hx
    refine ⟨.nd (.lt x) [a, c], by rw [Ex.d_nd]; rfl, ?_, ?_, ?_, ?_, ?_, lcE_nd.mpr ⟨hx, fun e he => ?_⟩⟩
    rotate_left 5
    · simp only [List.mem_cons, List.not_mem_nil, or_false] at he
      rcases he with rfl | rfl
      · exact ga.lc
      · exact gc.lc
    · simp [Ex.fit, Hd.fits, fitL, ga.fit, gc.fit]
    · refine okE_nd.mpr ⟨nm x hx, fun e he => ?_⟩
      simp only [List.mem_cons, List.not_mem_nil, or_false] at he
      rcases he with rfl | rfl
      · exact ga.ok
      · exact gc.ok
    · refine wfE_nd.mpr ⟨trivial, fun e he => ?_⟩
      simp only [List.mem_cons, List.not_mem_nil, or_false] at he
      rcases he with rfl | rfl
      · exact ga.wf
      · exact gc.wf
    · rw [ub_nd, ubL, ubL, ubL, show Hd.binds (.lt x) 0 = [] from rfl, show Hd.binds (.lt x) (0 + 1) = [x] from rfl, List.append_nil, ga.ub, gc.ub]; rfl
    · have := ga.n
      have := gc.n
      rw [Ex.n, nL, nL, nL, show (Hd.lt x).bn = 1 from rfl, bnd]; omega
  | @«if» n sc o ds ho hl _ ih =>
    intro hs
    obtain ⟨es, rfl, h2, h3⟩ := pick_list fun d hd => ih d hd hs
    rw [List.length_map] at hl
    refine ⟨.nd (.iff o) es, by rw [Ex.d_nd]; rfl, good_plain (fun _ => rfl) rfl rfl (decide_eq_true hl) ?_ trivial (by omega) h3⟩
    rcases ho with rfl | rfl <;> decide +kernel
  | @op n sc o ds ho hl _ ih =>
    intro hs
    obtain ⟨es, rfl, h2, h3⟩ := pick_list fun d hd => ih d hd hs
    rw [List.length_map] at hl
    refine ⟨.nd (.op o) es, by rw [Ex.d_nd]; rfl, good_plain (fun _ => rfl) rfl rfl (decide_eq_true hl) ?_ trivial (by omega) h3⟩
    rcases ho with rfl | rfl | rfl <;> decide +kernel
  | one ho _ ih =>
    intro hs
    obtain ⟨a, rfl, ga⟩ := ih hs
    rcases ho with rfl | rfl
    · exact ⟨.nd .delay [a], by rw [Ex.d_nd]; rfl, good_plain (fun _ => rfl) rfl rfl rfl rfl trivial (by simp) fun e he => by rw [List.mem_singleton.mp he]; exact ga⟩
    · exact ⟨.nd .force [a], by rw [Ex.d_nd]; rfl, good_plain (fun _ => rfl) rfl rfl rfl rfl trivial (by simp) fun e he => by rw [List.mem_singleton.mp he]; exact ga⟩
end K10
end

/-! K10n -/
section
set_option Elab.async false
set_option linter.all false
set_option maxRecDepth 100000
set_option maxHeartbeats 4000000
namespace K10
open PySem PySem.Spec PyProof.Rows L2 Dh Px Pg
/-! ### programs without a fault -/
def PlOk (fs ts : List (Str × Nat)) : Pl → Prop
  | .nd (.nd h es) => wfHd fs ts es.length h
  | .br b _ => (b.1, b.2.length) ∈ ts ∧ b.2.Nodup
mutual
theorem wf_pre {fs ts : List (Str × Nat)} : ∀ e : Ex, wfE fs ts e → ∀ p ∈ pre e, PlOk fs ts p
  | .nd h es, z, p, hp => by
    obtain ⟨z1, z2⟩ := wfE_nd.mp z
    rw [pre] at hp
    rcases List.mem_cons.mp hp with rfl | hp
    · exact z1
    · exact wf_preL h es.length z1 0 es z2 p hp
theorem wf_preL {fs ts : List (Str × Nat)} (h : Hd) (n : Nat) (z : wfHd fs ts n h) : ∀ (i : Nat) (es : List Ex), (∀ e ∈ es, wfE fs ts e) → ∀ p ∈ preL h i es, PlOk fs ts p
  | _, [], _, p, hp => by rw [preL] at hp; cases hp
  | i, e :: es, zs, p, hp => by
    rw [preL] at hp
    rcases List.mem_append.mp hp with hp | hp
    · rcases List.mem_append.mp hp with hp | hp
      · cases h with
        | cas bs =>
          cases i with
          | zero => cases hp
          | succ i =>
            unfold Hd.brs at hp
            simp only at hp
            split at hp
            · rename_i b' hb'
              rw [List.mem_singleton.mp hp]
              exact z.2 _ (List.mem_of_getElem? hb')
            · cases hp
        | _ => cases hp
      · exact wf_pre e (zs e (by simp)) p hp
    · exact wf_preL h n z (i + 1) es (fun e he => zs e (by simp [he])) p hp
end
theorem fs_nil {α β : Type} {f : α → Option β} : ∀ {l : List α}, (∀ a ∈ l, f a = none) → l.findSome? f = none
  | [], _ => rfl
  | a :: l, h => by rw [fs_none (h a (by simp)), fs_nil fun x hx => h x (by simp [hx])]
structure Wel (fs ts : List (Str × Nat)) (rows : List Rw) : Prop where
  nd : (rows.map (·.1)).Nodup
  hfs : rows.map (fun r => (r.1, r.2.1.length)) = fs
  hts : (ts.map (·.1)).Nodup
  ps : ∀ r ∈ rows, r.2.1.Nodup
  wf : ∀ r ∈ rows, wfE fs ts r.2.2
section
variable {fs ts : List (Str × Nat)} {rows : List Rw}
theorem Wel.twice (h : Wel fs ts rows) : twiceF rows = none := firstRep_none.mpr ⟨h.nd, fun _ _ z => nomatch z⟩
theorem rep_none {ns : List Str} (h : ns.Nodup) : firstRep ns [] = none := firstRep_none.mpr ⟨h, fun _ _ z => nomatch z⟩
theorem param_row {e : Ex} (w : wfE fs ts e) : (brNames e).findSome? (fun ns => firstRep ns []) = none := by
  refine fs_nil fun ns hns => rep_none ?_
  unfold brNames at hns
  obtain ⟨p, hp, q⟩ := List.mem_filterMap.mp hns
  have := wf_pre e w p hp
  cases p with
  | br b x => cases q; exact this.2
  | nd x => cases q
theorem Wel.param (h : Wel fs ts rows) : paramF rows = none := by
  refine fs_nil fun r hr => ?_
  show Option.map _ ((r.2.1 :: brNames r.2.2).findSome? fun ns => firstRep ns []) = none
  rw [fs_none (f := fun ns => firstRep ns []) (rep_none (h.ps r hr)), param_row (h.wf r hr)]; rfl
theorem branch_row {e : Ex} (w : wfE fs ts e) : (pre e).findSome? brTag = none := by
  refine fs_nil fun p hp => ?_
  have := wf_pre e w p hp
  unfold brTag
  split
  · rename_i bs es
    exact rep_none this.1
  · rfl
theorem Wel.branch (h : Wel fs ts rows) : branchF rows = none := by
  refine fs_nil fun r hr => ?_
  show Option.map _ ((pre r.2.2).findSome? brTag) = none
  rw [branch_row (h.wf r hr)]; rfl
theorem cnt_from (f : Str) (n : Nat) : ∀ (rows : List Rw) (acc : Option Nat), (rows.map (·.1)).Nodup → (f, n) ∈ rows.map (fun r => (r.1, r.2.1.length)) → cntFrom f acc rows = some n
  | [], _, _, h => nomatch h
  | r :: rows, acc, nd, h => by
    rw [List.map_cons, List.nodup_cons] at nd
    show cntFrom f (if r.1 = f then some r.2.1.length else acc) rows = some n
    rw [List.map_cons] at h
    rcases List.mem_cons.mp h with h | h
    · cases h
      rw [if_pos rfl]
      have : ∀ (l : List Rw) (acc : Option Nat), r.1 ∉ l.map (·.1) → cntFrom r.1 acc l = acc := by
        intro l
        induction l with
        | nil => intro acc _; rfl
        | cons x l ih =>
          intro acc hx
          rw [List.map_cons, List.mem_cons] at hx
          show cntFrom r.1 (if x.1 = r.1 then some x.2.1.length else acc) l = acc
          rw [if_neg fun z => hx (.inl z.symm)]
          exact ih acc fun z => hx (.inr z)
      exact this rows _ nd.1
    · exact cnt_from f n rows _ nd.2 h
theorem Wel.cnt (h : Wel fs ts rows) {f : Str} {n : Nat} (hf : (f, n) ∈ fs) : cnt rows f = some n := cnt_from f n rows none h.nd (by rw [h.hfs]; exact hf)
theorem call_row {rows0 : List Rw} (hc : ∀ f n, (f, n) ∈ fs → cnt rows0 f = some n) {e : Ex} (w : wfE fs ts e) : (pre e).findSome? (callBad rows0) = none := by
  refine fs_nil fun p hp => ?_
  have := wf_pre e w p hp
  unfold callBad
  split
  · rename_i f es
    rw [if_pos (hc f es.length this)]
  · rfl
theorem Wel.call (h : Wel fs ts rows) : callF rows = none := by
  refine fs_nil fun r hr => ?_
  show Option.map _ ((pre r.2.2).findSome? (callBad rows)) = none
  rw [call_row (fun f n => h.cnt) (h.wf r hr)]; rfl
/-- sizes that agree with the signs -/
def SzOk (ts : List (Str × Nat)) (T : Szs) : Prop := ∀ p ∈ T, p ∈ ts
theorem look_in {t : Str} {m : Nat} : ∀ {T : Szs}, T.lookup t = some m → (t, m) ∈ T
  | [], h => by cases h
  | (a, b) :: T, h => by
    rw [List.lookup_cons] at h
    cases hh : t == a with
    | true =>
      rw [hh] at h
      cases h
      rw [eq_of_beq hh]; simp
    | false =>
      rw [hh] at h
      exact List.mem_cons_of_mem _ (look_in h)
theorem nd_fun {ts : List (Str × Nat)} : (ts.map (·.1)).Nodup → ∀ {t : Str} {m n : Nat}, (t, m) ∈ ts → (t, n) ∈ ts → m = n := by
  induction ts with
  | nil => intro _ _ _ _ h; cases h
  | cons p ts ih =>
    intro nd t m n h1 h2
    rw [List.map_cons, List.nodup_cons] at nd
    rcases List.mem_cons.mp h1 with h1 | h1
    · rcases List.mem_cons.mp h2 with h2 | h2
      · rw [← h1] at h2; cases h2; rfl
      · exact absurd (List.mem_map.mpr ⟨(t, n), h2, by rw [← h1]⟩) nd.1
    · rcases List.mem_cons.mp h2 with h2 | h2
      · exact absurd (List.mem_map.mpr ⟨(t, m), h1, by rw [← h2]⟩) nd.1
      · exact ih nd.2 h1 h2
theorem tag_run (nd : (ts.map (·.1)).Nodup) : ∀ (ps : List Pl) (T : Szs), (∀ p ∈ ps, PlOk fs ts p) → SzOk ts T → (tagRun ps T).2 = none ∧ SzOk ts (tagRun ps T).1
  | [], T, _, h => ⟨rfl, h⟩
  | p :: ps, T, hp, h => by
    have ip := hp p (by simp)
    have rest := fun T' => tag_run nd ps T' fun q hq => hp q (by simp [hq])
    rw [tagRun]
    cases hev : tagEv p with
    | none => exact rest T h
    | some tn =>
      obtain ⟨t, n⟩ := tn
      have inn : (t, n) ∈ ts := by
        unfold tagEv at hev
        split at hev
        · cases hev; exact ip
        · cases hev; exact ip.1
        · cases hev
      dsimp only
      cases hl : T.lookup t with
      | some m =>
        dsimp only
        have : m = n := nd_fun nd (h _ (look_in hl)) inn
        rw [if_pos this]
        exact rest T h
      | none =>
        dsimp only
        exact rest _ fun q hq => by
          rcases List.mem_append.mp hq with hq | hq
          · exact h q hq
          · rw [List.mem_singleton.mp hq]; exact inn
theorem tag_rows (nd : (ts.map (·.1)).Nodup) : ∀ (rs : List Rw) (T : Szs), (∀ r ∈ rs, wfE fs ts r.2.2) → SzOk ts T → tagRows rs T = none
  | [], _, _, _ => rfl
  | r :: rs, T, hw, h => by
    obtain ⟨h1, h2⟩ := tag_run (fs := fs) nd (pre r.2.2) T (wf_pre _ (hw r (by simp))) h
    rw [tagRows, h1]
    exact tag_rows nd rs _ (fun x hx => hw x (by simp [hx])) h2
theorem Wel.tag (h : Wel fs ts rows) : tagF rows = none := tag_rows h.hts rows [] h.wf fun _ z => nomatch z
/-- only what is bound nowhere is left -/
theorem fo_none {g : GF} {gs : List GF} {rows : List Rw} (h : g rows = .none) : firstOf (g :: gs) rows = firstOf gs rows := by
  rw [firstOf, h]; rfl
theorem Wel.fault (h : Wel fs ts rows) : faultG rows = gUnb rows := by
  have e1 : gTwice rows = .none := by unfold gTwice; rw [h.twice]; rfl
  have e2 : gParam rows = .none := by unfold gParam; rw [h.param]; rfl
  have e3 : gCall rows = .none := by unfold gCall; rw [h.call]; rfl
  have e4 : gTag rows = .none := by unfold gTag; rw [h.tag]; rfl
  have e5 : gBranch rows = .none := by unfold gBranch; rw [h.branch]; rfl
  unfold faultG
  rw [fo_none e1, fo_none e2, firstOf, fo_none e3, fo_none e4, fo_none e5]
  cases hn : isNone (gUnb rows) with
  | false => rw [if_neg (by decide)]
  | true =>
    rw [if_pos rfl]
    show PyData.none = _
    cases e : gUnb rows <;> first | rfl | (rw [e] at hn; cases hn)
end
end K10
end

/-! K10o -/
section
set_option Elab.async false
set_option linter.all false
set_option maxRecDepth 100000
set_option maxHeartbeats 4000000
namespace K10
open PySem PySem.Spec PyProof.Rows L2 Dh Px Pg
/-! ### a drawn program, called for as data -/
mutual
theorem tp_ac {K : PySem.W.Frag} {W : AS} {H : Hp} (n : ∀ a xs, H a = some (.tup xs) → ¬ W a) : ∀ (d : PyData) {v : V}, Tp H v d → Ac K W H v d
  | .none, _, h => by cases h; exact .non
  | .bool b, _, h => by cases h; exact .bl b
  | .int i, _, h => by cases h; exact .int i
  | .str x, _, h => by cases h; exact .str x
  | .tuple ds, _, h => by
    cases h with
    | tup h1 h3 => exact .tup h1 (n _ _ h1) (tpL_ac n ds h3)
theorem tpL_ac {K : PySem.W.Frag} {W : AS} {H : Hp} (n : ∀ a xs, H a = some (.tup xs) → ¬ W a) : ∀ (ds : List PyData) {vs : List V}, TpL H vs ds → AcL K W H vs ds
  | [], _, h => by cases h; exact .nil
  | d :: ds, _, h => by
    cases h with
    | cons h1 h2 => exact .cons (tp_ac n d h1) (tpL_ac n ds h2)
end
theorem dk_deck {H : Hp} {dk lf : Addr} (D : Dh.Dk H dk lf) : Px.Deck (IK.ks) H dk lf := by
  obtain ⟨kvs, h1, h2, h3, h4, h5, h6⟩ := D.d
  refine ⟨⟨kvs, h1, h2, h3, fun k hk => ?_⟩, D.l⟩
  have hk : k ∈ ([.inr "mixed", .inr "draws", .inr "fuel"] : List Key) := hk
  simp only [List.mem_cons, List.not_mem_nil, or_false] at hk
  rcases hk with rfl | rfl | rfl
  · exact h4
  · exact h5
  · exact h6
theorem deck_dk {H : Hp} {dk lf : Addr} (D : Px.Deck (IK.ks) H dk lf) : Dh.Dk H dk lf := by
  obtain ⟨kvs, h1, h2, h3, h4⟩ := D.d
  exact ⟨⟨kvs, h1, h2, h3, h4 (.inr "mixed") (by show _ ∈ ([.inr "mixed", .inr "draws", .inr "fuel"] : List Key); simp), h4 (.inr "draws") (by show _ ∈ ([.inr "mixed", .inr "draws", .inr "fuel"] : List Key); simp), h4 (.inr "fuel") (by show _ ∈ ([.inr "mixed", .inr "draws", .inr "fuel"] : List Key); simp)⟩, D.l⟩
/-- texts that are written -/
def cT : List Str → TA
  | [] => tNil
  | u :: us => tCons (tC (.str u)) (cT us)
theorem cT_go : ∀ (us : List Str) (σ : SS) (H : Hp) (Q : List V → Hp → Prop), Q (us.map V.str) H → cT us σ H Q
  | [], _, _, _, q => q
  | u :: us, σ, H, Q, q => cT_go us σ H _ q
/-- rows of a drawn program -/
structure Drawn (us tgs : List Str) (S : Sg) (rows : List Rw) : Prop where
  so : SgOk S
  nm : rows.map (·.1) = S.fs.map (·.1)
  row : ∀ r ∈ rows, (r.1, r.2.1.length) ∈ S.fs ∧ r.2.1.Nodup ∧ (∀ x ∈ r.2.1, x ∈ S.loc) ∧ Good S 6 r.2.1 r.2.2
  f1 : Fr us (S.fs.map (·.1) ++ S.loc)
  f2 : Fr tgs (S.ts.map (·.1))
  l1 : S.fs.length ≤ 5
  l2 : S.ts.length ≤ 4
  l3 : S.loc.length ≤ 6
theorem bnd_mono {m n : Nat} (h : m ≤ n) : bnd m ≤ bnd n := by
  induction h with
  | refl => exact Nat.le_refl _
  | step _ ih => rw [bnd]; omega
theorem rows_ex {S : Sg} (so : SgOk S) : ∀ {rows : List (Str × List Str × PyData)}, (∀ r ∈ rows, RowOk S r) → ∃ rs : List Rw, rows.map Dh.brD = rs.map rowD ∧ rs.map (·.1) = rows.map (·.1) ∧ ∀ r ∈ rs, (r.1, r.2.1.length) ∈ S.fs ∧ r.2.1.Nodup ∧ (∀ x ∈ r.2.1, x ∈ S.loc) ∧ Good S 6 r.2.1 r.2.2
  | [], _ => ⟨[], rfl, rfl, fun _ h => nomatch h⟩
  | r :: rows, h => by
    obtain ⟨h1, h2, h3, n, hn, g⟩ := h r (by simp)
    obtain ⟨e, he, ge⟩ := ge_ex so g h3
    obtain ⟨rs, e1, e2, e3⟩ := rows_ex so (rows := rows) fun x hx => h x (by simp [hx])
    refine ⟨(r.1, r.2.1, e) :: rs, ?_, by rw [List.map_cons, List.map_cons, e2], fun x hx => ?_⟩
    · rw [List.map_cons, List.map_cons, e1]
      show PyData.tuple [.str r.1, .tuple (r.2.1.map .str), r.2.2] :: _ = _
      rw [he]; rfl
    · rcases List.mem_cons.mp hx with rfl | hx
      · exact ⟨h1, h2, h3, ge.fit, ge.ok, ge.wf, ge.ub, Nat.le_trans ge.n (bnd_mono hn), ge.lc⟩
      · exact e3 x hx
def wProg (i : Nat) (us tgs : List Str) : PX := fun Γ Φ => Γ[i]? = some (some .deck) ∧ ∀ S rows, Drawn us tgs S rows → Φ (.v (progD rows)) Γ
def tProg (i : Nat) (us tgs : List Str) (n : Int) : TE := tCall spProg [] (fun _ _ _ => False) (tCons (tVar i) (tCons (tLst (cT us)) (tCons (tLst (cT tgs)) (tCons (tC (.int n)) tNil))))
theorem de_prog {C : Cc} (hi : C.ik = IK.ks) {i : Nat} {us tgs : List Str} {n : Int} (l1 : us.length ≤ 30) (l2 : tgs.length ≤ 30) (hn : n.natAbs < 2 ^ 30) : DE C (tProg i us tgs n) (wProg i us tgs) := by
  intro m f Γ σ H Q Φ off R w k
  obtain ⟨hg, w⟩ := w
  obtain ⟨x, hx, he⟩ := R.at hg
  cases R.e.ok _ _ _ he with
  | @deck dk Dc =>
    obtain ⟨lf, eU, Dp⟩ := Dc.deck
    rw [hi] at Dp
    have D0 := deck_dk Dp
    have s1 : us.length ≤ sizeLine := Nat.le_trans l1 (by decide)
    have s2 : tgs.length ≤ sizeLine := Nat.le_trans l2 (by decide)
    refine ⟨_, hx, ?_⟩
    refine cT_go us _ _ _ ⟨by rw [List.length_map]; exact s1, fun p hp => ?_⟩
    refine cT_go tgs _ _ _ ⟨by rw [List.length_map]; exact s2, fun q hq => ?_⟩
    have npq : p ≠ q := ne_of_none upd_same hq
    have D1 := D0.new (o := .lst (us.map V.str)) hp
    have D2 := D1.new (o := .lst (tgs.map V.str)) hq
    refine ⟨dk, lf, p, q, us, tgs, n, rfl, D2, D0.mem hp, D1.mem hq, npq, by rw [upd_ne npq]; exact upd_same, upd_same, l1, l2, hn, fun H' v S rows tp so nm rok f1 f2 hu ht a5 a4 a6 D' K' => ?_⟩
    obtain ⟨rs, e1, e2, e3⟩ := rows_ex so rok
    have kp : Dh.Kp C.U H H' := by
      intro b o hb nb
      rw [eU] at nb
      have bp : b ≠ p := ne_of_none hb hp
      have b1 : (upd H p (.lst (us.map V.str))) b = some o := by rw [upd_ne bp]; exact hb
      have bq : b ≠ q := ne_of_none b1 hq
      refine K' b o (by rw [upd_ne bq]; exact b1) fun z => ?_
      simp only [List.mem_cons, List.not_mem_nil, or_false] at z nb
      rcases z with z | z | z | z
      · exact nb (.inl z)
      · exact nb (.inr z)
      · exact bp z
      · exact bq z
    have hd : ∀ a, Dck C.ik C.U H a → Dck C.ik C.U H' a := by
      intro a Da
      obtain ⟨lf', eU', _⟩ := Da.deck
      rw [eU] at eU'
      cases eU'
      rw [hi, eU]
      exact (dk_deck D').dck
    have hth : ∀ b ∈ C.U, Th H' b := by
      intro b hb
      rw [eU] at hb
      obtain ⟨kvs, h1, _⟩ := D'.d
      obtain ⟨ls, h2, _⟩ := D'.l
      rcases List.mem_cons.mp hb with rfl | hb
      · exact ⟨_, h1, fun _ z => by cases z⟩
      · rw [List.mem_singleton.mp hb]; exact ⟨_, h2, fun _ z => by cases z⟩
    have R1 := R.kept kp hd hth
    refine k (.v (progD rs)) v Γ H' (w S rs ⟨so, e2.trans nm, e3, f1, f2, a5, a4, a6⟩) (R1.holdV off ?_)
    rw [e1] at tp
    refine tp_ac (fun a xs ha => ?_) _ tp
    rintro (z | ⟨j, d', z⟩)
    · obtain ⟨o, ho, hno⟩ := R1.e.tr a z
      rw [ha] at ho; cases ho; exact hno _ rfl
    · cases R1.e.ok _ _ _ z with
      | own ow =>
        obtain ⟨o, ho, hno⟩ := ow.there
        rw [ha] at ho; cases ho; exact hno _ rfl
end K10
end

/-! K10p -/
section
set_option Elab.async false
set_option linter.all false
set_option maxRecDepth 100000
set_option maxHeartbeats 8000000
namespace K10
open PySem PySem.Spec PyProof.Rows L2 Dh Px Pg
local macro_rules | `(tactic| walk_at "px") => `(tactic| repeat (first
  | refine yT ?_ | refine yF ?_ | refine ⟨_, rfl, ?_⟩ | refine ⟨_, _, rfl, rfl, ?_⟩ | refine ⟨_, _, rfl, ?_⟩
  | refine ⟨_, _, rfl, isi (.tuple _), ?_⟩ | refine ⟨_, _, rfl, isi (.str _), ?_⟩ | refine ⟨_, _, rfl, isi (.int _), ?_⟩ | refine ⟨_, _, rfl, isi (.bool _), ?_⟩
  | refine pix_word ?_ | refine ⟨⟨_, rfl⟩, ?_⟩ | refine ⟨True.intro, ?_⟩ | refine ⟨rfl, ?_⟩ | refine ⟨(Nat.le_of_ble_eq_true rfl : _ ≤ sizeLine), ?_⟩))
theorem room70 {k : Nat} {A : Around} (r : Room k A) : A.units + 70 < cLine := by have := r.un; omega
theorem room65 {k : Nat} {A : Around} (r : Room k A) : A.units + 65 < cLine := by have := r.un; omega
/-- a draw, as data -/
theorem draw_D {P : Program} {w : World} {K : PySem.W.Frag} {mg : Str → Option Value} {base : Heap} {f : Addr} {fd : FuncData} (F : FnOk P w K mg base CX0 1 f fd ["deck", "many"] spDraw) : FnG P w K mg base CX0 1 f fd ["deck", "many"] (spD K IK.ks fDraw) := by
  refine Px.FnG.weaken (Dh.FnOk.toG F) fun vs H Q E h => ?_
  obtain ⟨dk, lf, m, e, D, m1, m2, k⟩ := draw_data h
  exact ⟨dk, lf, m, e, deck_dk D, m1, m2, fun H' i D' k' i0 i1 => k H' i (dk_deck D') k' i0 i1⟩
def fPick : PF := fun Δ Ψ => ∃ (c : Px.D) (ds : List PyData), Δ = [.deck, c] ∧ (c = .v (.tuple ds) ∨ c = .v (.list ds) ∨ c = .ro (.list ds)) ∧ 1 ≤ ds.length ∧ ds.length ≤ 1000 ∧ ∀ d ∈ ds, Ψ (.v d)
theorem atI_pick {ds : List PyData} {i : Int} (h0 : 0 ≤ i) (h1 : i < ds.length) : ∃ d ∈ ds, atI ds i = some d := by
  unfold atI ixN
  rw [if_pos h0, if_pos h1]
  have l : i.toNat < ds.length := by omega
  exact ⟨ds[i.toNat], List.getElem_mem l, List.getElem?_eq_getElem l⟩
section
variable {P : Program} {w : World} {K : PySem.W.Frag} {mg : Str → Option Value} {base : Heap}
abbrev s_lawPick : Stmt := top 49
abbrev n_lawPick : List Str := ["deck", "some"]
theorem sc_lawPick : FnScope n_lawPick ["deck", "some"] (defScope s_lawPick) := ⟨rfl, rfl, rfl, by decide +kernel, rfl, by decide +kernel, by decide +kernel⟩
theorem ok_lawPick {f : Addr} {fd : FuncData} (F : Fun K "_law_pick" "_law_pick" s_lawPick f fd) (T : Blt mg) {f_0 : Addr} {fd_0 : FuncData} (D_law_draw : DfD P w K mg base "_law_draw" 1 f_0 fd_0 ["deck", "many"] fDraw) : FnG P w K mg base CX0 2 f fd ["deck", "some"] (spD K IK.ks fPick) := by
  have sc := sc_lawPick
  refine FnG.data F sc (by decide) (fun Δ Ψ h => by first | (obtain ⟨rfl, _⟩ := h; rfl) | (obtain ⟨_, rfl, _⟩ := h; rfl) | (obtain ⟨_, _, rfl, _⟩ := h; rfl) | (obtain ⟨_, _, _, rfl, _⟩ := h; rfl) | (obtain ⟨_, _, _, _, rfl, _⟩ := h; rfl) | (obtain ⟨_, _, _, _, _, rfl, _⟩ := h; rfl)) (fun cdv A outer s H E Δ Ψ noG hr h => ?_)
  obtain ⟨c, ds, rfl, hc, l1, l2, k⟩ := h
  refine ⟨_, _, (xss_one (xs_ret (xe_ix (xe_var (pv 1)) (xe_call D_law_draw.ok noG (hr.mono (by decide)) (by rfl) D_law_draw.m D_law_draw.k D_law_draw.b (xp_cons (xe_var (pv 0)) (xp_cons (xe_CB (xr_cons (xe_var (pv 1)) xr_nil) (fun _ p => pe_callB call_len (by rfl) T.len (by decide +kernel) p) PLen) xp_nil))) (fun _ _ => rfl)))), ?_⟩
  rcases hc with rfl | rfl | rfl
  all_goals
    walk_at "px"
    refine ⟨by omega, by omega, fun i i0 i1 => ?_⟩
    obtain ⟨d, hd, e⟩ := atI_pick i0 i1
    walk_at "px"
    refine ⟨d, e, ?_⟩
    walk_at "px"
    exact k d hd
end
end K10
end

/-! K10v -/
section
set_option Elab.async false
set_option linter.all false
set_option maxRecDepth 100000
set_option maxHeartbeats 4000000
namespace K10
open PySem PySem.Spec PyProof.Rows L2 Dh Px Pg
/-! ### a drawn program, the names in use in a list of one's own -/
def wProgV (i j : Nat) (us tgs : List Str) : PX := fun Γ Φ => Γ[i]? = some (some .deck) ∧ Γ[j]? = some (some (.own (.list (us.map .str)))) ∧
  ∀ S rows, Drawn us tgs S rows → Φ (.v (progD rows)) (Γ.set j (some (.own (.list ((us ++ (S.fs.map (·.1) ++ S.loc)).map .str)))))
def tProgV (i j : Nat) (tgs : List Str) (n : Int) : TE := tCall spProg [] (fun _ _ _ => False) (tCons (tVar i) (tCons (tVar j) (tCons (tLst (cT tgs)) (tCons (tC (.int n)) tNil))))
theorem de_progV {C : Cc} (hi : C.ik = IK.ks) {i j : Nat} {us tgs : List Str} {n : Int} (l1 : us.length ≤ 30) (l2 : tgs.length ≤ 30) (hn : n.natAbs < 2 ^ 30) : DE C (tProgV i j tgs n) (wProgV i j us tgs) := by
  intro m f Γ σ H Q Φ off R w k
  obtain ⟨hg, hgu, w⟩ := w
  obtain ⟨x, hx, he⟩ := R.at hg
  obtain ⟨xu, hxu, heu⟩ := R.at hgu
  cases R.e.ok _ _ _ heu with
  | @own _ a owu =>
  cases owu with
  | @lst xs ds ha hs =>
  obtain rfl := AcL.strs us hs
  cases R.e.ok _ _ _ he with
  | @deck dk Dc =>
    obtain ⟨lf, eU, Dp⟩ := Dc.deck
    rw [hi] at Dp
    have D0 := deck_dk Dp
    have s2 : tgs.length ≤ sizeLine := Nat.le_trans l2 (by decide)
    have aU : a ∉ C.U := fun z => (R.e.ap _ _ _ heu).1 (R.e.uM _ z)
    refine ⟨_, hx, _, hxu, ?_⟩
    refine cT_go tgs _ _ _ ⟨by rw [List.length_map]; exact s2, fun q hq => ?_⟩
    have naq : a ≠ q := ne_of_none ha hq
    have D2 := D0.new (o := .lst (tgs.map V.str)) hq
    refine ⟨dk, lf, a, q, us, tgs, n, rfl, D2, by rw [← eU]; exact aU, D0.mem hq, naq, by rw [upd_ne naq]; exact ha, upd_same, l1, l2, hn, fun H' v S rows tp so nm rok f1 f2 hu ht a5 a4 a6 D' K' => ?_⟩
    obtain ⟨rs, e1, e2, e3⟩ := rows_ex so rok
    have R0 := R.put (d' := .list ((us ++ (S.fs.map (·.1) ++ S.loc)).map .str)) (o := .lst ((us ++ (S.fs.map (·.1) ++ S.loc)).map V.str)) hgu hxu fun W H'' t e => .lst e (AcL.ofStrs _)
    have kp : Dh.Kp C.U (upd H a (.lst ((us ++ (S.fs.map (·.1) ++ S.loc)).map V.str))) H' := by
      intro b o hb nb
      by_cases ba : b = a
      · subst ba
        rw [upd_same] at hb
        cases hb
        exact hu
      rw [upd_ne ba] at hb
      rw [eU] at nb
      have bq : b ≠ q := ne_of_none hb hq
      refine K' b o (by rw [upd_ne bq]; exact hb) fun z => ?_
      simp only [List.mem_cons, List.not_mem_nil, or_false] at z nb
      rcases z with z | z | z | z
      · exact nb (.inl z)
      · exact nb (.inr z)
      · exact ba z
      · exact bq z
    have hd : ∀ x, Dck C.ik C.U (upd H a (.lst ((us ++ (S.fs.map (·.1) ++ S.loc)).map V.str))) x → Dck C.ik C.U H' x := by
      intro x Da
      obtain ⟨lf', eU', _⟩ := Da.deck
      rw [eU] at eU'
      cases eU'
      rw [hi, eU]
      exact (dk_deck D').dck
    have hth : ∀ b ∈ C.U, Th H' b := by
      intro b hb
      rw [eU] at hb
      obtain ⟨kvs, h1, _⟩ := D'.d
      obtain ⟨ls, h2, _⟩ := D'.l
      rcases List.mem_cons.mp hb with rfl | hb
      · exact ⟨_, h1, fun _ z => by cases z⟩
      · rw [List.mem_singleton.mp hb]; exact ⟨_, h2, fun _ z => by cases z⟩
    have R1 := R0.kept kp hd hth
    refine k (.v (progD rs)) v _ H' (w S rs ⟨so, e2.trans nm, e3, f1, f2, a5, a4, a6⟩) (R1.holdV off ?_)
    rw [e1] at tp
    refine tp_ac (fun a xs ha => ?_) _ tp
    rintro (z | ⟨j, d', z⟩)
    · obtain ⟨o, ho, hno⟩ := R1.e.tr a z
      rw [ha] at ho; cases ho; exact hno _ rfl
    · cases R1.e.ok _ _ _ z with
      | own ow =>
        obtain ⟨o, ho, hno⟩ := ow.there
        rw [ha] at ho; cases ho; exact hno _ rfl
theorem xe_progV {X : Cx} {e : Expr} {i j : Nat} {us tgs : List Str} {n : Int} (h : PE X e (tProgV i j tgs n)) (l1 : us.length ≤ 30 := by decide) (l2 : tgs.length ≤ 30 := by decide) (hn : n.natAbs < 2 ^ 30 := by decide) : XE X e (tProgV i j tgs n) (wProgV i j us tgs) :=
  ⟨h, fun C hK => de_progV hK.i l1 l2 hn⟩
end K10
end

/-! K10t -/
section
set_option Elab.async false
set_option linter.all false
set_option maxRecDepth 100000
set_option maxHeartbeats 4000000
namespace K10
open PySem PySem.Spec PyProof.Rows L2 Dh Px Pg
/-! ### bodies in parts -/
inductive Prt : Ex → List Ex → Prop
  | one (e : Ex) : Prt e [e]
  | op {s : Str} {a b : Ex} {as bs : List Ex} : Prt a as → Prt b bs → Prt (.nd (.op s) [a, b]) (as ++ bs)
theorem pre_op (s : Str) (a b : Ex) : pre (.nd (.op s) [a, b]) = .nd (.nd (.op s) [a, b]) :: (pre a ++ pre b) := by
  rw [pre, preL, preL, preL]
  simp [Hd.brs]
def evs (e : Ex) : List (Str × Nat) := (pre e).filterMap tagEv
theorem Prt.ub {e : Ex} {es : List Ex} (h : Prt e es) (sc : List Str) : Pg.ub e sc = es.flatMap fun x => Pg.ub x sc := by
  induction h with
  | one e => simp
  | op _ _ ih1 ih2 =>
    rw [ub_nd, ubL, ubL, ubL, show (Hd.op _).binds 0 = [] from rfl, show (Hd.op _).binds (0 + 1) = [] from rfl, List.append_nil, List.append_nil, ih1, ih2, List.flatMap_append]
    rfl
theorem Prt.names {e : Ex} {es : List Ex} (h : Prt e es) : brNames e = es.flatMap brNames := by
  induction h with
  | one e => simp
  | op _ _ ih1 ih2 =>
    rw [List.flatMap_append, ← ih1, ← ih2]
    unfold brNames
    rw [pre_op, List.filterMap_cons, List.filterMap_append]
theorem Prt.evs {e : Ex} {es : List Ex} (h : Prt e es) : K10.evs e = es.flatMap K10.evs := by
  induction h with
  | one e => simp
  | op _ _ ih1 ih2 =>
    rw [List.flatMap_append, ← ih1, ← ih2]
    unfold K10.evs
    rw [pre_op, List.filterMap_cons, List.filterMap_append]
    rfl
theorem fs_flat {α β γ : Type} (f : α → List β) (g : β → Option γ) : ∀ l : List α, (l.flatMap f).findSome? g = l.findSome? fun a => (f a).findSome? g
  | [] => rfl
  | a :: l => by
    rw [List.flatMap_cons, List.findSome?_append, List.findSome?_cons, fs_flat f g l]
    cases (f a).findSome? g <;> rfl
theorem Prt.find {e : Ex} {es : List Ex} (h : Prt e es) {g : Pl → Option Str} (hg : ∀ s xs, g (.nd (.nd (.op s) xs)) = none) : (pre e).findSome? g = es.findSome? fun x => (pre x).findSome? g := by
  induction h with
  | one e => rw [List.findSome?_cons, List.findSome?_nil]; cases (pre e).findSome? g <;> rfl
  | op _ _ ih1 ih2 =>
    rw [pre_op, List.findSome?_cons, hg, List.findSome?_append, List.findSome?_append, ih1, ih2]
abbrev PR := Str × List Str × List Ex
inductive PrtL : List Rw → List PR → Prop
  | nil : PrtL [] []
  | cons {f : Str} {ps : List Str} {e : Ex} {es : List Ex} {rs : List Rw} {qs : List PR} : Prt e es → PrtL rs qs → PrtL ((f, ps, e) :: rs) ((f, ps, es) :: qs)
def gpar (p : PR) : Option Str := (firstRep p.2.1 []).or (p.2.2.findSome? fun e => (brNames e).findSome? fun ns => firstRep ns [])
def gunb (p : PR) : Option Str := p.2.2.findSome? fun e => (Pg.ub e p.2.1).head?
def gcal (rows : List Rw) (p : PR) : Option Str := p.2.2.findSome? fun e => (pre e).findSome? (callBad rows)
def gbra (p : PR) : Option Str := p.2.2.findSome? fun e => (pre e).findSome? brTag
def over (g : PR → Option Str) (ps : List PR) : Option (Str × Str) := ps.findSome? fun p => (g p).map fun x => (p.1, x)
theorem head_flat {α β : Type} (f : α → List β) : ∀ l : List α, (l.flatMap f).head? = l.findSome? fun a => (f a).head?
  | [] => rfl
  | a :: l => by
    rw [List.flatMap_cons, List.findSome?_cons, ← head_flat f l]
    cases f a <;> simp
theorem over_cons (g : PR → Option Str) (p : PR) (ps : List PR) : over g (p :: ps) = ((g p).map fun x => (p.1, x)).or (over g ps) := by
  unfold over
  rw [List.findSome?_cons]
  cases g p <;> rfl
section
variable {rows : List Rw} {qs : List PR}
theorem fs_cons {α β : Type} (f : α → Option β) (a : α) (l : List α) : (a :: l).findSome? f = (f a).or (l.findSome? f) := by
  rw [List.findSome?_cons]
  cases f a <;> rfl
theorem PrtL.par (h : PrtL rows qs) : paramF rows = over gpar qs := by
  induction h with
  | nil => rfl
  | cons p _ ih =>
    unfold paramF at ih ⊢
    rw [fs_cons, ih, over_cons]
    congr 1
    show Option.map _ ((_ :: brNames _).findSome? fun ns => firstRep ns []) = _
    rw [fs_cons, p.names, fs_flat]; rfl
theorem PrtL.unb (h : PrtL rows qs) : unbF rows = over gunb qs := by
  induction h with
  | nil => rfl
  | cons p _ ih =>
    unfold unbF at ih ⊢
    rw [fs_cons, ih, over_cons]
    congr 1
    show Option.map _ (Pg.ub _ _).head? = _
    rw [p.ub, head_flat]; rfl
theorem PrtL.cal (h : PrtL rows qs) (rows0 : List Rw) : (rows.findSome? fun r => ((pre r.2.2).findSome? (callBad rows0)).map fun x => (r.1, x)) = over (gcal rows0) qs := by
  induction h with
  | nil => rfl
  | cons p _ ih =>
    rw [fs_cons, ih, over_cons]
    congr 1
    show Option.map _ ((pre _).findSome? _) = _
    rw [p.find fun _ _ => rfl]; rfl
theorem PrtL.bra (h : PrtL rows qs) : branchF rows = over gbra qs := by
  induction h with
  | nil => rfl
  | cons p _ ih =>
    unfold branchF at ih ⊢
    rw [fs_cons, ih, over_cons]
    congr 1
    show Option.map _ ((pre _).findSome? _) = _
    rw [p.find fun _ _ => rfl]; rfl
end
/-! ### tags -/
def evRun : List (Str × Nat) → Szs → Szs × Option Str
  | [], T => (T, none)
  | (t, n) :: es, T => match T.lookup t with
    | some m => if m = n then evRun es T else (T, some t)
    | none => evRun es (T ++ [(t, n)])
theorem run_ev : ∀ (ps : List Pl) (T : Szs), tagRun ps T = evRun (ps.filterMap tagEv) T
  | [], T => rfl
  | p :: ps, T => by
    rw [tagRun, List.filterMap_cons]
    cases h : tagEv p with
    | none => exact run_ev ps T
    | some q =>
      obtain ⟨t, n⟩ := q
      dsimp only
      rw [evRun]
      cases hl : T.lookup t with
      | none => exact run_ev ps _
      | some m =>
        dsimp only
        split
        · exact run_ev ps T
        · rfl
theorem look_app {t : Str} : ∀ {T U : Szs}, (T ++ U).lookup t = (T.lookup t).or (U.lookup t)
  | [], U => by simp
  | (a, n) :: T, U => by
    rw [List.cons_append, List.lookup_cons, List.lookup_cons]
    cases t == a with
    | true => rfl
    | false => exact look_app
/-- what is known stays known -/
def Knows (T : Szs) (q : Str × Nat) : Prop := T.lookup q.1 = some q.2
theorem run_clean {ts : Szs} (nd : (ts.map (·.1)).Nodup) : ∀ (es : List (Str × Nat)) (T : Szs), (∀ q ∈ es, q ∈ ts) → SzOk ts T →
    ∃ T', evRun es T = (T', none) ∧ SzOk ts T' ∧ (∀ q, Knows T q → Knows T' q) ∧ ∀ q ∈ es, Knows T' q
  | [], T, _, h => ⟨T, rfl, h, fun _ z => z, fun _ z => nomatch z⟩
  | (t, n) :: es, T, he, h => by
    have tn := he (t, n) (by simp)
    rw [evRun]
    cases hl : T.lookup t with
    | some m =>
      have mn : m = n := nd_fun nd (h _ (look_in hl)) tn
      obtain ⟨T', e1, e2, e3, e4⟩ := run_clean nd es T (fun q hq => he q (by simp [hq])) h
      refine ⟨T', by dsimp only; rw [if_pos mn]; exact e1, e2, e3, fun q hq => ?_⟩
      rcases List.mem_cons.mp hq with rfl | hq
      · exact e3 _ (by show T.lookup t = some n; rw [hl, mn])
      · exact e4 q hq
    | none =>
      obtain ⟨T', e1, e2, e3, e4⟩ := run_clean nd es (T ++ [(t, n)]) (fun q hq => he q (by simp [hq])) (fun q hq => by
        rcases List.mem_append.mp hq with hq | hq
        · exact h q hq
        · rw [List.mem_singleton.mp hq]; exact tn)
      refine ⟨T', e1, e2, fun q hq => e3 q ?_, fun q hq => ?_⟩
      · show (T ++ [(t, n)]).lookup q.1 = some q.2
        rw [look_app, show T.lookup q.1 = some q.2 from hq]; rfl
      · rcases List.mem_cons.mp hq with rfl | hq
        · refine e3 _ ?_
          show (T ++ [(t, n)]).lookup t = some n
          rw [look_app, hl]; simp
        · exact e4 q hq
theorem run_app : ∀ (as bs : List (Str × Nat)) (T : Szs), evRun (as ++ bs) T = match (evRun as T).2 with | none => evRun bs (evRun as T).1 | some t => evRun as T
  | [], bs, T => rfl
  | (t, n) :: as, bs, T => by
    rw [List.cons_append, evRun, evRun]
    cases T.lookup t with
    | none => exact run_app as bs _
    | some m =>
      dsimp only
      split
      · exact run_app as bs T
      · rfl
/-- a part: clean, or with a first tag that doesn't agree with what is known -/
inductive TagP (ts : Szs) (kn : Str × Nat → Prop) : Ex → Option Str → Prop
  | ok {e : Ex} : (∀ q ∈ evs e, q ∈ ts) → TagP ts kn e none
  | bad {e : Ex} {z : Str} {n m : Nat} {C R : List (Str × Nat)} : evs e = C ++ (z, m) :: R → (∀ q ∈ C, q ∈ ts) → n ≠ m → ((z, n) ∈ C ∨ kn (z, n)) → TagP ts kn e (some z)
theorem parts_run {ts : Szs} (nd : (ts.map (·.1)).Nodup) {kn : Str × Nat → Prop} {tl : Ex → Option Str} : ∀ (es : List Ex) (T : Szs), (∀ e ∈ es, TagP ts kn e (tl e)) → SzOk ts T → (∀ q, kn q → Knows T q) →
    (evRun (es.flatMap evs) T).2 = es.findSome? tl ∧ (es.findSome? tl = none → SzOk ts (evRun (es.flatMap evs) T).1 ∧ ∀ q, Knows T q → Knows (evRun (es.flatMap evs) T).1 q)
  | [], T, _, h, _ => ⟨rfl, fun _ => ⟨h, fun _ z => z⟩⟩
  | e :: es, T, he, h, hk => by
    rw [List.flatMap_cons, run_app, fs_cons]
    have p := he e (by simp)
    cases ht : tl e with
    | none =>
      rw [ht] at p
      cases p with
      | ok p =>
        obtain ⟨T', e1, e2, e3, _⟩ := run_clean nd (evs e) T p h
        obtain ⟨r1, r2⟩ := parts_run (tl := tl) nd es T' (fun x hx => he x (by simp [hx])) e2 fun q hq => e3 q (hk q hq)
        rw [e1]
        exact ⟨r1, fun z => ⟨(r2 z).1, fun q hq => (r2 z).2 q (e3 q hq)⟩⟩
    | some z =>
      rw [ht] at p
      cases p with
      | @bad _ n m C R ee hc hn hz =>
        obtain ⟨T', e1, e2, e3, e4⟩ := run_clean nd C T hc h
        have hl : T'.lookup z = some n := by
          rcases hz with hz | hz
          · exact e4 _ hz
          · exact e3 _ (hk _ hz)
        have : (evRun (evs e) T).2 = some z := by
          rw [ee, run_app, e1]
          dsimp only
          rw [evRun, hl]
          dsimp only
          rw [if_neg hn]
        rw [this]
        exact ⟨this, fun q => nomatch q⟩
theorem PrtL.tag {ts : Szs} (nd : (ts.map (·.1)).Nodup) {kn : Str × Nat → Prop} {tl : Ex → Option Str} {rows : List Rw} {qs : List PR} (h : PrtL rows qs) : ∀ T : Szs, (∀ q ∈ qs, ∀ e ∈ q.2.2, TagP ts kn e (tl e)) → SzOk ts T → (∀ q, kn q → Knows T q) →
    tagRows rows T = over (fun p => p.2.2.findSome? tl) qs := by
  induction h with
  | nil => intro T _ _ _; rfl
  | @cons f ps e es rs qs p _ ih =>
    intro T hp hT hk
    obtain ⟨r1, r2⟩ := parts_run (tl := tl) nd es T (fun x hx => hp (f, ps, es) (by simp) x hx) hT hk
    rw [tagRows, run_ev]
    rw [show (pre (f, ps, e).2.2).filterMap tagEv = es.flatMap evs from p.evs, r1, over_cons]
    dsimp only
    cases hf : es.findSome? tl with
    | none =>
      obtain ⟨s1, s2⟩ := r2 hf
      exact ih _ (fun q hq => hp q (by simp [hq])) s1 fun q hq => s2 q (hk q hq)
    | some z => rfl
end K10
end

/-! K10u -/
section
set_option Elab.async false
set_option linter.all false
set_option maxRecDepth 100000
set_option maxHeartbeats 4000000
namespace K10
open PySem PySem.Spec PyProof.Rows L2 Dh Px Pg
/-! ### the kinds of faults, in their order -/
inductive Kn where
  | par | unb | cal | tag | bra
deriving DecidableEq
def Kn.w : Kn → Str
  | .par => "parameter"
  | .unb => "unbound"
  | .cal => "call"
  | .tag => "tag"
  | .bra => "branch"
def Kn.all : List Kn := [.par, .unb, .cal, .tag, .bra]
def locK (rows : List Rw) (tl : Ex → Option Str) (ps : List Str) : Kn → Ex → Option Str
  | .par, e => (brNames e).findSome? fun ns => firstRep ns []
  | .unb, e => (Pg.ub e ps).head?
  | .cal, e => (pre e).findSome? (callBad rows)
  | .tag, e => tl e
  | .bra, e => (pre e).findSome? brTag
def preK : Kn → List Str → Option Str
  | .par, ps => firstRep ps []
  | _, _ => none
def gK (rows : List Rw) (tl : Ex → Option Str) (k : Kn) (p : PR) : Option Str := (preK k p.2.1).or (p.2.2.findSome? (locK rows tl p.2.1 k))
def firstK : List (Str × Option (Str × Str)) → PyData
  | [] => .none
  | (_, none) :: r => firstK r
  | (w, some z) :: _ => faultD w (some z)
theorem first_of : ∀ (gs : List (GF × Str × Option (Str × Str))) (rows : List Rw), (∀ g ∈ gs, g.1 rows = faultD g.2.1 g.2.2) → firstOf (gs.map (·.1)) rows = firstK (gs.map (·.2))
  | [], _, _ => rfl
  | (g, w, o) :: gs, rows, h => by
    have h1 := h (g, w, o) (by simp)
    have h2 := first_of gs rows fun x hx => h x (by simp [hx])
    rw [List.map_cons, List.map_cons, firstOf]
    dsimp only at h1 ⊢
    have key : ∀ x : PyData, x = faultD w o → (if isNone x = true then firstOf (gs.map (·.1)) rows else x) = firstK ((w, o) :: gs.map (·.2)) := by
      intro x hx
      subst hx
      cases o with
      | none => rw [if_pos (show isNone (faultD w none) = true from rfl), h2]; rfl
      | some z => rw [if_neg (show ¬ isNone (faultD w (some z)) = true from Bool.false_ne_true)]; rfl
    exact key _ h1
theorem fault_parts {ts : Szs} (nd : (ts.map (·.1)).Nodup) {tl : Ex → Option Str} {rows : List Rw} {qs : List PR} (h : PrtL rows qs) (two : (rows.map (·.1)).Nodup) (ht : tagF rows = over (fun p => p.2.2.findSome? tl) qs) :
    faultG rows = firstK (Kn.all.map fun k => (k.w, over (gK rows tl k) qs)) := by
  have e1 : gTwice rows = .none := by
    unfold gTwice
    rw [show twiceF rows = none from firstRep_none.mpr ⟨two, fun _ _ z => nomatch z⟩]; rfl
  unfold faultG
  rw [fo_none e1]
  have nn : ∀ (k : Kn), k ≠ .par → ∀ (f : PR → Option Str), (∀ p : PR, f p = p.2.2.findSome? (locK rows tl p.2.1 k)) → over f qs = over (gK rows tl k) qs := by
    intro k hk f hf
    have : f = gK rows tl k := by
      funext p
      rw [hf]
      unfold gK
      cases k with
      | par => exact absurd rfl hk
      | _ => rfl
    rw [this]
  refine first_of [(gParam, Kn.par.w, over (gK rows tl .par) qs), (gUnb, Kn.unb.w, over (gK rows tl .unb) qs), (gCall, Kn.cal.w, over (gK rows tl .cal) qs), (gTag, Kn.tag.w, over (gK rows tl .tag) qs), (gBranch, Kn.bra.w, over (gK rows tl .bra) qs)] rows fun g hg => ?_
  simp only [List.mem_cons, List.not_mem_nil, or_false] at hg
  rcases hg with rfl | rfl | rfl | rfl | rfl
  · show faultD "parameter" (paramF rows) = _
    rw [h.par]; rfl
  · show faultD "unbound" (unbF rows) = _
    rw [h.unb, ← nn .unb (by decide) gunb fun _ => rfl]; rfl
  · show faultD "call" (callF rows) = _
    rw [show callF rows = over (gcal rows) qs from h.cal rows, ← nn .cal (by decide) (gcal rows) fun _ => rfl]; rfl
  · show faultD "tag" (tagF rows) = _
    rw [ht, ← nn .tag (by decide) (fun p => p.2.2.findSome? tl) fun _ => rfl]; rfl
  · show faultD "branch" (branchF rows) = _
    rw [h.bra, ← nn .bra (by decide) gbra fun _ => rfl]; rfl
/-! ### rows that are changed -/
theorem over_none {g : PR → Option Str} {l : List PR} (h : ∀ p ∈ l, g p = none) : over g l = none := fs_nil fun p hp => by rw [h p hp]; rfl
theorem over_set {g : PR → Option Str} : ∀ {l : List PR} {i : Nat} {r : PR}, (∀ p ∈ l, g p = none) → i < l.length → over g (l.set i r) = (g r).map fun x => (r.1, x)
  | p :: l, 0, r, h, _ => by
    rw [List.set_cons_zero, over_cons, over_none fun p hp => h p (by simp [hp])]
    cases (g r) <;> rfl
  | p :: l, i + 1, r, h, hi => by
    rw [List.set_cons_succ, over_cons, h p (by simp), over_set (fun p hp => h p (by simp [hp])) (by simpa using hi)]; rfl
theorem over_set2 {g : PR → Option Str} : ∀ {l : List PR} {i j : Nat} {r s : PR}, (∀ p ∈ l, g p = none) → i < l.length → j < l.length → i ≠ j →
    over g ((l.set i r).set j s) = if i < j then ((g r).map fun x => (r.1, x)).or ((g s).map fun x => (s.1, x)) else ((g s).map fun x => (s.1, x)).or ((g r).map fun x => (r.1, x))
  | p :: l, 0, 0, r, s, h, _, _, n => absurd rfl n
  | p :: l, 0, j + 1, r, s, h, _, hj, _ => by
    rw [List.set_cons_zero, List.set_cons_succ, over_cons, over_set (fun p hp => h p (by simp [hp])) (by simpa using hj), if_pos (by omega)]
  | p :: l, i + 1, 0, r, s, h, hi, _, _ => by
    rw [List.set_cons_succ, List.set_cons_zero, over_cons, over_set (fun p hp => h p (by simp [hp])) (by simpa using hi), if_neg (by omega)]
  | p :: l, i + 1, j + 1, r, s, h, hi, hj, n => by
    rw [List.set_cons_succ, List.set_cons_succ, over_cons, h p (by simp), over_set2 (fun p hp => h p (by simp [hp])) (by simpa using hi) (by simpa using hj) (by omega)]
    by_cases q : i < j
    · rw [if_pos q, if_pos (by omega)]; rfl
    · rw [if_neg q, if_neg (by omega)]; rfl
theorem PrtL.set {rows : List Rw} {qs : List PR} (h : PrtL rows qs) : ∀ {i : Nat} {f : Str} {ps : List Str} {e : Ex} {es : List Ex}, Prt e es → PrtL (rows.set i (f, ps, e)) (qs.set i (f, ps, es)) := by
  induction h with
  | nil => intro i f ps e es _; exact .nil
  | cons p r ih =>
    intro i f ps e es q
    cases i with
    | zero => exact .cons q r
    | succ i => exact .cons p (ih q)
theorem PrtL.len {rows : List Rw} {qs : List PR} (h : PrtL rows qs) : rows.length = qs.length := by
  induction h with
  | nil => rfl
  | cons _ _ ih => rw [List.length_cons, List.length_cons, ih]
theorem PrtL.at {rows : List Rw} {qs : List PR} (h : PrtL rows qs) : ∀ {i : Nat} (hi : i < rows.length) (hq : i < qs.length), rows[i].1 = qs[i].1 ∧ rows[i].2.1 = qs[i].2.1 ∧ Prt rows[i].2.2 qs[i].2.2 := by
  induction h with
  | nil => intro i hi _; exact absurd hi (Nat.not_lt_zero _)
  | cons p r ih =>
    intro i hi hq
    cases i with
    | zero => exact ⟨rfl, rfl, p⟩
    | succ i => exact ih (by simpa using hi) (by simpa using hq)
def bp (rows : List Rw) : List PR := rows.map fun r => (r.1, r.2.1, [r.2.2])
theorem bp_prt : ∀ rows : List Rw, PrtL rows (bp rows)
  | [] => .nil
  | (f, ps, e) :: rows => .cons (.one e) (bp_prt rows)
/-- an expression put ahead of a body, or behind it -/
def opE (a b : Ex) : Ex := .nd (.op "+") [a, b]
def wrapR (r : Rw) (e : Ex) (b : Bool) : Rw := (r.1, r.2.1, if b = true then opE e r.2.2 else opE r.2.2 e)
def addR (rows : List Rw) (i : Nat) (e : Ex) (b : Bool) : List Rw := match rows[i]? with
  | some r => rows.set i (wrapR r e b)
  | none => rows
theorem addR_eq {rows : List Rw} {i : Nat} (h : i < rows.length) (e : Ex) (b : Bool) : addR rows i e b = rows.set i (wrapR rows[i] e b) := by
  unfold addR
  rw [List.getElem?_eq_getElem h]
theorem addR_sig (rows : List Rw) (i : Nat) (e : Ex) (b : Bool) : (addR rows i e b).map (fun r => (r.1, r.2.1)) = rows.map fun r => (r.1, r.2.1) := by
  unfold addR
  split
  · rename_i r hr
    rw [List.map_set]
    apply List.ext_getElem?
    intro j
    by_cases q : i = j
    · subst q
      obtain ⟨hi, e⟩ := List.getElem?_eq_some_iff.mp hr
      rw [List.getElem?_set_self (by rw [List.length_map]; exact hi), List.getElem?_map, hr]; rfl
    · rw [List.getElem?_set_ne q]
  · rfl
theorem addR_len (rows : List Rw) (i : Nat) (e : Ex) (b : Bool) : (addR rows i e b).length = rows.length := by
  have := congrArg List.length (addR_sig rows i e b)
  rwa [List.length_map, List.length_map] at this
end K10
end

/-! Q10hQ -/
section
set_option Elab.async false
set_option linter.all false
set_option maxRecDepth 100000
set_option maxHeartbeats 4000000
namespace Dh
open PySem PySem.Spec PyProof.Rows L2

/-! ### texts of data are plain -/
theorem low_app {x y : Str} (a : low x) (b : low y) : low (x ++ y) := fun c hc => by
  rw [Str.cps_append, Array.toList_append] at hc
  rcases List.mem_append.mp hc with h | h
  · exact a c h
  · exact b c h
theorem low_join {sep : Str} (hs : low sep) : ∀ {ts : List Str}, (∀ t ∈ ts, low t) → low (Str.join sep ts) := by
  intro ts h
  have e : TL.tl (Str.join sep ts) = TL.joinL (TL.tl sep) (ts.map TL.tl) := TL.tl_join _ _
  have go : ∀ {ts : List Str}, (∀ t ∈ ts, low t) → ∀ c ∈ TL.joinL (TL.tl sep) (ts.map TL.tl), c < 128 := by
    intro ts
    induction ts with
    | nil => intro _ c hc; cases hc
    | cons t r ih =>
      intro h c hc
      cases r with
      | nil => exact h t List.mem_cons_self c hc
      | cons t2 r2 =>
        have hc : c ∈ TL.tl t ++ (TL.tl sep ++ TL.joinL (TL.tl sep) ((t2 :: r2).map TL.tl)) := hc
        rcases List.mem_append.mp hc with h1 | h1
        · exact h t List.mem_cons_self c h1
        · rcases List.mem_append.mp h1 with h2 | h2
          · exact hs c h2
          · exact ih (fun t ht => h t (List.mem_cons_of_mem _ ht)) c h2
  intro c hc
  have hc : c ∈ TL.tl (Str.join sep ts) := hc
  rw [e] at hc
  exact go h c hc
theorem low_tuple {ts : List Str} (h : ∀ t ∈ ts, low t) : low (tupleText ts) := by
  unfold tupleText
  refine low_app (low_app (low_of (by decide +kernel)) (low_join (low_of (by decide +kernel)) h)) ?_
  split
  · exact low_of (by decide +kernel)
  · exact low_of (by decide +kernel)
theorem low_dict {ts : List Str} (h : ∀ t ∈ ts, low t) : low (dictText ts) := by
  unfold dictText
  exact low_app (low_app (low_of (by decide +kernel)) (low_join (low_of (by decide +kernel)) h)) (low_of (by decide +kernel))
theorem low_from : ∀ (ts : List Str) (k : Nat) (acc : Str), low acc → (∀ t ∈ ts, low t) → low (textFrom k acc ts)
  | [], _, _, a, _ => a
  | t :: r, k, acc, a, h => by
    refine low_from r (k + 1) (acc ++ (if k > 0 then ", " else "" : String) ++ t) (low_app (low_app a ?_) (h t List.mem_cons_self)) fun s hs => h s (List.mem_cons_of_mem _ hs)
    split
    · exact low_of (by decide +kernel)
    · exact low_of (by decide +kernel)
theorem low_list {ts : List Str} (h : ∀ t ∈ ts, low t) : low (listText ts) := low_app (low_from ts 0 _ (low_of (by decide +kernel)) h) (low_of (by decide +kernel))
theorem chars_low : ∀ q ∈ [34, 39], ∀ c, c < 128 → (Builtin.Str.reprChar q c).all (fun d => decide (d < 128)) = true := by
  have e : ([34, 39].all fun q => (List.range 128).all fun c => (Builtin.Str.reprChar q c).all (fun d => decide (d < 128))) = true := by decide +kernel
  intro q hq c hc
  have e1 := List.all_eq_true.mp e q hq
  exact List.all_eq_true.mp e1 c (List.mem_range.mpr hc)
theorem quote_in (x : Str) : reprQuote x ∈ [34, 39] := by
  unfold reprQuote
  split <;> decide
theorem fold_low {q : Nat} (hq : q ∈ [34, 39]) : ∀ (l : List Nat) (acc : Array Nat), (∀ c ∈ acc.toList, c < 128) → (∀ c ∈ l, c < 128) → ∀ c ∈ (l.foldl (fun out c => out ++ (Builtin.Str.reprChar q c).toArray) acc).toList, c < 128
  | [], acc, a, _ => a
  | d :: r, acc, a, h => by
    refine fold_low hq r _ (fun c hc => ?_) fun c hc => h c (List.mem_cons_of_mem _ hc)
    rw [Array.toList_append] at hc
    rcases List.mem_append.mp hc with h1 | h1
    · exact a c h1
    · exact of_decide_eq_true (List.all_eq_true.mp (chars_low q hq d (h d List.mem_cons_self)) c h1)
theorem low_repr {x : Str} (h : low x) : low (reprText x) := fun c hc => by
  have hc : c ∈ ((x.cps.foldl (fun out c => out ++ (Builtin.Str.reprChar (reprQuote x) c).toArray) #[reprQuote x]).push (reprQuote x)).toList := hc
  rw [Array.toList_push, ← Array.foldl_toList] at hc
  have q := quote_in x
  have ql : reprQuote x < 128 := by
    rcases List.mem_cons.mp q with e | e
    · rw [e]; decide
    · rw [List.mem_singleton.mp e]; decide
  rcases List.mem_append.mp hc with h1 | h1
  · exact fold_low q _ _ (fun c hc => by rw [List.mem_singleton.mp hc]; exact ql) h c h1
  · rw [List.mem_singleton.mp h1]; exact ql
theorem low_int (i : Int) : low (Str.ofString (toString i)) := fun c hc => by
  rcases Nat.lt_or_ge c 128 with h | h
  · exact h
  · exact absurd hc (int_text_free' c (by constructor <;> omega) i)
end Dh
end

/-! Q10hR -/
section
set_option Elab.async false
set_option linter.all false
set_option maxRecDepth 100000
set_option maxHeartbeats 4000000
namespace Dh
open PySem PySem.Spec PyProof.Rows L2

/-! ### how long the text of a drawn program is -/
/-- shown in at most so many signs, nested at most so deep -/
structure Ls (b k : Nat) (e : PyData) : Prop where
  s : e.showable = true
  l : e.shown.length ≤ b
  d : e.depth ≤ k
  o : low e.shown
structure LsA (b k : Nat) (ds : List PyData) : Prop where
  s : PyData.showableAll ds = true
  l : ((PyData.shownAll ds).map (·.length)).sum ≤ b
  d : PyData.depthAll ds ≤ k
  o : ∀ t ∈ PyData.shownAll ds, low t
theorem Ls.more {b b' k k' : Nat} {d : PyData} (h : Ls b k d) (e : b ≤ b') (e2 : k ≤ k') : Ls b' k' d := ⟨h.s, Nat.le_trans h.l e, Nat.le_trans h.d e2, h.o⟩
theorem LsA.nil {k : Nat} : LsA 0 k [] := ⟨rfl, Nat.le_refl _, Nat.zero_le _, fun _ h => nomatch h⟩
theorem LsA.cons {a b k : Nat} {d : PyData} {ds : List PyData} (h : Ls a k d) (r : LsA b k ds) : LsA (a + b) k (d :: ds) := by
  refine ⟨?_, ?_, ?_, ?_⟩
  · simp only [PyData.showableAll, h.s, r.s, Bool.and_self]
  · simp only [PyData.shownAll, List.map_cons, List.sum_cons]
    have := h.l; have := r.l; omega
  · simp only [PyData.depthAll]
    have := h.d; have := r.d; omega
  · intro t ht
    simp only [PyData.shownAll] at ht
    rcases List.mem_cons.mp ht with rfl | ht
    · exact h.o
    · exact r.o t ht
theorem LsA.all {b k : Nat} : ∀ {ds : List PyData}, (∀ d ∈ ds, Ls b k d) → LsA (ds.length * b) k ds
  | [], _ => by simpa using LsA.nil
  | d :: ds, h => by
    have := LsA.cons (h d List.mem_cons_self) (LsA.all fun e he => h e (List.mem_cons_of_mem _ he))
    rw [show (d :: ds).length * b = b + ds.length * b by rw [List.length_cons, Nat.add_mul, Nat.one_mul, Nat.add_comm]]
    exact this
theorem shownAll_len : ∀ ds : List PyData, (PyData.shownAll ds).length = ds.length
  | [] => rfl
  | _ :: r => by simp only [PyData.shownAll, List.length_cons, shownAll_len r]
theorem LsA.tup {b k : Nat} {ds : List PyData} (h : LsA b k ds) : Ls (b + 2 * ds.length + 3) (k + 1) (.tuple ds) := by
  have e : (PyData.tuple ds).shown = tupleText (PyData.shownAll ds) := by simp only [PyData.shown]
  refine ⟨by simp only [PyData.showable]; exact h.s, ?_, by simp only [PyData.depth]; have := h.d; omega, by rw [e]; exact low_tuple h.o⟩
  rw [e]
  have := tupleText_len_le (PyData.shownAll ds)
  rw [shownAll_len] at this
  have := h.l
  omega
theorem LsA.lst {b k : Nat} {ds : List PyData} (h : LsA b k ds) : Ls (b + 2 * ds.length + 3) (k + 1) (.list ds) := by
  have e : (PyData.list ds).shown = listText (PyData.shownAll ds) := by simp only [PyData.shown]
  refine ⟨by simp only [PyData.showable]; exact h.s, ?_, by simp only [PyData.depth]; have := h.d; omega, by rw [e]; exact low_list h.o⟩
  rw [e]
  have := listText_len_le (PyData.shownAll ds)
  rw [shownAll_len] at this
  have := h.l
  omega
theorem Ls.str {n : Nat} {x : Str} (h : low x) (hl : x.length ≤ n) : Ls (10 * n + 2) 0 (.str x) := by
  have e : (PyData.str x).shown = reprText x := by simp only [PyData.shown]
  refine ⟨by simp only [PyData.showable], ?_, by simp only [PyData.depth]; omega, by rw [e]; exact low_repr h⟩
  rw [e]
  have := StrLaws.reprText_len x (fun c hc => Nat.lt_trans (h c hc) (by decide))
  omega
theorem Ls.int {i : Int} {n : Nat} (hn : 0 < n) (h : i.natAbs < 10 ^ n) (h2 : i.natAbs.log2 < 1920) : Ls (n + 1) 0 (.int i) := by
  have e : (PyData.int i).shown = Str.ofString (toString i) := by simp only [PyData.shown]
  refine ⟨by simp only [PyData.showable]; exact decide_eq_true h2, ?_, by simp only [PyData.depth]; omega, by rw [e]; exact low_int i⟩
  rw [e]
  have := int_text_length_le10 (a := i) hn h
  rw [show (Str.ofString (toString i)).length = (toString i).length from PySem.ofString_length _]
  exact this
theorem Ls.non : Ls 4 0 .none := ⟨rfl, by decide +kernel, by decide +kernel, low_of (by decide +kernel)⟩
theorem Ls.bl (b : Bool) : Ls 5 0 (.bool b) := by
  cases b
  · exact ⟨rfl, by decide +kernel, by decide +kernel, low_of (by decide +kernel)⟩
  · exact ⟨rfl, by decide +kernel, by decide +kernel, low_of (by decide +kernel)⟩
theorem Ls.dict1 {a b k : Nat} {c d : PyData} (hc : Ls a k c) (hd : Ls b k d) : Ls (a + b + 7) (k + 1) (.dict [(c, d)]) := by
  have e : (PyData.dict [(c, d)]).shown = dictText [c.shown ++ ": " ++ d.shown] := by simp only [PyData.shown, PyData.shownKv]
  have e2 : (c.shown ++ (": " : Str) ++ d.shown).length = c.shown.length + 2 + d.shown.length := by rw [strLen_append, strLen_append]; rfl
  refine ⟨by simp only [PyData.showable, PyData.showableKv, hc.s, hd.s, Bool.and_self], ?_, by simp only [PyData.depth, PyData.depthKv]; have := hc.d; have := hd.d; omega, ?_⟩
  · rw [e]
    have := dictText_len_le [c.shown ++ ": " ++ d.shown]
    simp only [List.map_cons, List.map_nil, List.sum_cons, List.sum_nil, List.length_cons, List.length_nil] at this
    have := hc.l; have := hd.l; omega
  · rw [e]
    exact low_dict fun t ht => by
      rw [List.mem_singleton.mp ht]
      exact low_app (low_app hc.o (low_of (by decide +kernel))) hd.o
theorem Ls.dict0 : Ls 2 1 (.dict []) := ⟨rfl, by decide +kernel, by decide +kernel, low_of (by decide +kernel)⟩
def gsz : Nat → Nat
  | 0 => 171
  | n + 1 => 4 * gsz n + 1600
theorem gsz_ge : ∀ n, 171 ≤ gsz n
  | 0 => Nat.le_refl _
  | n + 1 => by have := gsz_ge n; simp only [gsz]; omega
theorem gsz_mono : ∀ {m n : Nat}, m ≤ n → gsz m ≤ gsz n
  | m, 0, h => by rw [Nat.le_zero.mp h]; exact Nat.le_refl _
  | m, n + 1, h => by
    rcases Nat.lt_or_ge m (n + 1) with h1 | h1
    · have := gsz_mono (m := m) (n := n) (by omega)
      simp only [gsz]; omega
    · rw [show m = n + 1 by omega]; exact Nat.le_refl _
theorem Ls.name {k : Nat} {x : Str} (h : nameOk x = true) : Ls 122 k (.str x) := (Ls.str (n := 12) (nameOk_low h) (word_len (nameOk_word h)).2).more (Nat.le_refl _) (Nat.zero_le _)
theorem Ls.tag {k : Nat} {x : Str} (h : tagOk x = true) : Ls 122 k (.str x) := (Ls.str (n := 12) (tagOk_low h) (word_len h).2).more (Nat.le_refl _) (Nat.zero_le _)
theorem Ls.word {x : Str} {n k : Nat} (h : (x.cps.toList.all (fun c => decide (c < 128)) && decide (x.length ≤ n)) = true) : Ls (10 * n + 2) k (.str x) := by
  rw [Bool.and_eq_true] at h
  exact (Ls.str (low_of h.1) (of_decide_eq_true h.2)).more (Nat.le_refl _) (Nat.zero_le _)
theorem Ls.names {ns : List Str} (h : ∀ x ∈ ns, nameOk x = true) (hl : ns.length ≤ 3) : Ls 375 1 (.tuple (ns.map PyData.str)) := by
  have a : LsA (ns.length * 122) 0 (ns.map PyData.str) := by
    have := LsA.all (b := 122) (k := 0) (ds := ns.map PyData.str) (fun d hd => by
      obtain ⟨x, hx, rfl⟩ := List.mem_map.mp hd
      exact Ls.name (h x hx))
    rwa [List.length_map] at this
  have := a.tup
  rw [List.length_map] at this
  exact this.more (by omega) (by omega)
theorem Ls.row {t : Str} {ns : List Str} {e : PyData} {b k : Nat} (ht : Ls 122 0 (.str t)) (hk : 1 ≤ k) (hn : ∀ x ∈ ns, nameOk x = true) (hl : ns.length ≤ 3) (he : Ls b k e) : Ls (b + 506) (k + 1) (brD (t, ns, e)) := by
  have := (LsA.cons (ht.more (Nat.le_refl _) (Nat.zero_le k)) (LsA.cons ((Ls.names hn hl).more (Nat.le_refl _) hk) (LsA.cons he LsA.nil))).tup
  exact this.more (by simp only [List.length_cons, List.length_nil]; omega) (Nat.le_refl _)
theorem GE.ls {S : Sg} (ok : SgOk S) {n : Nat} {sc : List Str} {d : PyData} (g : GE S n sc d) : (∀ x ∈ sc, nameOk x = true) → Ls (gsz n) (3 * n + 1) d := by
  induction g with
  | @leaf n sc d l =>
    intro hs
    rcases l with ⟨x, hx, rfl⟩ | ⟨i, hi, rfl⟩
    · exact (LsA.cons (Ls.word (n := 4) (k := 0) (by decide +kernel)) (LsA.cons (Ls.name (hs x hx)) LsA.nil)).tup.more (by have := gsz_ge n; simp only [List.length_cons, List.length_nil]; omega) (by omega)
    · refine (LsA.cons (Ls.word (n := 4) (k := 0) (by decide +kernel)) (LsA.cons (Ls.int (n := 12) (by decide) (by omega) ?_) LsA.nil)).tup.more (by have := gsz_ge n; simp only [List.length_cons, List.length_nil]; omega) (by omega)
      by_cases z : i.natAbs = 0
      · rw [z]; decide
      · rw [Nat.log2_lt z]
        exact Nat.lt_of_lt_of_le (m := 2 ^ 40) (by omega) (Nat.pow_le_pow_right (by decide) (by decide))
  | @call n sc f k ds hf hl hd ih =>
    intro hs
    have k3 := ok.f3 _ hf
    have a := (LsA.all (fun d h => ih d h hs)).tup
    have b := (LsA.cons (Ls.word (x := "call") (n := 4) (k := 3 * n + 2) (by decide +kernel)) (LsA.cons (Ls.name (ok.f4 _ hf)) (LsA.cons a LsA.nil))).tup
    refine b.more ?_ (by omega)
    have : ds.length * gsz n ≤ 3 * gsz n := Nat.mul_le_mul_right _ (by rw [hl]; exact k3)
    have : ds.length ≤ 3 := by rw [hl]; exact k3
    simp only [List.length_cons, List.length_nil, gsz]; omega
  | @make n sc f k ds hf hl hd ih =>
    intro hs
    have k3 := ok.t3 _ hf
    have a := (LsA.all (fun d h => ih d h hs)).tup
    have b := (LsA.cons (Ls.word (x := "make") (n := 4) (k := 3 * n + 2) (by decide +kernel)) (LsA.cons (Ls.tag (ok.t4 _ hf)) (LsA.cons a LsA.nil))).tup
    refine b.more ?_ (by omega)
    have : ds.length * gsz n ≤ 3 * gsz n := Nat.mul_le_mul_right _ (by rw [hl]; exact k3)
    have : ds.length ≤ 3 := by rw [hl]; exact k3
    simp only [List.length_cons, List.length_nil, gsz]; omega
  | @case n sc e bs he hne hl hnd hts hns hbs ih ih2 =>
    intro hs
    have a := (LsA.all (ds := bs.map brD) (b := gsz n + 506) (k := 3 * n + 2) (fun d h => by
      obtain ⟨r, hr, rfl⟩ := List.mem_map.mp h
      refine Ls.row (Ls.tag (ok.t4 _ (hts r hr))) (by omega) (fun x hx => ok.l3 x ((hns r hr).2 x hx)) (ok.t3 _ (hts r hr)) (ih2 r hr fun x hx => ?_)
      rcases List.mem_append.mp hx with hx | hx
      · exact hs x hx
      · exact ok.l3 x ((hns r hr).2 x hx))).tup
    have b := (LsA.cons (Ls.word (x := "case") (n := 4) (k := 3 * n + 3) (by decide +kernel)) (LsA.cons ((ih hs).more (Nat.le_refl _) (by omega)) (LsA.cons a LsA.nil))).tup
    refine b.more ?_ (by omega)
    have : bs.length * (gsz n + 506) ≤ 3 * (gsz n + 506) := Nat.mul_le_mul_right _ hl
    rw [List.length_map]
    simp only [List.length_cons, List.length_nil, gsz]; omega
  | @«let» n sc x e b hx he hb ih ih2 =>
    intro hs
    have c := (LsA.cons (Ls.word (x := "let") (n := 4) (k := 3 * n + 1) (by decide +kernel)) (LsA.cons (Ls.name (ok.l3 _ hx)) (LsA.cons (ih hs) (LsA.cons (ih2 fun y hy => by
      rcases List.mem_append.mp hy with hy | hy
      · exact hs y hy
      · rw [List.mem_singleton.mp hy]; exact ok.l3 _ hx) LsA.nil)))).tup
    refine c.more ?_ (by omega)
    simp only [List.length_cons, List.length_nil, gsz]; omega
  | @«if» n sc o ds ho hl hd ih =>
    intro hs
    have a := LsA.all (fun d h => ih d h hs)
    have b := (LsA.cons (Ls.word (x := "if") (n := 4) (k := 3 * n + 1) (by decide +kernel)) (LsA.cons (Ls.word (x := o) (n := 4) (k := 3 * n + 1) (by rcases ho with rfl | rfl <;> decide +kernel)) a)).tup
    refine b.more ?_ (by omega)
    rw [hl]
    simp only [List.length_cons, List.length_nil, gsz, hl]; omega
  | @op n sc o ds ho hl hd ih =>
    intro hs
    have a := LsA.all (fun d h => ih d h hs)
    have b := (LsA.cons (Ls.word (x := "op") (n := 4) (k := 3 * n + 1) (by decide +kernel)) (LsA.cons (Ls.word (x := o) (n := 4) (k := 3 * n + 1) (by rcases ho with rfl | rfl | rfl <;> decide +kernel)) a)).tup
    refine b.more ?_ (by omega)
    rw [hl]
    simp only [List.length_cons, List.length_nil, gsz, hl]; omega
  | @one n sc o e ho he ih =>
    intro hs
    have b := (LsA.cons (Ls.word (x := o) (n := 5) (k := 3 * n + 1) (by rcases ho with rfl | rfl <;> decide +kernel)) (LsA.cons (ih hs) LsA.nil)).tup
    refine b.more ?_ (by omega)
    simp only [List.length_cons, List.length_nil, gsz]; omega
/-- a drawn program -/
theorem rows_ls {S : Sg} (ok : SgOk S) {rows : List (Str × List Str × PyData)} (h : ∀ r ∈ rows, RowOk S r) (hl : rows.length ≤ 5) : Ls 16000000 21 (.tuple (rows.map brD)) := by
  have a := (LsA.all (ds := rows.map brD) (b := gsz 6 + 506) (k := 20) (fun d hd => by
    obtain ⟨r, hr, rfl⟩ := List.mem_map.mp hd
    obtain ⟨h1, h2, h3, n, hn, g⟩ := h r hr
    exact Ls.row (Ls.name (ok.f4 _ h1)) (by omega) (fun x hx => ok.l3 x (h3 x hx)) (ok.f3 _ h1) ((g.ls ok fun x hx => ok.l3 x (h3 x hx)).more (gsz_mono hn) (by omega)))).tup
  refine a.more ?_ (by omega)
  rw [List.length_map]
  have : rows.length * (gsz 6 + 506) ≤ 14424610 := Nat.le_trans (Nat.mul_le_mul_right _ hl) (by decide +kernel)
  generalize rows.length * (gsz 6 + 506) = z at this
  omega
end Dh
end

/-! K10w -/
section
set_option Elab.async false
set_option linter.all false
set_option maxRecDepth 100000
set_option maxHeartbeats 4000000
namespace K10
open PySem PySem.Spec PyProof.Rows L2 Dh Px Pg
/-! ### what the laws of programs share -/
theorem seq_cut {w u : PXS} {Γ : Px.Env} {Φ : PEnds} (J : Px.Env → Prop) (h1 : ∀ N : Px.Env → Prop, (∀ Γ1, J Γ1 → N Γ1) → w Γ { Φ with nx := N }) (h2 : ∀ Γ1, J Γ1 → u Γ1 Φ) : wSeq w u Γ Φ := h1 _ h2
def spLaw (K : PySem.W.Frag) : Sp := fun vs H Q _ => ∃ (a : Addr) (ns : List Int), vs = [.ref a] ∧ SqL K H a (ns.map V.int) ∧ ns.length ≤ 63 ∧ ∀ H', Q (.bl true) H'
section
variable {K : PySem.W.Frag}
/-- a state with the deck alone -/
theorem deck_rel {H : Hp} {dk lf : Addr} {x0 : Option V} {n : Nat} (D : Deck IK.ks H dk lf) : Rel ⟨K, fun b => b = dk ∨ b = lf, [dk, lf], H, IK.ks⟩ noFr (none :: some .deck :: List.replicate n none) (x0 :: some (.ref dk) :: List.replicate n none) H := by
  have one : ∀ k d x, ent noFr (none :: some .deck :: List.replicate n none) (x0 :: some (.ref dk) :: List.replicate n none) k = some (d, x) → d = .deck ∧ x = .ref dk := by
    intro k d x e
    cases k with
    | inl m => cases e
    | inr i =>
      obtain ⟨e1, e2⟩ := slotE_some e
      match i, e1, e2 with
      | 0, e1, _ => simp at e1
      | 1, e1, e2 => simp at e1 e2; exact ⟨e1.symm, e2.symm⟩
      | i + 2, e1, _ =>
        simp [List.getElem?_replicate] at e1
  obtain ⟨kvs, h1, h2, h3, h4⟩ := id D.d
  obtain ⟨ls, h5, h6⟩ := id D.l
  refine ⟨⟨fun k d x e => ?_, fun k j d d' a e => ?_, fun k d a e => ?_, Dh.Kp.refl _ _, fun b hb => ?_, fun b hb => ?_, fun _ z => z⟩, by simp, fun i d e => ?_, fun i j e => ?_⟩
  · obtain ⟨rfl, rfl⟩ := one k d x e
    exact .deck D.dck
  · cases (one _ _ _ e).1
  · cases (one _ _ _ e).1
  · rcases hb with rfl | rfl
    · exact ⟨_, h1, fun _ z => by cases z⟩
    · exact ⟨_, h5, fun _ z => by cases z⟩
  · rcases List.mem_cons.mp hb with rfl | hb
    · exact .inl rfl
    · exact .inr (List.mem_singleton.mp hb)
  · match i, e with
    | 0, e => simp at e
    | 1, e => exact ⟨.ref dk, rfl⟩
    | i + 2, e => simp [List.getElem?_replicate] at e
  · match i, e with
    | 0, e => simp at e
    | 1, e => simp at e
    | i + 2, e => simp [List.getElem?_replicate] at e

end
theorem inV_names (x : Str) (ns : List Str) : inV (toV (.str x)) ((ns.map PyData.str).map toV) = decide (x ∈ ns) := by
  rw [List.map_map]
  have := inV_strs x ns
  rw [List.contains_eq_mem] at this
  exact this
theorem flat_names (ns : List Str) : (ns.map PyData.str).all flatD = true := by
  rw [List.all_map]
  exact List.all_eq_true.mpr fun _ _ => rfl
/-- what is due -/
def dueD (w f x : Str) (b : Bool) : PyData := if b = true then .none else .tuple [.str w, .str f, .str x]
theorem name_ls {k : Nat} {x : Str} (h : isName (.str x) = true) : Dh.Ls 122 k (.str x) := by
  have hl := name_len h
  have h : (isWordL Dh.lowS Dh.alnS x.cps.toList && !(resv.contains x)) = true := h
  rw [Bool.and_eq_true] at h
  have h1 := h.1
  unfold isWordL at h1
  rw [Bool.and_eq_true, List.all_eq_true] at h1
  exact (Dh.Ls.str (n := 12) (fun c hc => low_alnS c (of_decide_eq_true (h1.2 c hc))) hl).more (Nat.le_refl _) (Nat.zero_le _)
/-- a fault, or none, can be shown -/
def DueOk (d : PyData) : Prop := Dh.Ls 500 1 d
theorem due_ok {w f x : Str} {b : Bool} (hw : Dh.Ls 122 0 (.str w)) (hf : isName (.str f) = true) (hx : Dh.Ls 122 0 (.str x)) : DueOk (dueD w f x b) := by
  unfold dueD DueOk
  cases b with
  | true => exact Dh.Ls.non.more (by decide) (by decide)
  | false =>
    have := (Dh.LsA.cons hw (Dh.LsA.cons (name_ls (k := 0) hf) (Dh.LsA.cons hx Dh.LsA.nil))).tup
    exact this.more (by simp) (by decide)
theorem ls_two {b k : Nat} {c d : PyData} (hc : Dh.Ls b k c) (hd : Dh.Ls b k d) : Dh.Ls (2 * b + 7) (k + 1) (.tuple [c, d]) :=
  (Dh.LsA.cons hc (Dh.LsA.cons hd Dh.LsA.nil)).tup.more (by simp; omega) (Nat.le_refl _)
theorem ls_three {b k : Nat} {c d e : PyData} (hc : Dh.Ls b k c) (hd : Dh.Ls b k d) (he : Dh.Ls b k e) : Dh.Ls (3 * b + 9) (k + 1) (.tuple [c, d, e]) :=
  (Dh.LsA.cons hc (Dh.LsA.cons hd (Dh.LsA.cons he Dh.LsA.nil))).tup.more (by simp; omega) (Nat.le_refl _)
theorem ls_same {b k : Nat} {d : PyData} (h : Dh.Ls b k d) (hb : b ≤ 1000000) (hk : k ≤ 60) : d.showable = true ∧ d.depth ≤ 60 ∧ d.shown.length ≤ sizeLine :=
  ⟨h.s, Nat.le_trans h.d hk, Nat.le_trans h.l (mil hb)⟩
/-- the row at a place -/
theorem at_split {rows : List Rw} {i : Nat} (h : i < rows.length) : ∃ A B, rows = A ++ rows[i] :: B ∧ A.length = i ∧ rows.take i = A ∧ rows.drop (i + 1) = B := by
  refine ⟨rows.take i, rows.drop (i + 1), ?_, by rw [List.length_take]; omega, rfl, rfl⟩
  rw [List.getElem_cons_drop, List.take_append_drop]
def nmE (x : Str) : Ex := .nd (.nam x) []
def intE (i : Int) : Ex := .nd (.int i) []
theorem intE_ok (i : Int) : okE (intE i) = true := okE_nd.mpr ⟨rfl, fun _ z => nomatch z⟩
theorem ub_int (i : Int) (sc : List Str) : Pg.ub (intE i) sc = [] := by unfold intE; rw [ub_nd, ubL]; rfl
/-- a let around it, or ahead -/
def letE (x : Str) (a b : Ex) : Ex := .nd (.lt x) [a, b]
theorem letE_ok {x : Str} {a b : Ex} (hx : isName (.str x) = true) (fa : a.fit = true) (fb : b.fit = true) (oa : okE a = true) (ob : okE b = true) : (letE x a b).fit = true ∧ okE (letE x a b) = true := by
  have two : ∀ e ∈ [a, b], e = a ∨ e = b := fun e he => by simpa using he
  constructor
  · unfold letE
    rw [Ex.fit, show (Hd.lt x).fits [a, b].length = true from rfl, Bool.true_and]
    refine fitL_iff.mpr fun e he => ?_
    rcases two e he with rfl | rfl
    · exact fa
    · exact fb
  · refine okE_nd.mpr ⟨hx, fun e he => ?_⟩
    rcases two e he with rfl | rfl
    · exact oa
    · exact ob
theorem letE_wf {x : Str} {a b : Ex} {fs ts : List (Str × Nat)} (ha : wfE fs ts a) (hb : wfE fs ts b) : wfE fs ts (letE x a b) := wfE_nd.mpr ⟨trivial, fun e he => by
  have : e = a ∨ e = b := by simpa using he
  rcases this with rfl | rfl
  · exact ha
  · exact hb⟩
theorem letE_ub {x : Str} {a b : Ex} (sc : List Str) : Pg.ub (letE x a b) sc = Pg.ub a sc ++ Pg.ub b (sc ++ [x]) := by
  unfold letE
  rw [ub_nd, ubL, ubL, ubL, show (Hd.lt x).binds 0 = [] from rfl, show (Hd.lt x).binds (0 + 1) = [x] from rfl, List.append_nil, List.append_nil]; rfl
theorem letE_n {x : Str} {a b : Ex} : (letE x a b).n = 2 + a.n + b.n := by
  unfold letE
  rw [Ex.n, nL, nL, nL]
  show 1 + 1 + (a.n + (b.n + 0)) = _
  omega
theorem int_wf (i : Int) (fs ts : List (Str × Nat)) : wfE fs ts (intE i) := by unfold intE; exact wfE_nd.mpr ⟨trivial, fun _ z => nomatch z⟩
end K10
end

/-! K10y -/
section
set_option Elab.async false
set_option linter.all false
set_option maxRecDepth 100000
set_option maxHeartbeats 4000000
namespace K10
open PySem PySem.Spec PyProof.Rows L2 Dh Px Pg
def rsz (rows : List Rw) : Nat := (rows.map fun r => r.2.1.length + r.2.2.n).sum
theorem rsz_cons (r : Rw) (rows : List Rw) : rsz (r :: rows) = r.2.1.length + r.2.2.n + rsz rows := by unfold rsz; rw [List.map_cons, List.sum_cons]
/-! ### drawn programs -/
theorem Drawn.sig {us tgs : List Str} {S : Sg} {rows : List Rw} (D : Drawn us tgs S rows) (nd : (S.fs.map (·.1)).Nodup) : rows.map (fun r => (r.1, r.2.1.length)) = S.fs := by
  have key : ∀ (rows : List Rw) (fs : List (Str × Nat)), rows.map (·.1) = fs.map (·.1) → (∀ r ∈ rows, (r.1, r.2.1.length) ∈ S.fs) → (∀ q ∈ fs, q ∈ S.fs) → rows.map (fun r => (r.1, r.2.1.length)) = fs := by
    intro rows
    induction rows with
    | nil =>
      intro fs e _ _
      cases fs with
      | nil => rfl
      | cons q fs => cases e
    | cons r rows ih =>
      intro fs e h1 h2
      cases fs with
      | nil => cases e
      | cons q fs =>
        rw [List.map_cons, List.map_cons] at e
        obtain ⟨e1, e2⟩ := List.cons.inj e
        rw [List.map_cons, ih fs e2 (fun x hx => h1 x (by simp [hx])) fun x hx => h2 x (by simp [hx])]
        obtain ⟨a, n⟩ := q
        have e1 : r.1 = a := e1
        subst e1
        rw [nd_fun nd (h1 r (by simp)) (h2 (r.1, n) (by simp))]
  exact key rows S.fs D.nm (fun r hr => (D.row r hr).1) fun _ h => h
theorem Drawn.wel {us tgs : List Str} {S : Sg} {rows : List Rw} (D : Drawn us tgs S rows) : Wel S.fs S.ts rows := by
  have nd : (S.fs.map (·.1)).Nodup := (List.nodup_append.mp D.f1.nd).1
  exact ⟨by rw [D.nm]; exact nd, D.sig nd, D.so.t5, fun r hr => (D.row r hr).2.1, fun r hr => (D.row r hr).2.2.2.wf⟩
theorem Drawn.len {us tgs : List Str} {S : Sg} {rows : List Rw} (D : Drawn us tgs S rows) : 1 ≤ rows.length ∧ rows.length ≤ 5 := by
  have h1 := congrArg List.length D.nm
  rw [List.length_map, List.length_map] at h1
  have h2 := D.l1
  have h3 := List.length_pos_iff.mpr D.so.f1
  omega
theorem Drawn.rwN {us tgs : List Str} {S : Sg} {rows : List Rw} (D : Drawn us tgs S rows) : ∀ r ∈ rows, RwN r := fun r hr => by
  obtain ⟨h1, h2, h3, h4⟩ := D.row r hr
  exact ⟨name_is (D.so.f4 _ h1), fun x hx => name_is (D.so.l3 x (h3 x hx)), h4.ok⟩
theorem bnd6 : bnd 6 = 17746 := by decide
theorem Drawn.sz {us tgs : List Str} {S : Sg} {rows : List Rw} (D : Drawn us tgs S rows) : ∀ r ∈ rows, r.2.1.length ≤ 3 ∧ r.2.2.n ≤ 17746 := fun r hr => by
  obtain ⟨h1, h2, h3, h4⟩ := D.row r hr
  exact ⟨D.so.f3 _ h1, by rw [← bnd6]; exact h4.n⟩
theorem rsz_le {N : Nat} : ∀ rows : List Rw, (∀ r ∈ rows, r.2.1.length + r.2.2.n ≤ N) → rsz rows ≤ rows.length * N
  | [], _ => by simp [rsz]
  | r :: rows, h => by
    have h1 := h r (by simp)
    have h2 := rsz_le rows fun x hx => h x (by simp [hx])
    rw [rsz_cons, List.length_cons, Nat.succ_mul]; omega
theorem pok_of {rows : List Rw} (l : rows.length ≤ 8) (h : ∀ r ∈ rows, r.2.2.fit = true ∧ r.2.1.length ≤ 20 ∧ r.2.2.n ≤ 20000) : POk rows := by
  refine ⟨by omega, ?_, fun r hr => ⟨(h r hr).1, by have := (h r hr).2.1; omega, by have := (h r hr).2; omega⟩⟩
  have := rsz_le (N := 20020) rows fun r hr => by have := (h r hr).2; omega
  have : rows.length * 20020 ≤ 8 * 20020 := Nat.mul_le_mul_right _ l
  show rsz rows ≤ _
  omega
structure InPut (rows : List Rw) (d : PyData) : Prop where
  ok : POk rows
  prog : isProg (progD rows) = true
  few : Few (progD rows)
  flt : faultG rows = d

/-- a part of a row that is all right -/
structure RowN (N : Nat) (r : Rw) : Prop where
  f : isName (.str r.1) = true
  p : ∀ x ∈ r.2.1, isName (.str x) = true
  l : r.2.1.length ≤ 20
  fit : r.2.2.fit = true
  ok : okE r.2.2 = true
  n : r.2.2.n ≤ N
abbrev RowK := RowN 20000
theorem inp_of {rows : List Rw} {d : PyData} (l : rows.length ≤ 8) (ne : rows ≠ []) (h : ∀ r ∈ rows, RowK r) (f : faultG rows = d) : InPut rows d := by
  have pok : POk rows := pok_of l fun r hr => ⟨(h r hr).fit, (h r hr).l, (h r hr).n⟩
  have nm : ∀ r ∈ rows, RwN r := fun r hr => ⟨(h r hr).f, (h r hr).p, (h r hr).ok⟩
  exact ⟨pok, prog_ok ne pok nm, prog_few pok nm, f⟩
/-! ### small expressions with a fault -/
def mk (m : Bool) : Str := if m = true then "2" else "1"
def uN (m : Bool) : Str := ("u" : Str) ++ mk m
def gN (m : Bool) : Str := ("g" : Str) ++ mk m
def pN (m : Bool) : Str := ("p" : Str) ++ mk m
def bN (m : Bool) : Str := ("B" : Str) ++ mk m
def ppN (m : Bool) : Str := ("P" : Str) ++ mk m
def zN (m : Bool) : Str := ("Z" : Str) ++ mk m
def mkI (m : Bool) : Int := if m = true then 2 else 1
def small : Kn → Bool → Ex
  | .par, m => .nd (.cas [(ppN m, [pN m, pN m])]) [intE 1, intE 0]
  | .unb, m => nmE (uN m)
  | .cal, m => .nd (.call (gN m)) []
  | .tag, m => letE "x0" (.nd (.make "Zz") []) (.nd (.make "Zz") [intE (mkI m)])
  | .bra, m => .nd (.cas [(bN m, []), (bN m, [])]) [intE 1, intE 0, intE 0]
def near : Kn → Bool → Str
  | .par, m => pN m
  | .unb, m => uN m
  | .cal, m => gN m
  | .tag, _ => "Zz"
  | .bra, m => bN m
def usK : List Str := ["x0", "u1", "u2", "g1", "g2", "p1", "p2", "last", "ahead", "q1"]
def tgK : List Str := ["Zz", "P1", "P2", "B1", "B2", "Z1", "Z2"]
def litT : Szs := [("Zz", 0), ("P1", 2), ("P2", 2), ("B1", 0), ("B2", 0), ("Z1", 0), ("Z2", 0)]
def tsK (S : Sg) : Szs := S.ts ++ litT
/-- the first tag with another number of parts -/
def tl (ts : Szs) (e : Ex) : Option Str := ((evs e).find? fun q => decide (q ∉ ts)).map (·.1)
structure Tgs (S : Sg) : Prop where
  nd : ((tsK S).map (·.1)).Nodup
  out : ∀ z ∈ tgK, ∀ n, (z, n) ∉ litT → (z, n) ∉ tsK S
theorem tgs_of {S : Sg} (f : Fr tgK (S.ts.map (·.1))) : Tgs S := by
  refine ⟨?_, fun z hz n hn h => ?_⟩
  · unfold tsK
    rw [List.map_append]
    refine List.nodup_append.mpr ⟨f.nd, by decide +kernel, fun x hx y hy e => ?_⟩
    subst e
    refine f.out x hx ?_
    have : litT.map (·.1) = tgK := by decide +kernel
    rwa [this] at hy
  · rcases List.mem_append.mp h with h | h
    · exact f.out z (List.mem_map.mpr ⟨_, h, rfl⟩) hz
    · exact hn h
theorem tl_clean {ts : Szs} {kn : Str × Nat → Prop} {e : Ex} (h : ∀ q ∈ evs e, q ∈ ts) : tl ts e = none ∧ TagP ts kn e (tl ts e) := by
  have : tl ts e = none := by
    unfold tl
    rw [List.find?_eq_none.mpr fun q hq => by simp [h q hq]]; rfl
  exact ⟨this, by rw [this]; exact .ok h⟩
theorem tl_bad {ts : Szs} {kn : Str × Nat → Prop} {e : Ex} {z : Str} {n m : Nat} {C R : List (Str × Nat)} (h : evs e = C ++ (z, m) :: R) (hC : ∀ q ∈ C, q ∈ ts) (hb : (z, m) ∉ ts) (hn : n ≠ m) (hz : (z, n) ∈ C ∨ kn (z, n)) : tl ts e = some z ∧ TagP ts kn e (tl ts e) := by
  have : tl ts e = some z := by
    unfold tl
    rw [h, List.find?_append, List.find?_eq_none.mpr fun q hq => by simp [hC q hq], Option.none_or, List.find?_cons_of_pos (by simp [hb])]; rfl
  exact ⟨this, by rw [this]; exact .bad h hC hn hz⟩
theorem in_lit {S : Sg} {q : Str × Nat} (h : q ∈ litT) : q ∈ tsK S := List.mem_append_right _ h
theorem all_lit {S : Sg} {es : List (Str × Nat)} (h : (es.all fun q => decide (q ∈ litT)) = true) : ∀ q ∈ es, q ∈ tsK S := fun q hq => in_lit (of_decide_eq_true (List.all_eq_true.mp h q hq))
/-- where the parts stand -/
structure Wh (S : Sg) (rows : List Rw) (ps : List Str) : Prop where
  t : Tgs S
  g : ∀ m, cnt rows (gN m) = none
  u : ∀ m, uN m ∉ ps
theorem ub_nm {x : Str} {sc : List Str} (h : x ∉ sc) : Pg.ub (nmE x) sc = [x] := by
  unfold nmE
  rw [ub_nd, ubL, List.append_nil]
  show (if x ∈ sc then [] else [x]) = _
  rw [if_neg h]
section
variable {S : Sg} {rows : List Rw} {ps : List Str} {kn : Str × Nat → Prop}
theorem small_tag (W : Wh S rows ps) (k : Kn) (m : Bool) : tl (tsK S) (small k m) = (if Kn.tag = k then some "Zz" else none) ∧ TagP (tsK S) kn (small k m) (tl (tsK S) (small k m)) := by
  cases k with
  | tag =>
    have := tl_bad (ts := tsK S) (kn := kn) (e := small .tag m) (z := "Zz") (n := 0) (m := 1) (C := [("Zz", 0)]) (R := []) (by cases m <;> rfl) (all_lit (by decide +kernel)) (W.t.out "Zz" (by decide +kernel) 1 (by decide +kernel)) (by decide) (.inl (by simp))
    exact this
  | par => exact tl_clean (all_lit (by cases m <;> decide +kernel))
  | unb => exact tl_clean (all_lit (by cases m <;> decide +kernel))
  | cal => exact tl_clean (all_lit (by cases m <;> decide +kernel))
  | bra => exact tl_clean (all_lit (by cases m <;> decide +kernel))
theorem small_loc (W : Wh S rows ps) (k k' : Kn) (m : Bool) : locK rows (tl (tsK S)) ps k' (small k m) = if k' = k then some (near k m) else none := by
  cases k' with
  | tag =>
    have := (small_tag (kn := fun _ => False) W k m).1
    cases k <;> exact this
  | par =>
    show ((brNames (small k m)).findSome? fun ns => firstRep ns []) = _
    cases k <;> cases m <;> decide +kernel
  | bra =>
    show (pre (small k m)).findSome? brTag = _
    cases k <;> cases m <;> decide +kernel
  | unb =>
    cases k with
    | unb =>
      show (Pg.ub (nmE (uN m)) ps).head? = _
      rw [ub_nm (W.u m)]; rfl
    | _ => rfl
  | cal =>
    cases k with
    | cal =>
      show [Pl.nd (.nd (.call (gN m)) [])].findSome? (callBad rows) = _
      rw [fs_cons, show callBad rows (.nd (.nd (.call (gN m)) [])) = if cnt rows (gN m) = some 0 then none else some (gN m) from rfl, W.g m]; rfl
    | _ => rfl
end
end K10
end

/-! K10z -/
section
set_option Elab.async false
set_option linter.all false
set_option maxRecDepth 100000
set_option maxHeartbeats 4000000
namespace K10
open PySem PySem.Spec PyProof.Rows L2 Dh Px Pg
/-! ### the drawn program, with one definition more -/
def lastR : Rw := ("last", [], intE 1)
def progP (rows : List Rw) : List Rw := rows ++ [lastR]
theorem ev_in {fs ts : List (Str × Nat)} {e : Ex} (w : wfE fs ts e) : ∀ q ∈ evs e, q ∈ ts := by
  intro q hq
  unfold evs at hq
  obtain ⟨p, hp, h⟩ := List.mem_filterMap.mp hq
  have ip := wf_pre e w p hp
  unfold tagEv at h
  split at h
  · cases h; exact ip
  · cases h; exact ip.1
  · cases h
theorem cnt_sig {rows rows' : List Rw} (h : rows.map (fun r => (r.1, r.2.1)) = rows'.map fun r => (r.1, r.2.1)) (f : Str) : cnt rows f = cnt rows' f := by
  have go : ∀ (rs rs' : List Rw) (acc : Option Nat), rs.map (fun r => (r.1, r.2.1)) = rs'.map (fun r => (r.1, r.2.1)) → cntFrom f acc rs = cntFrom f acc rs' := by
    intro rs
    induction rs with
    | nil =>
      intro rs' acc e
      cases rs' with
      | nil => rfl
      | cons r rs' => cases e
    | cons r rs ih =>
      intro rs' acc e
      cases rs' with
      | nil => cases e
      | cons r' rs' =>
        rw [List.map_cons, List.map_cons] at e
        obtain ⟨e1, e2⟩ := List.cons.inj e
        obtain ⟨a, b, c⟩ := r
        obtain ⟨a', b', c'⟩ := r'
        cases e1
        exact ih rs' _ e2
  exact go rows rows' none h
theorem cnt_none {f : Str} : ∀ {rows : List Rw}, f ∉ rows.map (·.1) → cnt rows f = none := by
  intro rows
  have go : ∀ (rs : List Rw) (acc : Option Nat), f ∉ rs.map (·.1) → cntFrom f acc rs = acc := by
    intro rs
    induction rs with
    | nil => intro acc _; rfl
    | cons r rs ih =>
      intro acc h
      rw [List.map_cons, List.mem_cons] at h
      show cntFrom f (if r.1 = f then some r.2.1.length else acc) rs = acc
      rw [if_neg fun z => h (.inl z.symm)]
      exact ih acc fun z => h (.inr z)
  exact go rows none
theorem names_sig {rows rows' : List Rw} (h : rows.map (fun r => (r.1, r.2.1)) = rows'.map fun r => (r.1, r.2.1)) : rows.map (·.1) = rows'.map (·.1) := by
  have := congrArg (List.map (·.1)) h
  rwa [List.map_map, List.map_map] at this
section
variable {S : Sg} {rows : List Rw}
theorem P_nd (D : Drawn usK tgK S rows) : ((progP rows).map (·.1)).Nodup := by
  unfold progP
  rw [List.map_append]
  refine List.nodup_append.mpr ⟨D.wel.nd, by simp, fun x hx y hy e => ?_⟩
  rw [List.map_singleton, List.mem_singleton] at hy
  rw [D.nm] at hx
  refine D.f1.out x (List.mem_append_left _ hx) ?_
  rw [e, hy]
  decide +kernel
theorem P_cnt (D : Drawn usK tgK S rows) {f : Str} {n : Nat} (h : (f, n) ∈ S.fs) : cnt (progP rows) f = some n := by
  refine cnt_from f n _ none (P_nd D) ?_
  unfold progP
  rw [List.map_append, D.wel.hfs]
  exact List.mem_append_left _ h
theorem P_g (D : Drawn usK tgK S rows) (m : Bool) : cnt (progP rows) (gN m) = none := by
  refine cnt_none fun h => ?_
  unfold progP at h
  rw [List.map_append] at h
  rcases List.mem_append.mp h with h | h
  · rw [D.nm] at h
    refine D.f1.out _ (List.mem_append_left _ h) ?_
    cases m <;> decide +kernel
  · rw [List.map_singleton, List.mem_singleton] at h
    cases m <;> exact absurd h (by decide +kernel)
theorem P_u (D : Drawn usK tgK S rows) {r : Rw} (hr : r ∈ progP rows) : ∀ m, uN m ∉ r.2.1 := by
  intro m h
  rcases List.mem_append.mp hr with hr | hr
  · refine D.f1.out _ (List.mem_append_right _ ((D.row r hr).2.2.1 _ h)) ?_
    cases m <;> decide +kernel
  · rw [List.mem_singleton.mp hr] at h
    cases h
theorem P_row (D : Drawn usK tgK S rows) : ∀ r ∈ progP rows, RowN 17746 r := by
  intro r hr
  rcases List.mem_append.mp hr with hr | hr
  · have n := D.rwN r hr
    have s := D.sz r hr
    exact ⟨n.f, n.p, by omega, (D.row r hr).2.2.2.fit, n.e, s.2⟩
  · rw [List.mem_singleton.mp hr]
    exact ⟨by decide +kernel, (fun _ h => nomatch h), by decide, rfl, intE_ok 1, by decide⟩
theorem P_len (D : Drawn usK tgK S rows) : 1 ≤ (progP rows).length ∧ (progP rows).length ≤ 6 := by
  have := D.len
  unfold progP
  rw [List.length_append]
  show 1 ≤ rows.length + 1 ∧ rows.length + 1 ≤ 6
  omega
/-- the parts as they were have no fault -/
theorem P_base (D : Drawn usK tgK S rows) {rows' : List Rw} (hc : ∀ f n, (f, n) ∈ S.fs → cnt rows' f = some n) : ∀ r ∈ progP rows, (∀ k, locK rows' (tl (tsK S)) r.2.1 k r.2.2 = none) ∧ (∀ k, preK k r.2.1 = none) ∧ ∀ kn, TagP (tsK S) kn r.2.2 (tl (tsK S) r.2.2) := by
  intro r hr
  rcases List.mem_append.mp hr with hr | hr
  · obtain ⟨h1, h2, h3, h4⟩ := D.row r hr
    have w := h4.wf
    have ev : ∀ q ∈ evs r.2.2, q ∈ tsK S := fun q hq => List.mem_append_left _ (ev_in w q hq)
    refine ⟨fun k => ?_, fun k => ?_, fun kn => (tl_clean ev).2⟩
    · cases k with
      | par => exact param_row w
      | unb =>
        show (Pg.ub r.2.2 r.2.1).head? = none
        rw [h4.ub]; rfl
      | cal => exact call_row hc w
      | tag => exact (tl_clean (kn := fun _ => False) ev).1
      | bra => exact branch_row w
    · cases k with
      | par => exact rep_none h2
      | _ => rfl
  · rw [List.mem_singleton.mp hr]
    refine ⟨fun k => ?_, fun k => by cases k <;> rfl, fun kn => (tl_clean (by intro q hq; cases hq)).2⟩
    cases k with
    | unb =>
      show (Pg.ub (intE 1) []).head? = none
      rw [ub_int]; rfl
    | tag => exact (tl_clean (ts := tsK S) (kn := fun _ => False) (e := intE 1) (by intro q hq; cases hq)).1
    | _ => rfl
theorem gK_none {rows' : List Rw} {t : Ex → Option Str} {k : Kn} {r : Rw} (h1 : locK rows' t r.2.1 k r.2.2 = none) (h2 : preK k r.2.1 = none) : gK rows' t k (r.1, r.2.1, [r.2.2]) = none := by
  unfold gK
  rw [h2, Option.none_or, fs_cons, h1]; rfl
theorem bp_none (D : Drawn usK tgK S rows) {rows' : List Rw} (hc : ∀ f n, (f, n) ∈ S.fs → cnt rows' f = some n) (k : Kn) : ∀ p ∈ bp (progP rows), gK rows' (tl (tsK S)) k p = none := by
  intro p hp
  obtain ⟨r, hr, rfl⟩ := List.mem_map.mp hp
  obtain ⟨h1, h2, _⟩ := P_base D hc r hr
  exact gK_none (h1 k) (h2 k)
theorem bp_tag (D : Drawn usK tgK S rows) (kn : Str × Nat → Prop) : ∀ q ∈ bp (progP rows), ∀ e ∈ q.2.2, TagP (tsK S) kn e (tl (tsK S) e) := by
  intro q hq e he
  obtain ⟨r, hr, rfl⟩ := List.mem_map.mp hq
  rw [List.mem_singleton.mp he]
  exact (P_base D (rows' := progP rows) (fun f n h => P_cnt D h) r hr).2.2 kn
/-- the drawn program has no fault -/
theorem P_none (D : Drawn usK tgK S rows) : faultG (progP rows) = .none := by
  have T := tgs_of D.f2
  rw [fault_parts T.nd (bp_prt _) (P_nd D) ((bp_prt (progP rows)).tag T.nd (kn := fun _ => False) [] (bp_tag D _) (fun _ h => nomatch h) (fun _ h => h.elim))]
  have : ∀ k, over (gK (progP rows) (tl (tsK S)) k) (bp (progP rows)) = none := fun k => over_none (bp_none D (fun f n h => P_cnt D h) k)
  unfold Kn.all
  simp only [List.map_cons, List.map_nil, this]
  rfl
end
end K10
end

/-! K10A -/
section
set_option Elab.async false
set_option linter.all false
set_option maxRecDepth 100000
set_option maxHeartbeats 4000000
namespace K10
open PySem PySem.Spec PyProof.Rows L2 Dh Px Pg
/-! ### what is put in, and what is told of it -/
structure Put (S : Sg) (rows : List Rw) (ps : List Str) (kn : Str × Nat → Prop) (e : Ex) (v : Kn → Option Str) : Prop where
  fit : e.fit = true
  ok : okE e = true
  n : e.n ≤ 100
  l : ∀ k, locK rows (tl (tsK S)) ps k e = v k
  t : TagP (tsK S) kn e (tl (tsK S) e)
def vOf (k : Kn) (x : Str) : Kn → Option Str := fun k' => if k' = k then some x else none
section
variable {S : Sg} {rows : List Rw} {ps : List Str} {kn : Str × Nat → Prop}
theorem put_small (W : Wh S rows ps) (k : Kn) (m : Bool) : Put S rows ps kn (small k m) (vOf k (near k m)) where
  fit := by cases k <;> cases m <;> decide +kernel
  ok := by cases k <;> cases m <;> decide +kernel
  n := by cases k <;> cases m <;> decide +kernel
  l k' := small_loc W k k' m
  t := (small_tag W k m).2
/-- where nothing is bound nowhere and nothing is called -/
theorem put_plain {e : Ex} {v : Kn → Option Str} (fit : e.fit = true) (ok : okE e = true) (n : e.n ≤ 100) (hp : ((brNames e).findSome? fun ns => firstRep ns []) = v .par) (hu : Pg.ub e ps = []) (vu : v .unb = none) (hc : ((pre e).all fun p => match p with | .nd (.nd (.call _) _) => false | _ => true) = true) (vc : v .cal = none)
    (hb : (pre e).findSome? brTag = v .bra) (ht : tl (tsK S) e = v .tag ∧ TagP (tsK S) kn e (tl (tsK S) e)) : Put S rows ps kn e v := by
  refine ⟨fit, ok, n, fun k => ?_, ht.2⟩
  cases k with
  | par => exact hp
  | unb =>
    show (Pg.ub e ps).head? = _
    rw [hu, vu]; rfl
  | cal =>
    rw [vc]
    refine fs_nil fun p hp => ?_
    have := List.all_eq_true.mp hc p hp
    unfold callBad
    split
    · cases this
    · rfl
  | tag => exact ht.1
  | bra => exact hb
def outerE (b : Bool) : Ex := if b = true then .nd (.cas [("B2", []), ("Zz", []), ("B2", [])]) [intE 1, small .bra false, intE 0, intE 0] else .nd (.cas [("B2", []), ("B2", [])]) [small .bra false, intE 0, intE 0]
theorem put_outer (b : Bool) : Put S rows ps kn (outerE b) (vOf .bra "B2") := by
  refine put_plain ?_ ?_ ?_ ?_ ?_ rfl ?_ rfl ?_ (tl_clean (all_lit ?_))
  all_goals cases b
  all_goals first | rfl | decide +kernel
def oneE (k m : Bool) (e : Ex) : Ex := if k = true then .nd (.make (zN m)) [e] else .nd (.cas [(ppN m, [pN m, pN m])]) [intE 1, e]
def brK (k m : Bool) : Str × List Str := if k = true then (zN m, ["q1"]) else (ppN m, [pN m, pN m])
def nestE (k : Bool) : List Ex := [.nd (.cas [brK k true]) [oneE k false (intE 0), intE 0], .nd (.cas [("Zz", []), brK k true]) [intE 0, oneE k false (intE 0), intE 0], .nd (.cas [brK k false]) [intE 0, oneE k true (intE 0)], oneE k false (oneE k true (intE 0))]
def nestK (k : Bool) : Kn := if k = true then .tag else .par
def nestX (k : Bool) : Str := if k = true then "Z1" else "p1"
theorem put_nest (T : Tgs S) (k : Bool) (hk : k = true → kn ("Z1", 0)) : ∀ e ∈ nestE k, Put S rows ps kn e (vOf (nestK k) (nestX k)) := by
  have z1 : (("Z1" : Str), 1) ∉ tsK S := T.out "Z1" (by decide +kernel) 1 (by decide +kernel)
  intro e he
  simp only [nestE, List.mem_cons, List.not_mem_nil, or_false] at he
  cases k with
  | false =>
    rcases he with rfl | rfl | rfl | rfl
    all_goals
      refine put_plain ?_ ?_ ?_ ?_ ?_ rfl ?_ rfl ?_ (tl_clean (all_lit ?_))
      all_goals first | rfl | decide +kernel
  | true =>
    have kz := hk rfl
    rcases he with rfl | rfl | rfl | rfl
    · refine put_plain ?_ ?_ ?_ ?_ ?_ rfl ?_ rfl ?_ (tl_bad (z := "Z1") (n := 0) (m := 1) (C := []) (R := [("Z2", 1)]) ?_ (fun _ h => nomatch h) z1 (by decide) (.inr kz))
      all_goals first | rfl | decide +kernel
    · refine put_plain ?_ ?_ ?_ ?_ ?_ rfl ?_ rfl ?_ (tl_bad (z := "Z1") (n := 0) (m := 1) (C := [("Zz", 0)]) (R := [("Z2", 1)]) ?_ (all_lit (by decide +kernel)) z1 (by decide) (.inr kz))
      all_goals first | rfl | decide +kernel
    · refine put_plain ?_ ?_ ?_ ?_ ?_ rfl ?_ rfl ?_ (tl_bad (z := "Z1") (n := 0) (m := 1) (C := []) (R := [("Z2", 1)]) ?_ (fun _ h => nomatch h) z1 (by decide) (.inr kz))
      all_goals first | rfl | decide +kernel
    · refine put_plain ?_ ?_ ?_ ?_ ?_ rfl ?_ rfl ?_ (tl_bad (z := "Z1") (n := 0) (m := 1) (C := []) (R := [("Z2", 1)]) ?_ (fun _ h => nomatch h) z1 (by decide) (.inr kz))
      all_goals first | rfl | decide +kernel
def call2 : Ex := .nd (.call "g1") [.nd (.call "g2") []]
theorem put_call2 (W : Wh S rows ps) : Put S rows ps kn call2 (vOf .cal "g1") := by
  refine ⟨by decide +kernel, by decide +kernel, by decide +kernel, fun k => ?_, (tl_clean (all_lit (by decide +kernel))).2⟩
  cases k with
  | par => rfl
  | unb => rfl
  | cal =>
    show [Pl.nd (.nd (.call "g1") [.nd (.call "g2") []]), Pl.nd (.nd (.call "g2") [])].findSome? (callBad rows) = _
    have hb : callBad rows (.nd (.nd (.call "g1") [.nd (.call "g2") []])) = some ("g1" : Str) := by
      have hg : cnt rows "g1" = none := W.g false
      show (if cnt rows "g1" = some 1 then none else some ("g1" : Str)) = _
      rw [hg]; rfl
    rw [fs_cons, hb]; rfl
  | tag => exact (tl_clean (ts := tsK S) (kn := fun _ => False) (e := call2) (all_lit (by decide +kernel))).1
  | bra => rfl
end
/-! ### rows with something put in -/
theorem opE_prt (a b : Ex) : Prt (opE a b) [a, b] := Prt.op (.one a) (.one b)
theorem opE_fit {a b : Ex} (fa : a.fit = true) (fb : b.fit = true) (oa : okE a = true) (ob : okE b = true) : (opE a b).fit = true ∧ okE (opE a b) = true ∧ (opE a b).n = 1 + a.n + b.n := by
  have two : ∀ e ∈ [a, b], e = a ∨ e = b := fun e he => by simpa using he
  refine ⟨?_, okE_nd.mpr ⟨by decide +kernel, fun e he => ?_⟩, ?_⟩
  · unfold opE
    rw [Ex.fit, show (Hd.op "+").fits [a, b].length = true from rfl, Bool.true_and]
    refine fitL_iff.mpr fun e he => ?_
    rcases two e he with rfl | rfl
    · exact fa
    · exact fb
  · rcases two e he with rfl | rfl
    · exact oa
    · exact ob
  · unfold opE
    rw [Ex.n, nL, nL, nL]
    show 1 + 0 + (a.n + (b.n + 0)) = _
    omega
theorem wrap_row {N : Nat} {r : Rw} (h : RowN N r) {e : Ex} (ef : e.fit = true) (eo : okE e = true) (en : e.n ≤ 100) (b : Bool) : RowN (N + 101) (wrapR r e b) := by
  have hn := h.n
  cases b with
  | true =>
    obtain ⟨h1, h2, h3⟩ := opE_fit ef h.fit eo h.ok
    exact ⟨h.f, h.p, h.l, h1, h2, by show (opE e r.2.2).n ≤ _; omega⟩
  | false =>
    obtain ⟨h1, h2, h3⟩ := opE_fit h.fit ef h.ok eo
    exact ⟨h.f, h.p, h.l, h1, h2, by show (opE r.2.2 e).n ≤ _; omega⟩
theorem RowN.mono {N M : Nat} {r : Rw} (h : RowN N r) (hm : N ≤ M) : RowN M r := ⟨h.f, h.p, h.l, h.fit, h.ok, Nat.le_trans h.n hm⟩
theorem add_rows {N : Nat} {rows : List Rw} (h : ∀ r ∈ rows, RowN N r) {i : Nat} (hi : i < rows.length) {e : Ex} (ef : e.fit = true) (eo : okE e = true) (en : e.n ≤ 100) (b : Bool) : ∀ r ∈ addR rows i e b, RowN (N + 101) r := by
  rw [addR_eq hi]
  intro r hr
  rcases List.mem_or_eq_of_mem_set hr with hr | rfl
  · exact (h r hr).mono (by omega)
  · exact wrap_row (h _ (List.getElem_mem hi)) ef eo en b
end K10
end

/-! K10B -/
section
set_option Elab.async false
set_option linter.all false
set_option maxRecDepth 100000
set_option maxHeartbeats 4000000
namespace K10
open PySem PySem.Spec PyProof.Rows L2 Dh Px Pg
/-! ### the fault of a program with something put in -/
theorem locK_sig {rows rows' : List Rw} (h : ∀ f, cnt rows f = cnt rows' f) (t : Ex → Option Str) (ps : List Str) (k : Kn) (e : Ex) : locK rows t ps k e = locK rows' t ps k e := by
  have : callBad rows = callBad rows' := by
    funext p
    unfold callBad
    split
    · rename_i f es
      rw [h f]
    · rfl
  cases k <;> first | rfl | (show (pre e).findSome? (callBad rows) = (pre e).findSome? (callBad rows'); rw [this])
theorem gK_sig {rows rows' : List Rw} (h : ∀ f, cnt rows f = cnt rows' f) (t : Ex → Option Str) (k : Kn) (p : PR) : gK rows t k p = gK rows' t k p := by
  unfold gK
  have : locK rows t p.2.1 k = locK rows' t p.2.1 k := by funext e; exact locK_sig h t p.2.1 k e
  rw [this]
theorem add_prt {rows : List Rw} {qs : List PR} (h : PrtL rows qs) {i : Nat} (hi : i < rows.length) (hq : i < qs.length) (e : Ex) (b : Bool) : PrtL (addR rows i e b) (qs.set i (rows[i].1, rows[i].2.1, if b = true then e :: qs[i].2.2 else qs[i].2.2 ++ [e])) := by
  rw [addR_eq hi]
  obtain ⟨_, _, p⟩ := h.at hi hq
  refine h.set (f := rows[i].1) (ps := rows[i].2.1) ?_
  cases b with
  | true => exact Prt.op (.one e) p
  | false => exact Prt.op p (.one e)
theorem bp_len (rows : List Rw) : (bp rows).length = rows.length := List.length_map _
theorem bp_at {rows : List Rw} {i : Nat} (h : i < (bp rows).length) (h' : i < rows.length) : (bp rows)[i] = (rows[i].1, rows[i].2.1, [rows[i].2.2]) := by
  exact List.getElem_map (fun r : Rw => ((r.1, r.2.1, [r.2.2]) : PR))
section
variable {S : Sg} {rows : List Rw}
theorem P_wh (D : Drawn usK tgK S rows) {i : Nat} (hi : i < (progP rows).length) : Wh S (progP rows) (progP rows)[i].2.1 := ⟨tgs_of D.f2, P_g D, P_u D (List.getElem_mem hi)⟩
theorem tag_set {kn : Str × Nat → Prop} {t : Ex → Option Str} {ts : Szs} {qs : List PR} {i : Nat} {r : PR} (h : ∀ q ∈ qs, ∀ e ∈ q.2.2, TagP ts kn e (t e)) (hr : ∀ e ∈ r.2.2, TagP ts kn e (t e)) : ∀ q ∈ qs.set i r, ∀ e ∈ q.2.2, TagP ts kn e (t e) := by
  intro q hq
  rcases List.mem_or_eq_of_mem_set hq with hq | rfl
  · exact h q hq
  · exact hr
/-- what is told of a row with one thing put in -/
theorem gK_one (D : Drawn usK tgK S rows) {kn : Str × Nat → Prop} {i : Nat} (hi : i < (progP rows).length) {e : Ex} {v : Kn → Option Str} (p : Put S (progP rows) (progP rows)[i].2.1 kn e v) (b : Bool) (k : Kn) :
    gK (progP rows) (tl (tsK S)) k ((progP rows)[i].1, (progP rows)[i].2.1, if b = true then [e, (progP rows)[i].2.2] else [(progP rows)[i].2.2, e]) = v k := by
  obtain ⟨h1, h2, _⟩ := P_base D (fun f n h => P_cnt D h) _ (List.getElem_mem hi)
  unfold gK
  rw [h2 k, Option.none_or]
  cases b with
  | true =>
    show [e, _].findSome? _ = _
    rw [fs_cons, fs_cons]
    dsimp only
    rw [p.l, h1 k]
    cases v k <;> rfl
  | false =>
    show [_, e].findSome? _ = _
    rw [fs_cons, fs_cons]
    dsimp only
    rw [p.l, h1 k]
    cases v k <;> rfl
def dueK (f : Str) (v : Kn → Option Str) : PyData := firstK (Kn.all.map fun k => (k.w, (v k).map fun x => (f, x)))
theorem due_vOf (f : Str) (k : Kn) (x : Str) : dueK f (vOf k x) = faultD k.w (some (f, x)) := by cases k <;> rfl
theorem one_fault (D : Drawn usK tgK S rows) {i : Nat} (hi : i < (progP rows).length) {e : Ex} {v : Kn → Option Str} (p : Put S (progP rows) (progP rows)[i].2.1 (fun _ => False) e v) (b : Bool) :
    InPut (addR (progP rows) i e b) (dueK (progP rows)[i].1 v) := by
  have T := tgs_of D.f2
  have hq : i < (bp (progP rows)).length := by rw [bp_len]; exact hi
  have P1 := add_prt (bp_prt (progP rows)) hi hq e b
  rw [bp_at hq hi] at P1
  have cs := cnt_sig (addR_sig (progP rows) i e b)
  have nd : ((addR (progP rows) i e b).map (·.1)).Nodup := by rw [names_sig (addR_sig (progP rows) i e b)]; exact P_nd D
  have lens := P_len D
  refine inp_of (by rw [addR_len]; omega) (fun z => by have := addR_len (progP rows) i e b; rw [z] at this; simp at this; omega) (fun r hr => (add_rows (P_row D) hi p.fit p.ok p.n b r hr).mono (by decide)) ?_
  rw [fault_parts T.nd P1 nd (P1.tag T.nd (kn := fun _ => False) [] (tag_set (bp_tag D _) fun x hx => ?_) (fun _ h => nomatch h) fun _ h => h.elim)]
  · unfold dueK
    congr 1
    refine List.map_congr_left fun k _ => ?_
    rw [show gK (addR (progP rows) i e b) (tl (tsK S)) k = gK (progP rows) (tl (tsK S)) k by funext q; exact gK_sig cs _ k q, over_set (bp_none D (fun f n h => P_cnt D h) k) hq]
    have := gK_one D hi p b k
    cases b with
    | true =>
      rw [if_pos rfl] at this ⊢
      rw [this]
    | false =>
      rw [if_neg (by decide)] at this ⊢
      exact congrArg (fun o => (k.w, Option.map (fun x => ((progP rows)[i].1, x)) o)) this
  · have bt := (P_base D (rows' := progP rows) (fun f n h => P_cnt D h) _ (List.getElem_mem hi)).2.2 (fun _ => False)
    cases b with
    | true =>
      rw [if_pos rfl] at hx
      simp only [List.mem_cons, List.not_mem_nil, or_false] at hx
      rcases hx with rfl | rfl
      · exact p.t
      · exact bt
    | false =>
      rw [if_neg (by decide)] at hx
      simp only [List.singleton_append, List.mem_cons, List.not_mem_nil, or_false] at hx
      rcases hx with rfl | rfl
      · exact bt
      · exact p.t
/-- two things put in: one ahead, one behind -/
def twoV (a b : Kn → Option Str) (f g : Str) (le : Bool) (k : Kn) : Option (Str × Str) :=
  if le = true then ((a k).map fun x => (f, x)).or ((b k).map fun x => (g, x)) else ((b k).map fun x => (g, x)).or ((a k).map fun x => (f, x))
theorem two_fault (D : Drawn usK tgK S rows) {i j : Nat} (hi : i < (progP rows).length) (hj : j < (progP rows).length) {e a : Ex} {v u : Kn → Option Str} (p : Put S (progP rows) (progP rows)[i].2.1 (fun _ => False) e v) (q : Put S (progP rows) (progP rows)[j].2.1 (fun _ => False) a u) :
    InPut (addR (addR (progP rows) i e true) j a false) (firstK (Kn.all.map fun k => (k.w, twoV v u (progP rows)[i].1 (progP rows)[j].1 (decide (i ≤ j)) k))) := by
  have T := tgs_of D.f2
  have hq : i < (bp (progP rows)).length := by rw [bp_len]; exact hi
  have hqj : j < (bp (progP rows)).length := by rw [bp_len]; exact hj
  have P1 := add_prt (bp_prt (progP rows)) hi hq e true
  rw [bp_at hq hi, if_pos rfl] at P1
  have hj1 : j < (addR (progP rows) i e true).length := by rw [addR_len]; exact hj
  have hj2 : j < ((bp (progP rows)).set i ((progP rows)[i].1, (progP rows)[i].2.1, [e, (progP rows)[i].2.2])).length := by rw [List.length_set]; exact hqj
  have P2 := add_prt P1 hj1 hj2 a false
  rw [if_neg (by decide)] at P2
  have sg := (addR_sig (addR (progP rows) i e true) j a false).trans (addR_sig (progP rows) i e true)
  have cs := cnt_sig sg
  have nd : ((addR (addR (progP rows) i e true) j a false).map (·.1)).Nodup := by rw [names_sig sg]; exact P_nd D
  have lens := P_len D
  have bn := fun k => bp_none D (rows' := progP rows) (fun f n h => P_cnt D h) k
  have bi := P_base D (rows' := progP rows) (fun f n h => P_cnt D h) _ (List.getElem_mem hi)
  have bj := P_base D (rows' := progP rows) (fun f n h => P_cnt D h) _ (List.getElem_mem hj)
  have len2 : (addR (addR (progP rows) i e true) j a false).length = (progP rows).length := by rw [addR_len, addR_len]
  have n1 : (addR (progP rows) i e true)[j].1 = (progP rows)[j].1 ∧ (addR (progP rows) i e true)[j].2.1 = (progP rows)[j].2.1 := by
    have hs := addR_sig (progP rows) i e true
    have h1 : ((addR (progP rows) i e true).map fun r => (r.1, r.2.1))[j]? = ((progP rows).map fun r => (r.1, r.2.1))[j]? := by rw [hs]
    rw [List.getElem?_map, List.getElem?_map, List.getElem?_eq_getElem hj1, List.getElem?_eq_getElem hj] at h1
    have h1 := Option.some.inj h1
    exact Prod.mk.inj h1
  rw [n1.1, n1.2] at P2
  refine inp_of (by rw [len2]; omega) (fun z => by rw [z] at len2; simp at len2; omega) (fun r hr => (add_rows (add_rows (P_row D) hi p.fit p.ok p.n true) hj1 q.fit q.ok q.n false r hr).mono (by decide)) ?_
  -- what stands in row j before
  by_cases ij : i = j
  · subst ij
    rw [List.getElem_set_self] at P2
    rw [List.set_set] at P2
    rw [fault_parts T.nd P2 nd (P2.tag T.nd (kn := fun _ => False) [] (tag_set (bp_tag D _) fun x hx => ?_) (fun _ h => nomatch h) fun _ h => h.elim)]
    · congr 1
      refine List.map_congr_left fun k _ => ?_
      rw [show gK (addR (addR (progP rows) i e true) i a false) (tl (tsK S)) k = gK (progP rows) (tl (tsK S)) k by funext q; exact gK_sig cs _ k q, over_set (bn k) hq]
      have : gK (progP rows) (tl (tsK S)) k ((progP rows)[i].1, (progP rows)[i].2.1, [e, (progP rows)[i].2.2] ++ [a]) = (v k).or (u k) := by
        unfold gK
        rw [bi.2.1 k, Option.none_or]
        show [e, _, a].findSome? _ = _
        rw [fs_cons, fs_cons, fs_cons]
        dsimp only
        rw [p.l, bi.1 k, q.l]
        cases v k <;> cases u k <;> rfl
      have e1 : twoV v u (progP rows)[i].1 (progP rows)[i].1 (decide (i ≤ i)) k = ((v k).or (u k)).map fun x => ((progP rows)[i].1, x) := by
        unfold twoV
        rw [decide_eq_true (Nat.le_refl i), if_pos rfl]
        cases v k <;> cases u k <;> rfl
      rw [e1, ← this]
    · simp only [List.cons_append, List.nil_append, List.mem_cons, List.not_mem_nil, or_false] at hx
      rcases hx with rfl | rfl | rfl
      · exact p.t
      · exact bi.2.2 _
      · exact q.t
  · rw [List.getElem_set_ne ij, bp_at hqj hj] at P2
    rw [fault_parts T.nd P2 nd (P2.tag T.nd (kn := fun _ => False) [] (tag_set (tag_set (bp_tag D _) fun x hx => ?_) fun x hx => ?_) (fun _ h => nomatch h) fun _ h => h.elim)]
    · congr 1
      refine List.map_congr_left fun k _ => ?_
      rw [show gK (addR (addR (progP rows) i e true) j a false) (tl (tsK S)) k = gK (progP rows) (tl (tsK S)) k by funext q; exact gK_sig cs _ k q, over_set2 (bn k) hq hqj ij]
      have g1 := gK_one D hi p true k
      have g2 := gK_one D hj q false k
      rw [if_pos rfl] at g1
      rw [if_neg (by decide)] at g2
      dsimp only [List.cons_append, List.nil_append]
      rw [g1, g2]
      unfold twoV
      by_cases lt : i < j
      · rw [if_pos lt, decide_eq_true (by omega), if_pos rfl]
      · rw [if_neg lt, decide_eq_false (by omega), if_neg (by decide)]
    · simp only [List.mem_cons, List.not_mem_nil, or_false] at hx
      rcases hx with rfl | rfl
      · exact p.t
      · exact bi.2.2 _
    · simp only [List.cons_append, List.nil_append, List.mem_cons, List.not_mem_nil, or_false] at hx
      rcases hx with rfl | rfl
      · exact bj.2.2 _
      · exact q.t
end
end K10
end

/-! K10C -/
section
set_option Elab.async false
set_option linter.all false
set_option maxRecDepth 100000
set_option maxHeartbeats 4000000
namespace K10
open PySem PySem.Spec PyProof.Rows L2 Dh Px Pg
theorem firstRep_app : ∀ (ws vs seen : List Str), firstRep ws seen = none → firstRep (ws ++ vs) seen = firstRep vs (seen ++ ws)
  | [], vs, seen, _ => by rw [List.nil_append, List.append_nil]
  | w :: ws, vs, seen, h => by
    rw [firstRep] at h
    rw [List.cons_append, firstRep]
    by_cases hw : w ∈ seen
    · rw [if_pos hw] at h; cases h
    · rw [if_neg hw] at h ⊢
      rw [firstRep_app ws vs _ h, List.append_assoc]; rfl
def twoD (f : Str) : PyData := .tuple [.str "twice", .str f]
/-- a definition more, of a name that is there -/
theorem twice_fault {rows : List Rw} (nd : (rows.map (·.1)).Nodup) {f : Str} (hf : f ∈ rows.map (·.1)) (l : rows.length ≤ 7) (h : ∀ r ∈ rows, RowK r) : InPut (rows ++ [(f, [], intE 1)]) (twoD f) := by
  have nf : isName (.str f) = true := by
    obtain ⟨r, hr, rfl⟩ := List.mem_map.mp hf
    exact (h r hr).f
  refine inp_of (by rw [List.length_append]; show rows.length + 1 ≤ 8; omega) (by simp) (fun r hr => ?_) ?_
  · rcases List.mem_append.mp hr with hr | hr
    · exact h r hr
    · rw [List.mem_singleton.mp hr]
      exact ⟨nf, (fun _ z => nomatch z), by show 0 ≤ 20; omega, rfl, intE_ok 1, by show 1 ≤ 20000; omega⟩
  · have : twiceF (rows ++ [(f, [], intE 1)]) = some f := by
      unfold twiceF
      rw [List.map_append, firstRep_app _ _ _ (rep_none nd)]
      show firstRep [f] ([] ++ rows.map (·.1)) = _
      rw [List.nil_append, firstRep, if_pos hf]
    have e1 : gTwice (rows ++ [(f, [], intE 1)]) = twoD f := by unfold gTwice; rw [this]; rfl
    unfold faultG
    rw [firstOf]
    have key : ∀ x : PyData, x = twoD f → (if isNone x = true then firstOf [gParam, gUnb, gCall, gTag, gBranch] (rows ++ [(f, [], intE 1)]) else x) = twoD f := by
      intro x hx
      subst hx
      rw [if_neg (show ¬ isNone (twoD f) = true from Bool.false_ne_true)]
    exact key _ e1
section
variable {S : Sg} {rows : List Rw}
/-! ### a definition ahead of all -/
def aheadE : Ex := letE "x0" (.nd (.make "Z1") []) (.nd (.make "Z2") [])
def aheadR : Rw := ("ahead", [], aheadE)
def knZ (q : Str × Nat) : Prop := q = (("Z1" : Str), 0)
theorem ahead_nd (D : Drawn usK tgK S rows) : ((aheadR :: progP rows).map (·.1)).Nodup := by
  rw [List.map_cons, List.nodup_cons]
  refine ⟨fun h => ?_, P_nd D⟩
  unfold progP at h
  rw [List.map_append] at h
  rcases List.mem_append.mp h with h | h
  · rw [D.nm] at h
    exact D.f1.out _ (List.mem_append_left _ h) (by decide +kernel)
  · rw [List.map_singleton, List.mem_singleton] at h
    exact absurd h (by decide +kernel)
theorem ahead_fault (D : Drawn usK tgK S rows) {i : Nat} (hi : i < (progP rows).length) (b : Bool) {e : Ex} {v : Kn → Option Str} (p : Put S (aheadR :: addR (progP rows) i e b) (progP rows)[i].2.1 knZ e v) :
    InPut (aheadR :: addR (progP rows) i e b) (dueK (progP rows)[i].1 v) := by
  have T := tgs_of D.f2
  have hq : i < (bp (progP rows)).length := by rw [bp_len]; exact hi
  have P1 := add_prt (bp_prt (progP rows)) hi hq e b
  rw [bp_at hq hi] at P1
  have sg : (aheadR :: addR (progP rows) i e b).map (fun r => (r.1, r.2.1)) = (aheadR :: progP rows).map fun r => (r.1, r.2.1) := by
    rw [List.map_cons, List.map_cons, addR_sig]
  have nd : ((aheadR :: addR (progP rows) i e b).map (·.1)).Nodup := by rw [names_sig sg]; exact ahead_nd D
  have hc : ∀ f n, (f, n) ∈ S.fs → cnt (aheadR :: addR (progP rows) i e b) f = some n := fun f n h => by
    rw [cnt_sig sg]
    refine cnt_from f n _ none (ahead_nd D) ?_
    rw [List.map_cons]
    refine List.mem_cons_of_mem _ ?_
    unfold progP
    rw [List.map_append, D.wel.hfs]
    exact List.mem_append_left _ h
  have lens := P_len D
  have PA : PrtL (aheadR :: addR (progP rows) i e b) (("ahead", [], [aheadE]) :: (bp (progP rows)).set i ((progP rows)[i].1, (progP rows)[i].2.1, if b = true then e :: [(progP rows)[i].2.2] else [(progP rows)[i].2.2] ++ [e])) := .cons (.one _) P1
  have bi := P_base D hc _ (List.getElem_mem hi)
  have ct : tl (tsK S) aheadE = none := (tl_clean (kn := fun _ => False) (all_lit (by decide +kernel))).1
  refine inp_of (by rw [List.length_cons, addR_len]; omega) (by simp) (fun r hr => ?_) ?_
  · rcases List.mem_cons.mp hr with rfl | hr
    · exact ⟨by decide +kernel, (fun _ z => nomatch z), by decide, by decide +kernel, by decide +kernel, by decide +kernel⟩
    · exact (add_rows (P_row D) hi p.fit p.ok p.n b r hr).mono (by decide)
  have tg : tagF (aheadR :: addR (progP rows) i e b) = over (fun p => p.2.2.findSome? (tl (tsK S))) (("ahead", [], [aheadE]) :: (bp (progP rows)).set i ((progP rows)[i].1, (progP rows)[i].2.1, if b = true then e :: [(progP rows)[i].2.2] else [(progP rows)[i].2.2] ++ [e])) := by
    unfold tagF
    rw [tagRows, show tagRun (pre aheadR.2.2) [] = ([(("Z1" : Str), 0), (("Z2" : Str), 0)], none) by rw [run_ev]; decide +kernel, over_cons]
    dsimp only
    rw [fs_cons, ct]
    refine P1.tag T.nd (kn := knZ) (tl := tl (tsK S)) [("Z1", 0), ("Z2", 0)] (tag_set (bp_tag D _) fun x hx => ?_) (fun q hq => in_lit ?_) fun q hq => by rw [hq]; show List.lookup _ _ = _; decide +kernel
    · cases b with
      | true =>
        rw [if_pos rfl] at hx
        simp only [List.mem_cons, List.not_mem_nil, or_false] at hx
        rcases hx with rfl | rfl
        · exact p.t
        · exact bi.2.2 _
      | false =>
        rw [if_neg (by decide)] at hx
        simp only [List.singleton_append, List.mem_cons, List.not_mem_nil, or_false] at hx
        rcases hx with rfl | rfl
        · exact bi.2.2 _
        · exact p.t
    · simp only [List.mem_cons, List.not_mem_nil, or_false] at hq
      rcases hq with rfl | rfl <;> decide +kernel
  rw [fault_parts T.nd PA nd tg]
  unfold dueK
  congr 1
  refine List.map_congr_left fun k _ => ?_
  have a0 : gK (aheadR :: addR (progP rows) i e b) (tl (tsK S)) k ("ahead", [], [aheadE]) = none := by
    unfold gK
    have : locK (aheadR :: addR (progP rows) i e b) (tl (tsK S)) [] k aheadE = none := by
      cases k with
      | par => rfl
      | unb => rfl
      | cal => rfl
      | tag => exact ct
      | bra => rfl
    rw [show preK k [] = none by cases k <;> rfl, Option.none_or, fs_cons, this]; rfl
  rw [over_cons, a0]
  show (k.w, over _ _) = _
  rw [over_set (bp_none D hc k) hq]
  have : gK (aheadR :: addR (progP rows) i e b) (tl (tsK S)) k ((progP rows)[i].1, (progP rows)[i].2.1, if b = true then e :: [(progP rows)[i].2.2] else [(progP rows)[i].2.2] ++ [e]) = v k := by
    unfold gK
    rw [bi.2.1 k, Option.none_or]
    cases b with
    | true =>
      show [e, _].findSome? _ = _
      rw [fs_cons, fs_cons]
      dsimp only
      rw [p.l, bi.1 k]
      cases v k <;> rfl
    | false =>
      show [_, e].findSome? _ = _
      rw [fs_cons, fs_cons]
      dsimp only
      rw [p.l, bi.1 k]
      cases v k <;> rfl
  rw [this]
/-! ### parameters more -/
abbrev p22 : List Str := ["p2", "p2"]
theorem P_params (D : Drawn usK tgK S rows) {r : Rw} (hr : r ∈ progP rows) : r.2.1.length ≤ 3 ∧ ("p2" : Str) ∉ r.2.1 := by
  rcases List.mem_append.mp hr with hr | hr
  · refine ⟨(D.sz r hr).1, fun h => D.f1.out _ (List.mem_append_right _ ((D.row r hr).2.2.1 _ h)) (by decide +kernel)⟩
  · rw [List.mem_singleton.mp hr]
    exact ⟨by decide, fun h => by cases h⟩
def moreR (r : Rw) : Rw := (r.1, r.2.1 ++ p22, r.2.2)
theorem more_fault (D : Drawn usK tgK S rows) {i j : Nat} (hi : i < (progP rows).length) (hj : j < (progP rows).length) (b : Bool) (hj1 : j < (addR (progP rows) i (small .par false) b).length) :
    InPut ((addR (progP rows) i (small .par false) b).set j (moreR (addR (progP rows) i (small .par false) b)[j])) (faultD "parameter" (some (if j ≤ i then ((progP rows)[j].1, ("p2" : Str)) else ((progP rows)[i].1, ("p1" : Str))))) := by
  have T := tgs_of D.f2
  have W := P_wh D hi
  have p : Put S (progP rows) (progP rows)[i].2.1 (fun _ => False) (small .par false) _ := put_small W .par false
  have hq : i < (bp (progP rows)).length := by rw [bp_len]; exact hi
  have hqj : j < (bp (progP rows)).length := by rw [bp_len]; exact hj
  have P1 := add_prt (bp_prt (progP rows)) hi hq (small .par false) b
  rw [bp_at hq hi] at P1
  have lens := P_len D
  have bi := P_base D (rows' := progP rows) (fun f n h => P_cnt D h) _ (List.getElem_mem hi)
  have bj := P_base D (rows' := progP rows) (fun f n h => P_cnt D h) _ (List.getElem_mem hj)
  have n1 : (addR (progP rows) i (small .par false) b)[j].1 = (progP rows)[j].1 ∧ (addR (progP rows) i (small .par false) b)[j].2.1 = (progP rows)[j].2.1 := by
    have hs := addR_sig (progP rows) i (small .par false) b
    have h1 : ((addR (progP rows) i (small .par false) b).map fun r => (r.1, r.2.1))[j]? = ((progP rows).map fun r => (r.1, r.2.1))[j]? := by rw [hs]
    rw [List.getElem?_map, List.getElem?_map, List.getElem?_eq_getElem hj1, List.getElem?_eq_getElem hj] at h1
    exact Prod.mk.inj (Option.some.inj h1)
  have r1 := add_rows (P_row D) hi p.fit p.ok p.n b
  have pj := P_params D (List.getElem_mem hj)
  have nms : ((addR (progP rows) i (small .par false) b).set j (moreR (addR (progP rows) i (small .par false) b)[j])).map (·.1) = (progP rows).map (·.1) := by
    rw [← names_sig (addR_sig (progP rows) i (small .par false) b), List.map_set]
    show List.set _ j (addR (progP rows) i (small .par false) b)[j].1 = _
    apply List.ext_getElem?
    intro m
    by_cases q : j = m
    · subst q
      rw [List.getElem?_set_self (by rw [List.length_map]; exact hj1), List.getElem?_map, List.getElem?_eq_getElem hj1]; rfl
    · rw [List.getElem?_set_ne q]
  refine inp_of (by rw [List.length_set, addR_len]; omega) (fun z => by have := congrArg List.length z; rw [List.length_set, addR_len, List.length_nil] at this; omega) (fun r hr => ?_) ?_
  · rcases List.mem_or_eq_of_mem_set hr with hr | rfl
    · exact (r1 r hr).mono (by decide)
    · have h := r1 _ (List.getElem_mem hj1)
      refine ⟨h.f, fun x hx => ?_, ?_, h.fit, h.ok, Nat.le_trans h.n (by decide)⟩
      · rcases List.mem_append.mp hx with hx | hx
        · exact h.p x hx
        · simp only [List.mem_cons, List.not_mem_nil, or_false, or_self] at hx
          subst hx
          decide +kernel
      · show ((addR (progP rows) i (small .par false) b)[j].2.1 ++ p22).length ≤ 20
        rw [n1.2, List.length_append]
        have := pj.1
        show _ + 2 ≤ 20
        omega
  have hj2 : j < ((bp (progP rows)).set i ((progP rows)[i].1, (progP rows)[i].2.1, if b = true then small .par false :: [(progP rows)[i].2.2] else [(progP rows)[i].2.2] ++ [small .par false])).length := by rw [List.length_set]; exact hqj
  obtain ⟨_, _, pp⟩ := P1.at hj1 hj2
  have P2 := P1.set (i := j) (f := (progP rows)[j].1) (ps := (progP rows)[j].2.1 ++ p22) pp
  have em : moreR (addR (progP rows) i (small .par false) b)[j] = ((progP rows)[j].1, (progP rows)[j].2.1 ++ p22, (addR (progP rows) i (small .par false) b)[j].2.2) := by
    unfold moreR
    rw [n1.1, n1.2]
  rw [em] at nms ⊢
  have nd := nms ▸ P_nd D
  have bt : ∀ q ∈ (bp (progP rows)).set i ((progP rows)[i].1, (progP rows)[i].2.1, if b = true then small .par false :: [(progP rows)[i].2.2] else [(progP rows)[i].2.2] ++ [small .par false]), ∀ e ∈ q.2.2, TagP (tsK S) (fun _ => False) e (tl (tsK S) e) := by
    refine tag_set (bp_tag D _) fun x hx => ?_
    cases b with
    | true =>
      rw [if_pos rfl] at hx
      simp only [List.mem_cons, List.not_mem_nil, or_false] at hx
      rcases hx with rfl | rfl
      · exact p.t
      · exact bi.2.2 _
    | false =>
      rw [if_neg (by decide)] at hx
      simp only [List.singleton_append, List.mem_cons, List.not_mem_nil, or_false] at hx
      rcases hx with rfl | rfl
      · exact bi.2.2 _
      · exact p.t
  rw [fault_parts T.nd P2 nd (P2.tag T.nd (kn := fun _ => False) [] (tag_set bt fun x hx => bt _ (List.getElem_mem hj2) x hx) (fun _ h => nomatch h) fun _ h => h.elim)]
  generalize hrs : (addR (progP rows) i (small .par false) b).set j ((progP rows)[j].1, (progP rows)[j].2.1 ++ p22, (addR (progP rows) i (small .par false) b)[j].2.2) = rs
  have same : ∀ q : PR, gK rs (tl (tsK S)) .par q = gK (progP rows) (tl (tsK S)) .par q := fun q => rfl
  have key : over (gK rs (tl (tsK S)) .par) (((bp (progP rows)).set i ((progP rows)[i].1, (progP rows)[i].2.1, if b = true then small .par false :: [(progP rows)[i].2.2] else [(progP rows)[i].2.2] ++ [small .par false])).set j ((progP rows)[j].1, (progP rows)[j].2.1 ++ p22, (((bp (progP rows)).set i ((progP rows)[i].1, (progP rows)[i].2.1, if b = true then small .par false :: [(progP rows)[i].2.2] else [(progP rows)[i].2.2] ++ [small .par false]))[j]).2.2)) = some (if j ≤ i then ((progP rows)[j].1, ("p2" : Str)) else ((progP rows)[i].1, ("p1" : Str))) := by
    rw [show gK rs (tl (tsK S)) .par = gK (progP rows) (tl (tsK S)) .par from funext same]
    have bn := bp_none D (rows' := progP rows) (fun f n h => P_cnt D h) .par
    have gj : ∀ es : List Ex, gK (progP rows) (tl (tsK S)) .par ((progP rows)[j].1, (progP rows)[j].2.1 ++ p22, es) = some ("p2" : Str) := by
      intro es
      unfold gK
      have : preK .par ((progP rows)[j].2.1 ++ p22) = some ("p2" : Str) := by
        show firstRep ((progP rows)[j].2.1 ++ p22) [] = _
        rw [firstRep_app _ _ _ (bj.2.1 .par), List.nil_append, firstRep, if_neg pj.2, firstRep, if_pos (by simp)]
      rw [this]; rfl
    by_cases ij : i = j
    · subst ij
      rw [List.set_set, over_set bn hq, gj, if_pos (Nat.le_refl _)]; rfl
    · rw [over_set2 bn hq hqj ij, gj]
      have g1 := gK_one D hi p b .par
      have g1' : gK (progP rows) (tl (tsK S)) .par ((progP rows)[i].1, (progP rows)[i].2.1, if b = true then small .par false :: [(progP rows)[i].2.2] else [(progP rows)[i].2.2] ++ [small .par false]) = some ("p1" : Str) := by
        cases b <;> exact g1
      rw [g1']
      by_cases lt : i < j
      · rw [if_pos lt]
        dsimp only [Option.map, Option.or]
        rw [if_neg (show ¬ j ≤ i by omega)]
      · rw [if_neg lt]
        dsimp only [Option.map, Option.or]
        rw [if_pos (show j ≤ i by omega)]
  unfold Kn.all
  rw [List.map_cons, key]; rfl
end
end K10
end

/-! K10q -/
section
set_option Elab.async false
set_option linter.all false
set_option maxRecDepth 100000
set_option maxHeartbeats 8000000
namespace K10
open PySem PySem.Spec PyProof.Rows L2 Dh Px Pg
local macro_rules | `(tactic| walk_at "px") => `(tactic| repeat (first
  | refine yT ?_ | refine yF ?_ | refine ⟨_, rfl, ?_⟩ | refine ⟨_, _, rfl, rfl, ?_⟩ | refine ⟨_, _, rfl, ?_⟩
  | refine ⟨_, _, rfl, isi (.tuple _), ?_⟩ | refine ⟨_, _, rfl, isi (.str _), ?_⟩ | refine ⟨_, _, rfl, isi (.int _), ?_⟩ | refine ⟨_, _, rfl, isi (.bool _), ?_⟩
  | refine pix_word ?_ | refine ⟨⟨_, rfl⟩, ?_⟩ | refine ⟨True.intro, ?_⟩ | refine ⟨rfl, ?_⟩ | refine ⟨(Nat.le_of_ble_eq_true rfl : _ ≤ sizeLine), ?_⟩))
def fSame : PF := fun Δ Ψ => ∃ d : PyData, Δ = [.v d, .v d] ∧ d.showable = true ∧ d.depth ≤ 60 ∧ d.shown.length ≤ sizeLine ∧ Ψ (.v (.bool true))
def fSmall : PF := fun Δ Ψ => ∃ (k : Kn) (m : Bool), Δ = [.v (.str k.w), .v (.str (mk m))] ∧ Ψ (.v (.tuple [(small k m).d, .str (near k m)]))
def fAdded : PF := fun Δ Ψ => ∃ (rows : List Rw) (i : Nat) (e : Ex) (b : Bool), Δ = [.v (progD rows), .v (.int (i : Int)), .v e.d, .v (.bool b)] ∧ i < rows.length ∧ rows.length ≤ 1000 ∧ Ψ (.v (progD (addR rows i e b)))
def fOne : PF := fun Δ Ψ => ∃ (k m : Bool) (e : Ex), Δ = [.v (.str (nestK k).w), .v (.str (mk m)), .v e.d] ∧ Ψ (.v (oneE k m e).d)
def fBranchK : PF := fun Δ Ψ => ∃ (k m : Bool) (e : Ex), Δ = [.v (.str (nestK k).w), .v (.str (mk m)), .v e.d] ∧ Ψ (.v (Pg.brD (brK k m) e.d))
def fNested : PF := fun Δ Ψ => ∃ k : Bool, Δ = [.v (.str (nestK k).w)] ∧ Ψ (.own (.list ((nestE k).map Ex.d)))
theorem cutD_to (ds : List PyData) (n : Nat) : Px.cutD ds none (some (n : Int)) = ds.take n := by
  unfold Px.cutD
  show (ds.drop 0).take ((if (n : Int) < 0 then ((n : Int) + ds.length).toNat else min (n : Int).toNat ds.length) - 0) = _
  rw [if_neg (by omega), List.drop_zero, Nat.sub_zero, Int.toNat_natCast]
  by_cases h : n ≤ ds.length
  · rw [Nat.min_eq_left h]
  · rw [Nat.min_eq_right (by omega), List.take_of_length_le (Nat.le_refl _), List.take_of_length_le (by omega)]
theorem cutD_from (ds : List PyData) (n : Nat) : Px.cutD ds (some (n : Int)) none = ds.drop n := by
  unfold Px.cutD
  show (ds.drop (if (n : Int) < 0 then ((n : Int) + ds.length).toNat else min (n : Int).toNat ds.length)).take (ds.length - (if (n : Int) < 0 then ((n : Int) + ds.length).toNat else min (n : Int).toNat ds.length)) = _
  rw [if_neg (by omega), Int.toNat_natCast]
  by_cases h : n ≤ ds.length
  · rw [Nat.min_eq_left h, List.take_of_length_le (by rw [List.length_drop]; exact Nat.le_refl _)]
  · rw [Nat.min_eq_right (by omega), List.drop_length, List.drop_eq_nil_of_le (by omega)]; simp
section
variable {P : Program} {w : World} {K : PySem.W.Frag} {mg : Str → Option Value} {base : Heap}
abbrev s_lawSame : Stmt := top 50
abbrev n_lawSame : List Str := ["told", "due"]
theorem sc_lawSame : FnScope n_lawSame ["told", "due"] (defScope s_lawSame) := ⟨rfl, rfl, rfl, by decide +kernel, rfl, by decide +kernel, by decide +kernel⟩
theorem ok_lawSame {f : Addr} {fd : FuncData} (F : Fun K "_law_same" "_law_same" s_lawSame f fd) (T : Blt mg) : FnG P w K mg base CX0 1 f fd ["told", "due"] (spD K IK.ks fSame) := by
  have sc := sc_lawSame
  refine FnG.data F sc (by decide) (fun Δ Ψ h => by first | (obtain ⟨rfl, _⟩ := h; rfl) | (obtain ⟨_, rfl, _⟩ := h; rfl) | (obtain ⟨_, _, rfl, _⟩ := h; rfl) | (obtain ⟨_, _, _, rfl, _⟩ := h; rfl) | (obtain ⟨_, _, _, _, rfl, _⟩ := h; rfl) | (obtain ⟨_, _, _, _, _, rfl, _⟩ := h; rfl)) (fun cdv A outer s H E Δ Ψ noG hr h => ?_)
  have hu70 := room70 hr
  obtain ⟨d, rfl, h1, h2, h3, k⟩ := h
  refine ⟨_, _, (xss_one (xs_ret (xe_cmp op_eq PEq (xe_CB (xr_cons (xe_var (pv 0)) xr_nil) (fun _ p => pe_callB (call_repr_At noG hu70) (by rfl) T.repr (by decide +kernel) p) PRepr) (xe_CB (xr_cons (xe_var (pv 1)) xr_nil) (fun _ p => pe_callB (call_repr_At noG hu70) (by rfl) T.repr (by decide +kernel) p) PRepr) (nomark _)))), ?_⟩
  walk_at "px"
  refine ⟨h1, h2, h3, ?_⟩
  walk_at "px"
  refine ⟨h1, h2, h3, ?_⟩
  walk_at "px"
  rw [decide_eq_true (rfl : d.shown = d.shown)]
  exact k
abbrev s_lawSmall : Stmt := top 58
abbrev n_lawSmall : List Str := ["kind", "mark"]
theorem sc_lawSmall : FnScope n_lawSmall ["kind", "mark"] (defScope s_lawSmall) := ⟨rfl, rfl, rfl, by decide +kernel, rfl, by decide +kernel, by decide +kernel⟩
theorem ok_lawSmall {f : Addr} {fd : FuncData} (F : Fun K "_law_small" "_law_small" s_lawSmall f fd) (T : Blt mg) : FnG P w K mg base CX0 1 f fd ["kind", "mark"] (spD K IK.ks fSmall) := by
  have sc := sc_lawSmall
  refine FnG.data F sc (by decide) (fun Δ Ψ h => by first | (obtain ⟨rfl, _⟩ := h; rfl) | (obtain ⟨_, rfl, _⟩ := h; rfl) | (obtain ⟨_, _, rfl, _⟩ := h; rfl) | (obtain ⟨_, _, _, rfl, _⟩ := h; rfl) | (obtain ⟨_, _, _, _, rfl, _⟩ := h; rfl) | (obtain ⟨_, _, _, _, _, rfl, _⟩ := h; rfl)) (fun cdv A outer s H E Δ Ψ noG hr h => ?_)
  obtain ⟨kd, m, rfl, k⟩ := h
  refine ⟨_, _, (xss_cons (xs_if (xt_cmp op_eq PEq (xe_var (pv 0)) xe_str (nomark _)) (xss_one (xs_ret (xe_tup (xv_cons (xe_tup (xv_cons xe_str (xv_cons (xe_op op_add_str PAddS xe_str (xe_var (pv 1))) xv_nil))) (xv_cons (xe_op op_add_str PAddS xe_str (xe_var (pv 1))) xv_nil))))) xss_nil) 
      (xss_cons (xs_if (xt_cmp op_eq PEq (xe_var (pv 0)) xe_str (nomark _)) (xss_one (xs_ret (xe_tup (xv_cons (xe_tup (xv_cons xe_str (xv_cons (xe_op op_add_str PAddS xe_str (xe_var (pv 1))) (xv_cons (xe_tup xv_nil) xv_nil)))) (xv_cons (xe_op op_add_str PAddS xe_str (xe_var (pv 1))) xv_nil))))) xss_nil) 
      (xss_cons (xs_if (xt_cmp op_eq PEq (xe_var (pv 0)) xe_str (nomark _)) (xss_one (xs_ret (xe_tup (xv_cons (xe_tup (xv_cons xe_str (xv_cons xe_str (xv_cons (xe_tup (xv_cons xe_str (xv_cons xe_str (xv_cons (xe_tup xv_nil) xv_nil)))) (xv_cons (xe_tup (xv_cons xe_str (xv_cons xe_str (xv_cons (xe_tup (xv_cons (xe_tup (xv_cons xe_str (xv_cons (xe_CB (xr_cons (xe_var (pv 1)) xr_nil) (fun _ p => pe_callTy call_int_str (by rfl) T.int (by decide +kernel) p) PIntS) xv_nil))) xv_nil)) xv_nil)))) xv_nil))))) (xv_cons xe_str xv_nil))))) xss_nil) 
      (xss_cons (xs_if (xt_cmp op_eq PEq (xe_var (pv 0)) xe_str (nomark _)) (xss_one (xs_ret (xe_tup (xv_cons (xe_tup (xv_cons xe_str (xv_cons (xe_tup (xv_cons xe_str (xv_cons xe_int xv_nil))) (xv_cons (xe_tup (xv_cons (xe_tup (xv_cons (xe_op op_add_str PAddS xe_str (xe_var (pv 1))) (xv_cons (xe_tup (xv_cons (xe_op op_add_str PAddS xe_str (xe_var (pv 1))) (xv_cons (xe_op op_add_str PAddS xe_str (xe_var (pv 1))) xv_nil))) (xv_cons (xe_tup (xv_cons xe_str (xv_cons xe_int xv_nil))) xv_nil)))) xv_nil)) xv_nil)))) (xv_cons (xe_op op_add_str PAddS xe_str (xe_var (pv 1))) xv_nil))))) xss_nil) 
      (xss_one (xs_ret (xe_tup (xv_cons (xe_tup (xv_cons xe_str (xv_cons (xe_tup (xv_cons xe_str (xv_cons xe_int xv_nil))) (xv_cons (xe_tup (xv_cons (xe_tup (xv_cons (xe_op op_add_str PAddS xe_str (xe_var (pv 1))) (xv_cons (xe_tup xv_nil) (xv_cons (xe_tup (xv_cons xe_str (xv_cons xe_int xv_nil))) xv_nil)))) (xv_cons (xe_tup (xv_cons (xe_op op_add_str PAddS xe_str (xe_var (pv 1))) (xv_cons (xe_tup xv_nil) (xv_cons (xe_tup (xv_cons xe_str (xv_cons xe_int xv_nil))) xv_nil)))) xv_nil))) xv_nil)))) (xv_cons (xe_op op_add_str PAddS xe_str (xe_var (pv 1))) xv_nil))))))))), ?_⟩
  cases kd <;> cases m
  case tag.false =>
    walk_at "px"
    refine ⟨mkI false, by decide +kernel, by decide +kernel, ?_⟩
    walk_at "px"
    exact k
  case tag.true =>
    walk_at "px"
    refine ⟨mkI true, by decide +kernel, by decide +kernel, ?_⟩
    walk_at "px"
    exact k
  all_goals
    walk_at "px"
    exact k
abbrev s_lawAdded : Stmt := top 59
abbrev n_lawAdded : List Str := ["program", "at", "e", "is_first", "f", "names", "body"]
theorem sc_lawAdded : FnScope n_lawAdded ["program", "at", "e", "is_first"] (defScope s_lawAdded) := ⟨rfl, rfl, rfl, by decide +kernel, rfl, by decide +kernel, by decide +kernel⟩
theorem ok_lawAdded {f : Addr} {fd : FuncData} (F : Fun K "_law_added" "_law_added" s_lawAdded f fd) (T : Blt mg) : FnG P w K mg base CX0 1 f fd ["program", "at", "e", "is_first"] (spD K IK.ks fAdded) := by
  have sc := sc_lawAdded
  refine FnG.data F sc (by decide) (fun Δ Ψ h => by first | (obtain ⟨rfl, _⟩ := h; rfl) | (obtain ⟨_, rfl, _⟩ := h; rfl) | (obtain ⟨_, _, rfl, _⟩ := h; rfl) | (obtain ⟨_, _, _, rfl, _⟩ := h; rfl) | (obtain ⟨_, _, _, _, rfl, _⟩ := h; rfl) | (obtain ⟨_, _, _, _, _, rfl, _⟩ := h; rfl)) (fun cdv A outer s H E Δ Ψ noG hr h => ?_)
  obtain ⟨rows, i, e, b, rfl, hi, hl, k⟩ := h
  refine ⟨_, _, (xss_cons (xs_asg (xe_ix (xe_var (pv 0)) (xe_var (pv 1)) (fun _ _ => rfl)) (xg_tup (by rfl) (xgs_cons (xg_name (i := 4) sc.nd rfl (Or.inl rfl)) (xgs_cons (xg_name (i := 5) sc.nd rfl (Or.inl rfl)) (xgs_cons (xg_name (i := 6) sc.nd rfl (Or.inl rfl)) xgs_nil))))) 
      (xss_cons (xs_set (i := 6) sc.nd rfl (Or.inl rfl) (xe_if (xt_val (xe_var (pv 3))) (xe_tup (xv_cons xe_str (xv_cons xe_str (xv_cons (xe_var (pv 2)) (xv_cons (xe_var (pv 6)) xv_nil))))) (xe_tup (xv_cons xe_str (xv_cons xe_str (xv_cons (xe_var (pv 6)) (xv_cons (xe_var (pv 2)) xv_nil))))))) 
      (xss_one (xs_ret (xe_op op_catA PCatT (xe_op op_catA PCatT (xe_slice sl_tupA PSlT (xe_var (pv 0)) xo_none (xo_some (xe_var (pv 1)))) (xe_tup (xv_cons (xe_tup (xv_cons (xe_var (pv 4)) (xv_cons (xe_var (pv 5)) (xv_cons (xe_var (pv 6)) xv_nil)))) xv_nil))) (xe_slice sl_tupA PSlT (xe_var (pv 0)) (xo_some (xe_op op_add PAdd (xe_var (pv 1)) xe_int)) xo_none)))))), ?_⟩
  rw [addR_eq hi] at k
  generalize hr : rows[i] = r at k
  obtain ⟨f, ps, e0⟩ := r
  walk_at "px"
  refine ⟨rowD (f, ps, e0), atI_nat (by rw [List.getElem?_map, List.getElem?_eq_getElem hi, hr]; rfl), ?_⟩
  have tk : ((rows.map rowD).take i).length ≤ rows.length := by rw [List.length_take, List.length_map]; omega
  have dr : ((rows.map rowD).drop (i + 1)).length ≤ rows.length := by rw [List.length_drop, List.length_map]; omega
  have es : ∀ r' : Rw, progD (rows.set i r') = .tuple ((rows.map rowD).take i ++ [rowD r'] ++ (rows.map rowD).drop (i + 1)) := fun r' => by
    unfold progD
    rw [List.map_set, List.set_eq_take_append_cons_drop, if_pos (by rw [List.length_map]; exact hi)]
    simp
  rw [es] at k
  walk_at "px"
  cases b
  all_goals
    walk_at "px"
    rw [cutD_to]
    refine ⟨mil (by simp only [List.length_singleton]; omega), ?_⟩
    walk_at "px"
    rw [show ((i : Int) + 1) = ((i + 1 : Nat) : Int) by omega, cutD_from]
    refine ⟨mil (by rw [List.length_append]; simp only [List.length_singleton]; omega), ?_⟩
    walk_at "px"
    exact k
abbrev s_lawOne : Stmt := top 60
abbrev n_lawOne : List Str := ["kind", "mark", "e"]
theorem sc_lawOne : FnScope n_lawOne ["kind", "mark", "e"] (defScope s_lawOne) := ⟨rfl, rfl, rfl, by decide +kernel, rfl, by decide +kernel, by decide +kernel⟩
theorem ok_lawOne {f : Addr} {fd : FuncData} (F : Fun K "_law_one" "_law_one" s_lawOne f fd) (T : Blt mg) : FnG P w K mg base CX0 1 f fd ["kind", "mark", "e"] (spD K IK.ks fOne) := by
  have sc := sc_lawOne
  refine FnG.data F sc (by decide) (fun Δ Ψ h => by first | (obtain ⟨rfl, _⟩ := h; rfl) | (obtain ⟨_, rfl, _⟩ := h; rfl) | (obtain ⟨_, _, rfl, _⟩ := h; rfl) | (obtain ⟨_, _, _, rfl, _⟩ := h; rfl) | (obtain ⟨_, _, _, _, rfl, _⟩ := h; rfl) | (obtain ⟨_, _, _, _, _, rfl, _⟩ := h; rfl)) (fun cdv A outer s H E Δ Ψ noG hr h => ?_)
  obtain ⟨kd, m, e, rfl, k⟩ := h
  refine ⟨_, _, (xss_cons (xs_if (xt_cmp op_eq PEq (xe_var (pv 0)) xe_str (nomark _)) (xss_one (xs_ret (xe_tup (xv_cons xe_str (xv_cons (xe_tup (xv_cons xe_str (xv_cons xe_int xv_nil))) (xv_cons (xe_tup (xv_cons (xe_tup (xv_cons (xe_op op_add_str PAddS xe_str (xe_var (pv 1))) (xv_cons (xe_tup (xv_cons (xe_op op_add_str PAddS xe_str (xe_var (pv 1))) (xv_cons (xe_op op_add_str PAddS xe_str (xe_var (pv 1))) xv_nil))) (xv_cons (xe_var (pv 2)) xv_nil)))) xv_nil)) xv_nil)))))) xss_nil) 
      (xss_one (xs_ret (xe_tup (xv_cons xe_str (xv_cons (xe_op op_add_str PAddS xe_str (xe_var (pv 1))) (xv_cons (xe_tup (xv_cons (xe_var (pv 2)) xv_nil)) xv_nil))))))), ?_⟩
  cases kd <;> cases m
  all_goals
    walk_at "px"
    exact k
abbrev s_lawBranch : Stmt := top 61
abbrev n_lawBranch : List Str := ["kind", "mark", "e"]
theorem sc_lawBranch : FnScope n_lawBranch ["kind", "mark", "e"] (defScope s_lawBranch) := ⟨rfl, rfl, rfl, by decide +kernel, rfl, by decide +kernel, by decide +kernel⟩
theorem ok_lawBranch {f : Addr} {fd : FuncData} (F : Fun K "_law_branch" "_law_branch" s_lawBranch f fd) (T : Blt mg) : FnG P w K mg base CX0 1 f fd ["kind", "mark", "e"] (spD K IK.ks fBranchK) := by
  have sc := sc_lawBranch
  refine FnG.data F sc (by decide) (fun Δ Ψ h => by first | (obtain ⟨rfl, _⟩ := h; rfl) | (obtain ⟨_, rfl, _⟩ := h; rfl) | (obtain ⟨_, _, rfl, _⟩ := h; rfl) | (obtain ⟨_, _, _, rfl, _⟩ := h; rfl) | (obtain ⟨_, _, _, _, rfl, _⟩ := h; rfl) | (obtain ⟨_, _, _, _, _, rfl, _⟩ := h; rfl)) (fun cdv A outer s H E Δ Ψ noG hr h => ?_)
  obtain ⟨kd, m, e, rfl, k⟩ := h
  refine ⟨_, _, (xss_cons (xs_if (xt_cmp op_eq PEq (xe_var (pv 0)) xe_str (nomark _)) (xss_one (xs_ret (xe_tup (xv_cons (xe_op op_add_str PAddS xe_str (xe_var (pv 1))) (xv_cons (xe_tup (xv_cons (xe_op op_add_str PAddS xe_str (xe_var (pv 1))) (xv_cons (xe_op op_add_str PAddS xe_str (xe_var (pv 1))) xv_nil))) (xv_cons (xe_var (pv 2)) xv_nil)))))) xss_nil) 
      (xss_one (xs_ret (xe_tup (xv_cons (xe_op op_add_str PAddS xe_str (xe_var (pv 1))) (xv_cons (xe_tup (xv_cons xe_str xv_nil)) (xv_cons (xe_var (pv 2)) xv_nil))))))), ?_⟩
  cases kd <;> cases m
  all_goals
    walk_at "px"
    exact k
abbrev s_lawNested : Stmt := top 62
abbrev n_lawNested : List Str := ["kind", "one", "none", "found"]
theorem sc_lawNested : FnScope n_lawNested ["kind"] (defScope s_lawNested) := ⟨rfl, rfl, rfl, by decide +kernel, rfl, by decide +kernel, by decide +kernel⟩
theorem ok_lawNested {f : Addr} {fd : FuncData} (F : Fun K "_law_nested" "_law_nested" s_lawNested f fd) (T : Blt mg) {f_0 : Addr} {fd_0 : FuncData} (D_law_one : DfD P w K mg base "_law_one" 1 f_0 fd_0 ["kind", "mark", "e"] fOne) {f_1 : Addr} {fd_1 : FuncData} (D_law_branch : DfD P w K mg base "_law_branch" 1 f_1 fd_1 ["kind", "mark", "e"] fBranchK) : FnG P w K mg base CX0 2 f fd ["kind"] (spD K IK.ks fNested) := by
  have sc := sc_lawNested
  refine FnG.data F sc (by decide) (fun Δ Ψ h => by first | (obtain ⟨rfl, _⟩ := h; rfl) | (obtain ⟨_, rfl, _⟩ := h; rfl) | (obtain ⟨_, _, rfl, _⟩ := h; rfl) | (obtain ⟨_, _, _, rfl, _⟩ := h; rfl) | (obtain ⟨_, _, _, _, rfl, _⟩ := h; rfl) | (obtain ⟨_, _, _, _, _, rfl, _⟩ := h; rfl)) (fun cdv A outer s H E Δ Ψ noG hr h => ?_)
  obtain ⟨kd, rfl, k⟩ := h
  refine ⟨_, _, (xss_cons (xs_par (i := 1) (j := 2) rfl sc.nd rfl rfl (by decide) rfl rfl (xe_call D_law_one.ok noG (hr.mono (by decide)) (by rfl) D_law_one.m D_law_one.k D_law_one.b (xp_cons (xe_var (pv 0)) (xp_cons xe_str (xp_cons (xe_tup (xv_cons xe_str (xv_cons xe_int xv_nil))) xp_nil)))) (xe_tup (xv_cons xe_str (xv_cons xe_int xv_nil))) (by rfl)) 
      (xss_cons (xs_set (i := 3) sc.nd rfl (Or.inl rfl) (xe_lst (xv_cons (xe_tup (xv_cons xe_str (xv_cons (xe_var (pv 1)) (xv_cons (xe_tup (xv_cons (xe_call D_law_branch.ok noG (hr.mono (by decide)) (by rfl) D_law_branch.m D_law_branch.k D_law_branch.b (xp_cons (xe_var (pv 0)) (xp_cons xe_str (xp_cons (xe_var (pv 2)) xp_nil)))) xv_nil)) xv_nil)))) (xv_cons (xe_tup (xv_cons xe_str (xv_cons (xe_var (pv 2)) (xv_cons (xe_tup (xv_cons (xe_tup (xv_cons xe_str (xv_cons (xe_tup xv_nil) (xv_cons (xe_var (pv 1)) xv_nil)))) (xv_cons (xe_call D_law_branch.ok noG (hr.mono (by decide)) (by rfl) D_law_branch.m D_law_branch.k D_law_branch.b (xp_cons (xe_var (pv 0)) (xp_cons xe_str (xp_cons (xe_var (pv 2)) xp_nil)))) xv_nil))) xv_nil)))) xv_nil)))) 
      (xss_cons (xs_expr (xe_append (i := 3) (xe_tup (xv_cons xe_str (xv_cons (xe_var (pv 2)) (xv_cons (xe_tup (xv_cons (xe_call D_law_branch.ok noG (hr.mono (by decide)) (by rfl) D_law_branch.m D_law_branch.k D_law_branch.b (xp_cons (xe_var (pv 0)) (xp_cons xe_str (xp_cons (xe_call D_law_one.ok noG (hr.mono (by decide)) (by rfl) D_law_one.m D_law_one.k D_law_one.b (xp_cons (xe_var (pv 0)) (xp_cons xe_str (xp_cons (xe_var (pv 2)) xp_nil)))) xp_nil)))) xv_nil)) xv_nil)))) (fun _ p => pe_bm PySem.F.plainAttrs_list PySem.F.slot_list_append PySem.F.type_list_append mt_append (pv 3) p))) 
      (xss_one (xs_ret (xe_op op_cat PCat (xe_var (pv 3)) (xe_lst (xv_cons (xe_call D_law_one.ok noG (hr.mono (by decide)) (by rfl) D_law_one.m D_law_one.k D_law_one.b (xp_cons (xe_var (pv 0)) (xp_cons xe_str (xp_cons (xe_call D_law_one.ok noG (hr.mono (by decide)) (by rfl) D_law_one.m D_law_one.k D_law_one.b (xp_cons (xe_var (pv 0)) (xp_cons xe_str (xp_cons (xe_var (pv 2)) xp_nil)))) xp_nil)))) xv_nil)))))))), ?_⟩
  walk_at "px"
  refine ⟨kd, false, intE 0, rfl, ?_⟩
  walk_at "px"
  refine ⟨kd, true, intE 0, rfl, ?_⟩
  walk_at "px"
  refine ⟨kd, true, intE 0, rfl, ?_⟩
  walk_at "px"
  refine ⟨kd, true, intE 0, rfl, ?_⟩
  walk_at "px"
  refine ⟨kd, false, oneE kd true (intE 0), rfl, ?_⟩
  walk_at "px"
  refine ⟨_, _, _, rfl, rfl, by show 2 < sizeLine; decide, ?_⟩
  walk_at "px"
  refine ⟨kd, true, intE 0, rfl, ?_⟩
  walk_at "px"
  refine ⟨kd, false, oneE kd true (intE 0), rfl, ?_⟩
  walk_at "px"
  exact k
end
end K10
end

/-! K10D -/
section
set_option Elab.async false
set_option linter.all false
set_option maxRecDepth 100000
set_option maxHeartbeats 16000000
namespace K10
open PySem PySem.Spec PyProof.Rows L2 Dh Px Pg
local macro_rules | `(tactic| walk_at "px") => `(tactic| repeat (first
  | refine yT ?_ | refine yF ?_ | refine ⟨_, rfl, ?_⟩ | refine ⟨_, _, rfl, rfl, ?_⟩ | refine ⟨_, _, rfl, ?_⟩
  | refine ⟨_, _, rfl, isi (.tuple _), ?_⟩ | refine ⟨_, _, rfl, isi (.str _), ?_⟩ | refine ⟨_, _, rfl, isi (.int _), ?_⟩ | refine ⟨_, _, rfl, isi (.bool _), ?_⟩
  | refine pix_word ?_ | refine ⟨⟨_, rfl⟩, ?_⟩ | refine ⟨True.intro, ?_⟩ | refine ⟨rfl, ?_⟩ | refine ⟨(Nat.le_of_ble_eq_true rfl : _ ≤ sizeLine), ?_⟩))
def fAre : PF := fun Δ Ψ => ∃ (S : Sg) (rows : List Rw), Δ = [.deck, .v (progD (progP rows))] ∧ Drawn usK tgK S rows ∧ Ψ (.v (.bool true))
theorem ls_fault {w f x : Str} (hw : Dh.Ls 122 0 (.str w)) (hf : isName (.str f) = true) (hx : Dh.Ls 122 0 (.str x)) : DueOk (faultD w (some (f, x))) := due_ok (b := false) hw hf hx
section
variable {P : Program} {w : World} {K : PySem.W.Frag} {mg : Str → Option Value} {base : Heap}
abbrev s_lawAreNested : Stmt := top 63
abbrev n_lawAreNested : List Str := ["deck", "program", "ahead", "kind", "e", "at", "some", "due", "to", "f", "names", "body"]
theorem sc_lawAreNested : FnScope n_lawAreNested ["deck", "program"] (defScope s_lawAreNested) := ⟨rfl, rfl, rfl, by decide +kernel, rfl, by decide +kernel, by decide +kernel⟩
theorem ok_lawAreNested {f : Addr} {fd : FuncData} (F : Fun K "_law_are_nested" "_law_are_nested" s_lawAreNested f fd) (T : Blt mg) {f_0 : Addr} {fd_0 : FuncData} (D_law_draw : DfD P w K mg base "_law_draw" 1 f_0 fd_0 ["deck", "many"] fDraw) {f_1 : Addr} {fd_1 : FuncData} (D_law_added : DfD P w K mg base "_law_added" 1 f_1 fd_1 ["program", "at", "e", "is_first"] fAdded) {f_2 : Addr} {fd_2 : FuncData} (D_law_same : DfD P w K mg base "_law_same" 1 f_2 fd_2 ["told", "due"] fSame) {f_3 : Addr} {fd_3 : FuncData} (D_law_nested : DfD P w K mg base "_law_nested" 2 f_3 fd_3 ["kind"] fNested) {f_4 : Addr} {fd_4 : FuncData} (Dfault : DfD P w K mg base "fault" 11 f_4 fd_4 ["program"] fFault) (faultKw : BindsKw K fd_4 ["program"] ["program"] [0]) {f_5 : Addr} {fd_5 : FuncData} (D_law_small : DfD P w K mg base "_law_small" 1 f_5 fd_5 ["kind", "mark"] fSmall) : FnG P w K mg base CX0 12 f fd ["deck", "program"] (spD K IK.ks fAre) := by
  have sc := sc_lawAreNested
  refine FnG.data F sc (by decide) (fun Δ Ψ h => by first | (obtain ⟨rfl, _⟩ := h; rfl) | (obtain ⟨_, rfl, _⟩ := h; rfl) | (obtain ⟨_, _, rfl, _⟩ := h; rfl) | (obtain ⟨_, _, _, rfl, _⟩ := h; rfl) | (obtain ⟨_, _, _, _, rfl, _⟩ := h; rfl) | (obtain ⟨_, _, _, _, _, rfl, _⟩ := h; rfl)) (fun cdv A outer s H E Δ Ψ noG hr h => ?_)
  obtain ⟨S, rows, rfl, D, k⟩ := h
  refine ⟨_, _, (xss_cons (xs_set (i := 2) sc.nd rfl (Or.inl rfl) (xe_tup (xv_cons xe_str (xv_cons (xe_tup xv_nil) (xv_cons (xe_tup (xv_cons xe_str (xv_cons xe_str (xv_cons (xe_tup (xv_cons xe_str (xv_cons xe_str (xv_cons (xe_tup xv_nil) xv_nil)))) (xv_cons (xe_tup (xv_cons xe_str (xv_cons xe_str (xv_cons (xe_tup xv_nil) xv_nil)))) xv_nil))))) xv_nil))))) 
      (xss_cons (xs_for PassesOwn.never rfl (xi_tupS (xe_tup (xv_cons xe_str (xv_cons xe_str xv_nil)))) (xg_name (i := 3) sc.nd rfl (Or.inl rfl))
        (xss_one (xs_for PassesOwn.never rfl (xi_listS (xe_call D_law_nested.ok noG (hr.mono (by decide)) (by rfl) D_law_nested.m D_law_nested.k D_law_nested.b (xp_cons (xe_var (pv 3)) xp_nil))) (xg_name (i := 4) sc.nd rfl (Or.inl rfl))
          (xss_cons (xs_set (i := 5) sc.nd rfl (Or.inl rfl) (xe_call D_law_draw.ok noG (hr.mono (by decide)) (by rfl) D_law_draw.m D_law_draw.k D_law_draw.b (xp_cons (xe_var (pv 0)) (xp_cons (xe_CB (xr_cons (xe_var (pv 1)) xr_nil) (fun _ p => pe_callB call_len (by rfl) T.len (by decide +kernel) p) PLen) xp_nil)))) 
          (xss_cons (xs_set (i := 6) sc.nd rfl (Or.inl rfl) (xe_op op_catA PCatT (xe_tup (xv_cons (xe_var (pv 2)) xv_nil)) (xe_call D_law_added.ok noG (hr.mono (by decide)) (by rfl) D_law_added.m D_law_added.k D_law_added.b (xp_cons (xe_var (pv 1)) (xp_cons (xe_var (pv 5)) (xp_cons (xe_var (pv 4)) (xp_cons (xe_cmp op_eq PEq (xe_call D_law_draw.ok noG (hr.mono (by decide)) (by rfl) D_law_draw.m D_law_draw.k D_law_draw.b (xp_cons (xe_var (pv 0)) (xp_cons xe_int xp_nil))) xe_int (nomark _)) xp_nil))))))) 
          (xss_cons (xs_set (i := 7) sc.nd rfl (Or.inl rfl) (xe_tup (xv_cons (xe_var (pv 3)) (xv_cons (xe_ix (xe_ix (xe_var (pv 1)) (xe_var (pv 5)) (fun _ _ => rfl)) xe_int (fun _ _ => rfl)) (xv_cons (xe_if (xt_cmp op_eq PEq (xe_var (pv 3)) xe_str (nomark _)) xe_str xe_str) xv_nil))))) 
          (xss_one (xs_if (xt_not (xt_val (xe_call D_law_same.ok noG (hr.mono (by decide)) (by rfl) D_law_same.m D_law_same.k D_law_same.b (xp_cons (xe_tup (xv_cons (xe_call Dfault.ok noG (hr.mono (by decide)) (by rfl) Dfault.m Dfault.k Dfault.b (xp_cons (xe_var (pv 6)) xp_nil)) (xv_cons (xe_callKw Dfault.ok noG (hr.mono (by decide)) (by rfl) Dfault.m Dfault.k faultKw (xk_cons (xe_var (pv 6)) xk_nil)) xv_nil))) (xp_cons (xe_tup (xv_cons (xe_var (pv 7)) (xv_cons (xe_var (pv 7)) xv_nil))) xp_nil))))) (xss_one (xs_ret xe_bl)) xss_nil)))))))) 
      (xss_cons (xs_set (i := 5) sc.nd rfl (Or.inl rfl) (xe_call D_law_draw.ok noG (hr.mono (by decide)) (by rfl) D_law_draw.m D_law_draw.k D_law_draw.b (xp_cons (xe_var (pv 0)) (xp_cons (xe_CB (xr_cons (xe_var (pv 1)) xr_nil) (fun _ p => pe_callB call_len (by rfl) T.len (by decide +kernel) p) PLen) xp_nil)))) 
      (xss_cons (xs_set (i := 6) sc.nd rfl (Or.inl rfl) (xe_call D_law_added.ok noG (hr.mono (by decide)) (by rfl) D_law_added.m D_law_added.k D_law_added.b (xp_cons (xe_var (pv 1)) (xp_cons (xe_var (pv 5)) (xp_cons (xe_tup (xv_cons xe_str (xv_cons xe_str (xv_cons (xe_tup (xv_cons (xe_tup (xv_cons xe_str (xv_cons xe_str (xv_cons (xe_tup xv_nil) xv_nil)))) xv_nil)) xv_nil)))) (xp_cons (xe_cmp op_eq PEq (xe_call D_law_draw.ok noG (hr.mono (by decide)) (by rfl) D_law_draw.m D_law_draw.k D_law_draw.b (xp_cons (xe_var (pv 0)) (xp_cons xe_int xp_nil))) xe_int (nomark _)) xp_nil)))))) 
      (xss_cons (xs_if (xt_not (xt_val (xe_call D_law_same.ok noG (hr.mono (by decide)) (by rfl) D_law_same.m D_law_same.k D_law_same.b (xp_cons (xe_call Dfault.ok noG (hr.mono (by decide)) (by rfl) Dfault.m Dfault.k Dfault.b (xp_cons (xe_var (pv 6)) xp_nil)) (xp_cons (xe_tup (xv_cons xe_str (xv_cons (xe_ix (xe_ix (xe_var (pv 1)) (xe_var (pv 5)) (fun _ _ => rfl)) xe_int (fun _ _ => rfl)) (xv_cons xe_str xv_nil)))) xp_nil))))) (xss_one (xs_ret xe_bl)) xss_nil) 
      (xss_cons (xs_par (i := 5) (j := 8) rfl sc.nd rfl rfl (by decide) rfl rfl (xe_call D_law_draw.ok noG (hr.mono (by decide)) (by rfl) D_law_draw.m D_law_draw.k D_law_draw.b (xp_cons (xe_var (pv 0)) (xp_cons (xe_CB (xr_cons (xe_var (pv 1)) xr_nil) (fun _ p => pe_callB call_len (by rfl) T.len (by decide +kernel) p) PLen) xp_nil))) (xe_call D_law_draw.ok noG (hr.mono (by decide)) (by rfl) D_law_draw.m D_law_draw.k D_law_draw.b (xp_cons (xe_var (pv 0)) (xp_cons (xe_CB (xr_cons (xe_var (pv 1)) xr_nil) (fun _ p => pe_callB call_len (by rfl) T.len (by decide +kernel) p) PLen) xp_nil))) (by rfl)) 
      (xss_cons (xs_set (i := 6) sc.nd rfl (Or.inl rfl) (xe_call D_law_added.ok noG (hr.mono (by decide)) (by rfl) D_law_added.m D_law_added.k D_law_added.b (xp_cons (xe_var (pv 1)) (xp_cons (xe_var (pv 5)) (xp_cons (xe_ix (xe_call D_law_small.ok noG (hr.mono (by decide)) (by rfl) D_law_small.m D_law_small.k D_law_small.b (xp_cons xe_str (xp_cons xe_str xp_nil))) xe_int (fun _ _ => rfl)) (xp_cons (xe_cmp op_eq PEq (xe_call D_law_draw.ok noG (hr.mono (by decide)) (by rfl) D_law_draw.m D_law_draw.k D_law_draw.b (xp_cons (xe_var (pv 0)) (xp_cons xe_int xp_nil))) xe_int (nomark _)) xp_nil)))))) 
      (xss_cons (xs_asg (xe_ix (xe_var (pv 6)) (xe_var (pv 8)) (fun _ _ => rfl)) (xg_tup (by rfl) (xgs_cons (xg_name (i := 9) sc.nd rfl (Or.inl rfl)) (xgs_cons (xg_name (i := 10) sc.nd rfl (Or.inl rfl)) (xgs_cons (xg_name (i := 11) sc.nd rfl (Or.inl rfl)) xgs_nil))))) 
      (xss_cons (xs_set (i := 6) sc.nd rfl (Or.inl rfl) (xe_op op_catA PCatT (xe_op op_catA PCatT (xe_slice sl_tupA PSlT (xe_var (pv 6)) xo_none (xo_some (xe_var (pv 8)))) (xe_tup (xv_cons (xe_tup (xv_cons (xe_var (pv 9)) (xv_cons (xe_op op_catA PCatT (xe_var (pv 10)) (xe_tup (xv_cons xe_str (xv_cons xe_str xv_nil)))) (xv_cons (xe_var (pv 11)) xv_nil)))) xv_nil))) (xe_slice sl_tupA PSlT (xe_var (pv 6)) (xo_some (xe_op op_add PAdd (xe_var (pv 8)) xe_int)) xo_none))) 
      (xss_one (xs_ret (xe_call D_law_same.ok noG (hr.mono (by decide)) (by rfl) D_law_same.m D_law_same.k D_law_same.b (xp_cons (xe_call Dfault.ok noG (hr.mono (by decide)) (by rfl) Dfault.m Dfault.k Dfault.b (xp_cons (xe_var (pv 6)) xp_nil)) (xp_cons (xe_if (xt_cmp op_le PLe (xe_var (pv 8)) (xe_var (pv 5)) (nomark _)) (xe_tup (xv_cons xe_str (xv_cons (xe_var (pv 9)) (xv_cons xe_str xv_nil)))) (xe_tup (xv_cons xe_str (xv_cons (xe_ix (xe_ix (xe_var (pv 1)) (xe_var (pv 5)) (fun _ _ => rfl)) xe_int (fun _ _ => rfl)) (xv_cons xe_str xv_nil))))) xp_nil)))))))))))))), ?_⟩
  have T := tgs_of D.f2
  have lens := P_len D
  have lenI : (progP rows).length ≤ 6 := lens.2
  have nmi : ∀ {i : Nat} (hi : i < (progP rows).length), isName (.str (progP rows)[i].1) = true := fun hi => (P_row D _ (List.getElem_mem hi)).f
  refine seq_cut (fun Γ1 => Γ1 = [some .deck, some (.v (progD (progP rows))), some (.v (rowD aheadR)), none, none, none, none, none, none, none, none, none]) (fun N hN => ?_) ?_
  · walk_at "px"
    exact hN _ rfl
  rintro _ rfl
  refine seq_cut (fun Γ1 => ∃ c3 c4 c5 c6 c7, Γ1 = [some .deck, some (.v (progD (progP rows))), some (.v (rowD aheadR)), c3, c4, c5, c6, c7, none, none, none, none]) (fun N hN => ?_) ?_
  · refine for_cut [.str "parameter", .str "tag"] (fun q Γ => (∀ d ∈ q, ∃ kd : Bool, d = .str (nestK kd).w) ∧ ∃ c3 c4 c5 c6 c7, Γ = [some .deck, some (.v (progD (progP rows))), some (.v (rowD aheadR)), c3, c4, c5, c6, c7, none, none, none, none]) (fun Φ h => ?_) ⟨fun d hd => ?_, _, _, _, _, _, rfl⟩ ?_ ?_
    · walk_at "px"
      exact h
    · simp only [List.mem_cons, List.not_mem_nil, or_false] at hd
      rcases hd with rfl | rfl
      · exact ⟨false, rfl⟩
      · exact ⟨true, rfl⟩
    · rintro d q Γ M ⟨hq, c3, c4, c5, c6, c7, rfl⟩ hM
      obtain ⟨kd, rfl⟩ := hq d (by simp)
      refine for_cut ((nestE kd).map Ex.d) (fun q Γ => ∃ (po : List Ex) (c4 c5 c6 c7 : Option Px.D), q = po.map Ex.d ∧ (∀ x ∈ po, x ∈ nestE kd) ∧ Γ = [some .deck, some (.v (progD (progP rows))), some (.v (rowD aheadR)), some (.v (.str (nestK kd).w)), c4, c5, c6, c7, none, none, none, none]) (fun Φ h => ?_) ⟨nestE kd, c4, c5, c6, c7, rfl, fun x hx => hx, rfl⟩ ?_ ?_
      · walk_at "px"
        exact h
      · rintro d q Γ M2 ⟨po, c4, c5, c6, c7, eq, sub, rfl⟩ hM2
        cases po with
        | nil => cases eq
        | cons e po =>
          obtain ⟨rfl, rfl⟩ := List.cons.inj eq
          have he := sub e (by simp)
          refine seq_cut (fun Γ1 => ∃ j : Nat, j < (progP rows).length ∧ Γ1 = [some .deck, some (.v (progD (progP rows))), some (.v (rowD aheadR)), some (.v (.str (nestK kd).w)), some (.v e.d), some (.v (.int (j : Int))), c6, c7, none, none, none, none]) (fun N2 hN2 => ?_) ?_
          · walk_at "px"
            refine ⟨by rw [List.length_map]; omega, by rw [List.length_map]; omega, fun i i0 i1 => ?_⟩
            rw [List.length_map] at i1
            obtain ⟨j, rfl⟩ : ∃ j : Nat, i = (j : Int) := ⟨i.toNat, by omega⟩
            walk_at "px"
            exact hN2 _ ⟨j, by omega, rfl⟩
          rintro _ ⟨j, jl, rfl⟩
          refine seq_cut (fun Γ1 => ∃ b : Bool, Γ1 = [some .deck, some (.v (progD (progP rows))), some (.v (rowD aheadR)), some (.v (.str (nestK kd).w)), some (.v e.d), some (.v (.int (j : Int))), some (.v (progD (aheadR :: addR (progP rows) j e b))), c7, none, none, none, none]) (fun N2 hN2 => ?_) ?_
          · walk_at "px"
            refine ⟨by decide, by decide, fun i2 i20 i21 => ?_⟩
            walk_at "px"
            refine ⟨progP rows, j, e, decide (i2 = 0), rfl, jl, by omega, ?_⟩
            walk_at "px"
            refine ⟨mil (by rw [List.length_map, addR_len]; simp; omega), ?_⟩
            walk_at "px"
            exact hN2 _ ⟨_, rfl⟩
          rintro _ ⟨b, rfl⟩
          refine seq_cut (fun Γ1 => Γ1 = [some .deck, some (.v (progD (progP rows))), some (.v (rowD aheadR)), some (.v (.str (nestK kd).w)), some (.v e.d), some (.v (.int (j : Int))), some (.v (progD (aheadR :: addR (progP rows) j e b))), some (.v (faultD (nestK kd).w (some ((progP rows)[j].1, nestX kd)))), none, none, none, none]) (fun N2 hN2 => ?_) ?_
          · walk_at "px"
            refine ⟨rowD (progP rows)[j], atI_nat (by rw [List.getElem?_map, List.getElem?_eq_getElem jl]; rfl), ?_⟩
            walk_at "px"
            cases kd with
            | false =>
              walk_at "px"
              exact hN2 _ rfl
            | true =>
              walk_at "px"
              exact hN2 _ rfl
          rintro _ rfl
          have PP := ahead_fault D jl b (put_nest (rows := aheadR :: addR (progP rows) j e b) (ps := (progP rows)[j].2.1) T kd (kn := knZ) (fun _ => rfl) e he)
          rw [due_vOf] at PP
          have dok : DueOk (faultD (nestK kd).w (some ((progP rows)[j].1, nestX kd))) := ls_fault (by cases kd <;> exact Dh.Ls.word (n := 12) (by decide +kernel)) (nmi jl) (by cases kd <;> exact Dh.Ls.word (n := 12) (by decide +kernel))
          generalize faultD (nestK kd).w (some ((progP rows)[j].1, nestX kd)) = due at PP dok
          generalize aheadR :: addR (progP rows) j e b = oth at PP
          walk_at "px"
          refine ⟨PP.ok, PP.few, PP.prog, ?_⟩
          rw [PP.flt]
          walk_at "px"
          refine ⟨PP.ok, PP.few, PP.prog, ?_⟩
          rw [PP.flt]
          walk_at "px"
          obtain ⟨q1, q2, q3⟩ := ls_same (ls_two dok dok) (by decide) (by decide)
          refine ⟨q1, q2, q3, ?_⟩
          walk_at "px"
          exact hM2 _ ⟨po, _, _, _, _, rfl, fun x hx => sub x (by simp [hx]), rfl⟩
      · rintro Γ ⟨po, c4, c5, c6, c7, eq, sub, rfl⟩
        exact hM _ ⟨fun d hd => hq d (by simp [hd]), _, _, _, _, _, rfl⟩
    · rintro Γ ⟨_, c3, c4, c5, c6, c7, rfl⟩
      exact hN _ ⟨_, _, _, _, _, rfl⟩
  rintro _ ⟨c3, c4, c5, c6, c7, rfl⟩
  have drawn : ∀ {i : Int}, 0 ≤ i → i < ((List.map rowD (progP rows)).length : Int) → ∃ j : Nat, i = (j : Int) ∧ j < (progP rows).length := fun {i} h0 h1 => by
    rw [List.length_map] at h1
    exact ⟨i.toNat, by omega, by omega⟩
  have l1 : (1 : Int) ≤ ((List.map rowD (progP rows)).length : Int) := by rw [List.length_map]; omega
  have l2 : ((List.map rowD (progP rows)).length : Int) ≤ 100000 := by rw [List.length_map]; omega
  refine seq_cut (fun Γ1 => ∃ j : Nat, j < (progP rows).length ∧ Γ1 = [some .deck, some (.v (progD (progP rows))), some (.v (rowD aheadR)), c3, c4, some (.v (.int (j : Int))), c6, c7, none, none, none, none]) (fun N2 hN2 => ?_) ?_
  · walk_at "px"
    refine ⟨l1, l2, fun i i0 i1 => ?_⟩
    obtain ⟨j, rfl, jl⟩ := drawn i0 i1
    walk_at "px"
    exact hN2 _ ⟨j, jl, rfl⟩
  rintro _ ⟨j, jl, rfl⟩
  refine seq_cut (fun Γ1 => ∃ b : Bool, Γ1 = [some .deck, some (.v (progD (progP rows))), some (.v (rowD aheadR)), c3, c4, some (.v (.int (j : Int))), some (.v (progD (addR (progP rows) j call2 b))), c7, none, none, none, none]) (fun N2 hN2 => ?_) ?_
  · walk_at "px"
    refine ⟨by decide, by decide, fun i2 i20 i21 => ?_⟩
    walk_at "px"
    refine ⟨progP rows, j, call2, decide (i2 = 0), rfl, jl, by omega, ?_⟩
    walk_at "px"
    exact hN2 _ ⟨_, rfl⟩
  rintro _ ⟨b, rfl⟩
  have W := P_wh D jl
  have PP := one_fault D jl (put_call2 (kn := fun _ => False) W) b
  rw [due_vOf] at PP
  have dok : DueOk (faultD Kn.cal.w (some ((progP rows)[j].1, "g1"))) := ls_fault (Dh.Ls.word (n := 12) (by decide +kernel)) (nmi jl) (Dh.Ls.word (n := 12) (by decide +kernel))
  refine seq_cut (fun Γ1 => Γ1 = [some .deck, some (.v (progD (progP rows))), some (.v (rowD aheadR)), c3, c4, some (.v (.int (j : Int))), some (.v (progD (addR (progP rows) j call2 b))), c7, none, none, none, none]) (fun N2 hN2 => ?_) ?_
  · generalize addR (progP rows) j call2 b = oth at PP hN2 ⊢
    walk_at "px"
    refine ⟨PP.ok, PP.few, PP.prog, ?_⟩
    rw [PP.flt]
    walk_at "px"
    refine ⟨rowD (progP rows)[j], atI_nat (by rw [List.getElem?_map, List.getElem?_eq_getElem jl]; rfl), ?_⟩
    walk_at "px"
    obtain ⟨q1, q2, q3⟩ := ls_same dok (by decide) (by decide)
    refine ⟨q2, q3, ?_⟩
    walk_at "px"
    exact hN2 _ rfl
  rintro _ rfl
  clear PP dok W
  generalize addR (progP rows) j call2 b = oth
  refine seq_cut (fun Γ1 => ∃ i j : Nat, i < (progP rows).length ∧ j < (progP rows).length ∧ Γ1 = [some .deck, some (.v (progD (progP rows))), some (.v (rowD aheadR)), c3, c4, some (.v (.int (i : Int))), some (.v (progD oth)), c7, some (.v (.int (j : Int))), none, none, none]) (fun N2 hN2 => ?_) ?_
  · walk_at "px"
    refine ⟨l1, l2, fun i i0 i1 => ?_⟩
    obtain ⟨i, rfl, il⟩ := drawn i0 i1
    walk_at "px"
    refine ⟨l1, l2, fun j j0 j1 => ?_⟩
    obtain ⟨j, rfl, jl⟩ := drawn j0 j1
    walk_at "px"
    exact hN2 _ ⟨i, j, il, jl, rfl⟩
  rintro _ ⟨i, j, il, jl, rfl⟩
  refine seq_cut (fun Γ1 => ∃ b : Bool, Γ1 = [some .deck, some (.v (progD (progP rows))), some (.v (rowD aheadR)), c3, c4, some (.v (.int (i : Int))), some (.v (progD (addR (progP rows) i (small .par false) b))), c7, some (.v (.int (j : Int))), none, none, none]) (fun N2 hN2 => ?_) ?_
  · walk_at "px"
    refine ⟨.par, false, rfl, ?_⟩
    walk_at "px"
    refine ⟨by decide, by decide, fun i2 i20 i21 => ?_⟩
    walk_at "px"
    refine ⟨progP rows, i, small .par false, decide (i2 = 0), rfl, il, by omega, ?_⟩
    walk_at "px"
    exact hN2 _ ⟨_, rfl⟩
  rintro _ ⟨b, rfl⟩
  have jl1 : j < (addR (progP rows) i (small .par false) b).length := by rw [addR_len]; exact jl
  have len1 : (addR (progP rows) i (small .par false) b).length ≤ 6 := by rw [addR_len]; exact lenI
  have sg := addR_sig (progP rows) i (small .par false) b
  have PP := more_fault D il jl b jl1
  have nm1 : (addR (progP rows) i (small .par false) b)[j].1 = (progP rows)[j].1 := by
    have h1 : ((addR (progP rows) i (small .par false) b).map fun r => (r.1, r.2.1))[j]? = ((progP rows).map fun r => (r.1, r.2.1))[j]? := by rw [sg]
    rw [List.getElem?_map, List.getElem?_map, List.getElem?_eq_getElem jl1, List.getElem?_eq_getElem jl] at h1
    exact (Prod.mk.inj (Option.some.inj h1)).1
  generalize addR (progP rows) i (small .par false) b = rs at jl1 len1 PP nm1
  generalize hr : rs[j] = r at PP nm1
  obtain ⟨f1, ps1, e1⟩ := r
  have nm1 : f1 = (progP rows)[j].1 := nm1
  subst nm1
  have tk : ((rs.map rowD).take j).length ≤ rs.length := by rw [List.length_take, List.length_map]; omega
  have dr : ((rs.map rowD).drop (j + 1)).length ≤ rs.length := by rw [List.length_drop, List.length_map]; omega
  have es : progD (rs.set j (moreR ((progP rows)[j].1, ps1, e1))) = .tuple ((rs.map rowD).take j ++ [.tuple [.str (progP rows)[j].1, .tuple (ps1.map .str ++ [.str "p2", .str "p2"]), e1.d]] ++ (rs.map rowD).drop (j + 1)) := by
    unfold progD
    rw [List.map_set, List.set_eq_take_append_cons_drop, if_pos (by rw [List.length_map]; exact jl1)]
    simp [moreR, rowD]
  have psl : ps1.length ≤ 400000 := by
    have := (PP.ok.ok (moreR ((progP rows)[j].1, ps1, e1)) (List.mem_set jl1 _)).p
    have h : (ps1 ++ p22).length ≤ 4000 := this
    rw [List.length_append] at h
    omega
  refine seq_cut (fun Γ1 => Γ1 = [some .deck, some (.v (progD (progP rows))), some (.v (rowD aheadR)), c3, c4, some (.v (.int (i : Int))), some (.v (progD rs)), c7, some (.v (.int (j : Int))), some (.v (.str (progP rows)[j].1)), some (.v (.tuple (ps1.map .str))), some (.v e1.d)]) (fun N2 hN2 => ?_) ?_
  · walk_at "px"
    refine ⟨rowD ((progP rows)[j].1, ps1, e1), atI_nat (by rw [List.getElem?_map, List.getElem?_eq_getElem jl1, hr]; rfl), ?_⟩
    walk_at "px"
    exact hN2 _ rfl
  rintro _ rfl
  refine seq_cut (fun Γ1 => Γ1 = [some .deck, some (.v (progD (progP rows))), some (.v (rowD aheadR)), c3, c4, some (.v (.int (i : Int))), some (.v (progD (rs.set j (moreR ((progP rows)[j].1, ps1, e1))))), c7, some (.v (.int (j : Int))), some (.v (.str (progP rows)[j].1)), some (.v (.tuple (ps1.map .str))), some (.v e1.d)]) (fun N2 hN2 => ?_) ?_
  · rw [es] at hN2
    walk_at "px"
    rw [cutD_to]
    refine ⟨mil (by rw [List.length_map]; show ps1.length + 2 ≤ _; omega), ?_⟩
    walk_at "px"
    refine ⟨mil (by simp only [List.length_singleton]; omega), ?_⟩
    walk_at "px"
    rw [show ((j : Int) + 1) = ((j + 1 : Nat) : Int) by omega, cutD_from]
    refine ⟨mil (by rw [List.length_append]; simp only [List.length_singleton]; omega), ?_⟩
    walk_at "px"
    exact hN2 _ rfl
  rintro _ rfl
  generalize rs.set j (moreR ((progP rows)[j].1, ps1, e1)) = oth at PP
  have dok : DueOk (faultD "parameter" (some (if j ≤ i then ((progP rows)[j].1, ("p2" : Str)) else ((progP rows)[i].1, ("p1" : Str))))) := by
    by_cases le : j ≤ i
    · rw [if_pos le]
      exact ls_fault (Dh.Ls.word (n := 12) (by decide +kernel)) (nmi jl) (Dh.Ls.word (n := 12) (by decide +kernel))
    · rw [if_neg le]
      exact ls_fault (Dh.Ls.word (n := 12) (by decide +kernel)) (nmi il) (Dh.Ls.word (n := 12) (by decide +kernel))
  obtain ⟨q1, q2, q3⟩ := ls_same dok (by decide) (by decide)
  have hat : atI ((progP rows).map rowD) (i : Int) = some (rowD ((progP rows)[i]'il)) := atI_nat (by rw [List.getElem?_map, List.getElem?_eq_getElem il]; rfl)
  generalize hgp : progP rows = PR at *
  walk_at "px"
  refine ⟨PP.ok, PP.few, PP.prog, ?_⟩
  rw [PP.flt]
  walk_at "px"
  by_cases le : j ≤ i
  · rw [if_pos le] at q2 q3
    rw [if_pos le, decide_eq_true (show (j : Int) ≤ (i : Int) by omega)]
    walk_at "px"
    refine ⟨q2, q3, _, _, rfl, True.intro, k⟩
  · rw [if_neg le] at q2 q3
    rw [if_neg le, decide_eq_false (show ¬ (j : Int) ≤ (i : Int) by omega)]
    refine ⟨(fun h => nomatch h), fun _ => ?_⟩
    refine ⟨_, _, rfl, ?_⟩
    refine ⟨_, rfl, ?_⟩
    refine ⟨_, rfl, ?_⟩
    refine ⟨_, _, rfl, rfl, ?_⟩
    refine ⟨_, hat, ?_⟩
    walk_at "px"
    refine ⟨q2, q3, _, _, rfl, True.intro, k⟩
end
end K10
end

/-! K10G -/
section
set_option Elab.async false
set_option linter.all false
set_option maxRecDepth 100000
set_option maxHeartbeats 4000000
namespace K10
open PySem PySem.Spec PyProof.Rows L2 Dh Px Pg
def Kn.idx : Kn → Int
  | .par => 0
  | .unb => 1
  | .cal => 2
  | .tag => 3
  | .bra => 4
def dueT (f g : Str) (k1 k2 : Kn) (le : Bool) : PyData :=
  if (if k1.idx = k2.idx then le else decide (k1.idx < k2.idx)) = true then faultD k1.w (some (f, near k1 false)) else faultD k2.w (some (g, near k2 true))
theorem dueT_of (f g : Str) (k1 k2 : Kn) (le : Bool) : firstK (Kn.all.map fun k => (k.w, twoV (vOf k1 (near k1 false)) (vOf k2 (near k2 true)) f g le k)) = dueT f g k1 k2 le := by
  cases k1 <;> cases k2 <;> cases le <;> rfl
structure Pk (PR : List Rw) : Prop where
  len : 1 ≤ PR.length ∧ PR.length ≤ 6
  nm : ∀ r ∈ PR, isName (.str r.1) = true
  two : ∀ (i j : Nat) (hi : i < PR.length) (hj : j < PR.length) (k1 k2 : Kn), InPut (addR (addR PR i (small k1 false) true) j (small k2 true) false) (dueT PR[i].1 PR[j].1 k1 k2 (decide (i ≤ j)))
  twi : ∀ (i j : Nat) (_ : i < PR.length) (_ : j < PR.length) (k1 k2 : Kn) (f : Str), f ∈ PR.map (·.1) → InPut (addR (addR PR i (small k1 false) true) j (small k2 true) false ++ [(f, [], intE 1)]) (twoD f)
  non : InPut PR .none
  out : ∀ (i : Nat) (hi : i < PR.length) (b b' : Bool), InPut (addR PR i (outerE b) b') (faultD "branch" (some (PR[i].1, "B2")))
theorem pk_of {S : Sg} {rows : List Rw} (D : Drawn usK tgK S rows) : Pk (progP rows) := by
  have lens := P_len D
  refine ⟨lens, fun r hr => (P_row D r hr).f, fun i j hi hj k1 k2 => ?_, fun i j hi hj k1 k2 f hf => ?_, ?_, fun i hi b b' => ?_⟩
  · rw [← dueT_of]
    exact two_fault D hi hj (put_small (P_wh D hi) k1 false) (put_small (P_wh D hj) k2 true)
  · have sg := (addR_sig (addR (progP rows) i (small k1 false) true) j (small k2 true) false).trans (addR_sig (progP rows) i (small k1 false) true)
    have p := put_small (kn := fun _ => False) (P_wh D hi) k1 false
    have q := put_small (kn := fun _ => False) (P_wh D hj) k2 true
    refine twice_fault (by rw [names_sig sg]; exact P_nd D) (by rw [names_sig sg]; exact hf) (by rw [addR_len, addR_len]; omega) fun r hr => ?_
    exact (add_rows (add_rows (P_row D) hi p.fit p.ok p.n true) (by rw [addR_len]; exact hj) q.fit q.ok q.n false r hr).mono (by decide)
  · exact inp_of (by omega) (fun z => by rw [z] at lens; exact absurd lens.1 (by decide)) (fun r hr => (P_row D r hr).mono (by decide)) (P_none D)
  · have := one_fault D hi (put_outer (S := S) (rows := progP rows) (ps := (progP rows)[i].2.1) (kn := fun _ => False) b) b'
    rw [due_vOf] at this
    exact this
theorem near_ls (k : Kn) (m : Bool) : Dh.Ls 122 0 (.str (near k m)) := by
  cases k <;> cases m <;> exact Dh.Ls.word (n := 12) (by decide +kernel)
theorem w_ls (k : Kn) : Dh.Ls 122 0 (.str k.w) := by
  cases k <;> exact Dh.Ls.word (n := 12) (by decide +kernel)
theorem dueT_ok {f g : Str} (hf : isName (.str f) = true) (hg : isName (.str g) = true) (k1 k2 : Kn) (le : Bool) : DueOk (dueT f g k1 k2 le) := by
  unfold dueT
  by_cases h : (if k1.idx = k2.idx then le else decide (k1.idx < k2.idx)) = true
  · rw [if_pos h]; exact ls_fault (w_ls k1) hf (near_ls k1 false)
  · rw [if_neg h]; exact ls_fault (w_ls k2) hg (near_ls k2 true)
theorem twoD_ok {f : Str} (hf : isName (.str f) = true) : DueOk (twoD f) := by
  have := (Dh.LsA.cons (Dh.Ls.word (n := 12) (k := 0) (x := "twice") (by decide +kernel)) (Dh.LsA.cons (name_ls (k := 0) hf) Dh.LsA.nil)).tup
  exact this.more (by simp) (by decide)
end K10
end

/-! K10E -/
section
set_option Elab.async false
set_option linter.all false
set_option maxRecDepth 100000
set_option maxHeartbeats 16000000
namespace K10
open PySem PySem.Spec PyProof.Rows L2 Dh Px Pg
local macro_rules | `(tactic| walk_at "px") => `(tactic| repeat (first
  | refine yT ?_ | refine yF ?_ | refine ⟨_, rfl, ?_⟩ | refine ⟨_, _, rfl, rfl, ?_⟩ | refine ⟨_, _, rfl, ?_⟩
  | refine ⟨_, _, rfl, isi (.tuple _), ?_⟩ | refine ⟨_, _, rfl, isi (.str _), ?_⟩ | refine ⟨_, _, rfl, isi (.int _), ?_⟩ | refine ⟨_, _, rfl, isi (.bool _), ?_⟩
  | refine pix_word ?_ | refine ⟨⟨_, rfl⟩, ?_⟩ | refine ⟨True.intro, ?_⟩ | refine ⟨rfl, ?_⟩ | refine ⟨(Nat.le_of_ble_eq_true rfl : _ ≤ sizeLine), ?_⟩))
section
variable {P : Program} {w : World} {K : PySem.W.Frag} {mg : Str → Option Value} {base : Heap}
abbrev sLaw := top 64
abbrev namesLaw : List Str := ["script", "deck", "kinds", "used", "program", "one", "first", "other", "second", "e", "near", "a", "far", "at", "to", "some", "due", "f", "inner_v", "outer"]
theorem scLaw : FnScope namesLaw ["script"] (defScope sLaw) := ⟨rfl, rfl, rfl, by decide +kernel, rfl, by decide +kernel, by decide +kernel⟩
def kiD : PyData := .tuple [.str "parameter", .str "unbound", .str "call", .str "tag", .str "branch"]
def kD (k : Kn) : PyData := .tuple [.int k.idx, .str k.w]
theorem okLaw {f f1 f2 f3 f4 f5 f6 f7 f8 f9 : Addr} {fd fd1 fd2 fd3 fd4 fd5 fd6 fd7 fd8 fd9 : FuncData} (F : Fun K "law" "law" sLaw f fd) (T : Blt mg) (D_law_deck : Dh.Df P w K mg base "_law_deck" 1 f1 fd1 ["script"] (Dh.spDeck K)) (D_law_draw : DfD P w K mg base "_law_draw" 1 f2 fd2 ["deck", "many"] fDraw) (D_law_pick : DfD P w K mg base "_law_pick" 2 f3 fd3 ["deck", "some"] fPick)
    (D_law_same : DfD P w K mg base "_law_same" 1 f4 fd4 ["told", "due"] fSame) (D_law_program : Dh.Df P w K mg base "_law_program" 12 f5 fd5 ["deck", "used", "tagged", "fuel"] Dh.spProg)
    (D_law_small : DfD P w K mg base "_law_small" 1 f6 fd6 ["kind", "mark"] fSmall) (D_law_added : DfD P w K mg base "_law_added" 1 f7 fd7 ["program", "at", "e", "is_first"] fAdded) (D_law_are_nested : DfD P w K mg base "_law_are_nested" 12 f8 fd8 ["deck", "program"] fAre)
    (Dfault : DfD P w K mg base "fault" 11 f9 fd9 ["program"] fFault) (faultKw : BindsKw K fd9 ["program"] ["program"] [0]) :
    FnG P w K mg base CX0 13 f fd ["script"] (spLaw K) := by
  have sc := scLaw
  refine FnG.by0 F sc (fun vs H Q E h => by obtain ⟨_, _, rfl, _⟩ := h; rfl) (fun cdv A outer s H vs Q E noG hr h => ?_)
  obtain ⟨sc_, ns, rfl, hsq, hns, k⟩ := h
  have hu := hu_of hr
  have hu65 := room65 hr
  have hu70 := room70 hr
  have part : ∃ t w', XSs (cxOf CX0 P w K mg base namesLaw "law" (defScope sLaw) f cdv A outer s H E).nox ((defBody sLaw).drop 1) t w' ∧ ∀ Φ : PEnds, Φ.rt (.v (.bool true)) → w' (none :: some .deck :: List.replicate 18 none) Φ := by
    refine ⟨_, _, (xss_cons (xs_set (i := 2) sc.nd rfl (Or.inl rfl) (xe_tup (xv_cons xe_str (xv_cons xe_str (xv_cons xe_str (xv_cons xe_str (xv_cons xe_str xv_nil))))))) 
      (xss_cons (xs_set (i := 3) sc.nd rfl (Or.inl rfl) (xe_lst (xv_cons xe_str (xv_cons xe_str (xv_cons xe_str (xv_cons xe_str (xv_cons xe_str (xv_cons xe_str (xv_cons xe_str (xv_cons xe_str (xv_cons xe_str (xv_cons xe_str xv_nil)))))))))))) 
      (xss_cons (xs_set (i := 4) sc.nd rfl (Or.inl rfl) (xe_progV (i := 1) (j := 3) (us := usK) (tgs := tgK) (n := 40) (pe_call D_law_program.ok (hr.mono (by decide)) (by rfl) D_law_program.m D_law_program.k D_law_program.b .nil pass0 (pa_cons (pv 1) (pa_cons (pv 3) (pa_cons (pe_lst (pa_cons pe_str (pa_cons pe_str (pa_cons pe_str (pa_cons pe_str (pa_cons pe_str (pa_cons pe_str (pa_cons pe_str pa_nil)))))))) (pa_cons pe_int pa_nil))))))) 
      (xss_cons (xs_set (i := 4) sc.nd rfl (Or.inl rfl) (xe_op op_catA PCatT (xe_var (pv 4)) (xe_tup (xv_cons (xe_tup (xv_cons xe_str (xv_cons (xe_tup xv_nil) (xv_cons (xe_tup (xv_cons xe_str (xv_cons xe_int xv_nil))) xv_nil)))) xv_nil)))) 
      (xss_cons (xs_for PassesOwn.never rfl (xi_enumT (by rfl) T.enumerate (xe_var (pv 2))) (xg_tup (by rfl) (xgs_cons (xg_name (i := 5) sc.nd rfl (Or.inl rfl)) (xgs_cons (xg_name (i := 6) sc.nd rfl (Or.inl rfl)) xgs_nil)))
        (xss_one (xs_for PassesOwn.never rfl (xi_enumT (by rfl) T.enumerate (xe_var (pv 2))) (xg_tup (by rfl) (xgs_cons (xg_name (i := 7) sc.nd rfl (Or.inl rfl)) (xgs_cons (xg_name (i := 8) sc.nd rfl (Or.inl rfl)) xgs_nil)))
          (xss_cons (xs_asg (xe_tup (xv_cons (xe_call D_law_small.ok noG (hr.mono (by decide)) (by rfl) D_law_small.m D_law_small.k D_law_small.b (xp_cons (xe_var (pv 6)) (xp_cons xe_str xp_nil))) (xv_cons (xe_call D_law_small.ok noG (hr.mono (by decide)) (by rfl) D_law_small.m D_law_small.k D_law_small.b (xp_cons (xe_var (pv 8)) (xp_cons xe_str xp_nil))) xv_nil))) (xg_tup (by rfl) (xgs_cons (xg_tup (by rfl) (xgs_cons (xg_name (i := 9) sc.nd rfl (Or.inl rfl)) (xgs_cons (xg_name (i := 10) sc.nd rfl (Or.inl rfl)) xgs_nil))) (xgs_cons (xg_tup (by rfl) (xgs_cons (xg_name (i := 11) sc.nd rfl (Or.inl rfl)) (xgs_cons (xg_name (i := 12) sc.nd rfl (Or.inl rfl)) xgs_nil))) xgs_nil)))) 
          (xss_cons (xs_par (i := 13) (j := 14) rfl sc.nd rfl rfl (by decide) rfl rfl (xe_call D_law_draw.ok noG (hr.mono (by decide)) (by rfl) D_law_draw.m D_law_draw.k D_law_draw.b (xp_cons (xe_var (pv 1)) (xp_cons (xe_CB (xr_cons (xe_var (pv 4)) xr_nil) (fun _ p => pe_callB call_len (by rfl) T.len (by decide +kernel) p) PLen) xp_nil))) (xe_call D_law_draw.ok noG (hr.mono (by decide)) (by rfl) D_law_draw.m D_law_draw.k D_law_draw.b (xp_cons (xe_var (pv 1)) (xp_cons (xe_CB (xr_cons (xe_var (pv 4)) xr_nil) (fun _ p => pe_callB call_len (by rfl) T.len (by decide +kernel) p) PLen) xp_nil))) (by rfl)) 
          (xss_cons (xs_set (i := 15) sc.nd rfl (Or.inl rfl) (xe_call D_law_added.ok noG (hr.mono (by decide)) (by rfl) D_law_added.m D_law_added.k D_law_added.b (xp_cons (xe_call D_law_added.ok noG (hr.mono (by decide)) (by rfl) D_law_added.m D_law_added.k D_law_added.b (xp_cons (xe_var (pv 4)) (xp_cons (xe_var (pv 13)) (xp_cons (xe_var (pv 9)) (xp_cons xe_bl xp_nil))))) (xp_cons (xe_var (pv 14)) (xp_cons (xe_var (pv 11)) (xp_cons xe_bl xp_nil)))))) 
          (xss_cons (xs_set (i := 16) sc.nd rfl (Or.inl rfl) (xe_if (xt_cmp op_lt PLt (xe_var (pv 5)) (xe_var (pv 7)) (nomark _)) (xe_tup (xv_cons (xe_var (pv 6)) (xv_cons (xe_ix (xe_ix (xe_var (pv 4)) (xe_var (pv 13)) (fun _ _ => rfl)) xe_int (fun _ _ => rfl)) (xv_cons (xe_var (pv 10)) xv_nil)))) (xe_tup (xv_cons (xe_var (pv 8)) (xv_cons (xe_ix (xe_ix (xe_var (pv 4)) (xe_var (pv 14)) (fun _ _ => rfl)) xe_int (fun _ _ => rfl)) (xv_cons (xe_var (pv 12)) xv_nil)))))) 
          (xss_cons (xs_if (xt_cmp op_eq PEq (xe_var (pv 5)) (xe_var (pv 7)) (nomark _)) (xss_one (xs_set (i := 16) sc.nd rfl (Or.inl rfl) (xe_if (xt_cmp op_le PLe (xe_var (pv 13)) (xe_var (pv 14)) (nomark _)) (xe_tup (xv_cons (xe_var (pv 6)) (xv_cons (xe_ix (xe_ix (xe_var (pv 4)) (xe_var (pv 13)) (fun _ _ => rfl)) xe_int (fun _ _ => rfl)) (xv_cons (xe_var (pv 10)) xv_nil)))) (xe_tup (xv_cons (xe_var (pv 8)) (xv_cons (xe_ix (xe_ix (xe_var (pv 4)) (xe_var (pv 14)) (fun _ _ => rfl)) xe_int (fun _ _ => rfl)) (xv_cons (xe_var (pv 12)) xv_nil))))))) xss_nil) 
          (xss_cons (xs_if (xt_not (xt_val (xe_call D_law_same.ok noG (hr.mono (by decide)) (by rfl) D_law_same.m D_law_same.k D_law_same.b (xp_cons (xe_tup (xv_cons (xe_call Dfault.ok noG (hr.mono (by decide)) (by rfl) Dfault.m Dfault.k Dfault.b (xp_cons (xe_var (pv 15)) xp_nil)) (xv_cons (xe_callKw Dfault.ok noG (hr.mono (by decide)) (by rfl) Dfault.m Dfault.k faultKw (xk_cons (xe_var (pv 15)) xk_nil)) xv_nil))) (xp_cons (xe_tup (xv_cons (xe_var (pv 16)) (xv_cons (xe_var (pv 16)) xv_nil))) xp_nil))))) (xss_one (xs_ret xe_bl)) xss_nil) 
          (xss_cons (xs_set (i := 17) sc.nd rfl (Or.inl rfl) (xe_ix (xe_call D_law_pick.ok noG (hr.mono (by decide)) (by rfl) D_law_pick.m D_law_pick.k D_law_pick.b (xp_cons (xe_var (pv 1)) (xp_cons (xe_var (pv 4)) xp_nil))) xe_int (fun _ _ => rfl))) 
          (xss_one (xs_if (xt_not (xt_val (xe_call D_law_same.ok noG (hr.mono (by decide)) (by rfl) D_law_same.m D_law_same.k D_law_same.b (xp_cons (xe_call Dfault.ok noG (hr.mono (by decide)) (by rfl) Dfault.m Dfault.k Dfault.b (xp_cons (xe_op op_catA PCatT (xe_var (pv 15)) (xe_tup (xv_cons (xe_tup (xv_cons (xe_var (pv 17)) (xv_cons (xe_tup xv_nil) (xv_cons (xe_tup (xv_cons xe_str (xv_cons xe_int xv_nil))) xv_nil)))) xv_nil))) xp_nil)) (xp_cons (xe_tup (xv_cons xe_str (xv_cons (xe_var (pv 17)) xv_nil))) xp_nil))))) (xss_one (xs_ret xe_bl)) xss_nil)))))))))))) 
      (xss_cons (xs_par (i := 13) (j := 18) rfl sc.nd rfl rfl (by decide) rfl rfl (xe_call D_law_draw.ok noG (hr.mono (by decide)) (by rfl) D_law_draw.m D_law_draw.k D_law_draw.b (xp_cons (xe_var (pv 1)) (xp_cons (xe_CB (xr_cons (xe_var (pv 4)) xr_nil) (fun _ p => pe_callB call_len (by rfl) T.len (by decide +kernel) p) PLen) xp_nil))) (xe_ix (xe_call D_law_small.ok noG (hr.mono (by decide)) (by rfl) D_law_small.m D_law_small.k D_law_small.b (xp_cons xe_str (xp_cons xe_str xp_nil))) xe_int (fun _ _ => rfl)) (by rfl)) 
      (xss_cons (xs_set (i := 19) sc.nd rfl (Or.inl rfl) (xe_tup (xv_cons xe_str (xv_cons (xe_var (pv 18)) (xv_cons (xe_tup (xv_cons (xe_tup (xv_cons xe_str (xv_cons (xe_tup xv_nil) (xv_cons (xe_tup (xv_cons xe_str (xv_cons xe_int xv_nil))) xv_nil)))) (xv_cons (xe_tup (xv_cons xe_str (xv_cons (xe_tup xv_nil) (xv_cons (xe_tup (xv_cons xe_str (xv_cons xe_int xv_nil))) xv_nil)))) xv_nil))) xv_nil))))) 
      (xss_cons (xs_if (xt_cmp op_eq PEq (xe_call D_law_draw.ok noG (hr.mono (by decide)) (by rfl) D_law_draw.m D_law_draw.k D_law_draw.b (xp_cons (xe_var (pv 1)) (xp_cons xe_int xp_nil))) xe_int (nomark _)) (xss_one (xs_set (i := 19) sc.nd rfl (Or.inl rfl) (xe_tup (xv_cons xe_str (xv_cons (xe_tup (xv_cons xe_str (xv_cons xe_int xv_nil))) (xv_cons (xe_tup (xv_cons (xe_tup (xv_cons xe_str (xv_cons (xe_tup xv_nil) (xv_cons (xe_var (pv 18)) xv_nil)))) (xv_cons (xe_tup (xv_cons xe_str (xv_cons (xe_tup xv_nil) (xv_cons (xe_tup (xv_cons xe_str (xv_cons xe_int xv_nil))) xv_nil)))) (xv_cons (xe_tup (xv_cons xe_str (xv_cons (xe_tup xv_nil) (xv_cons (xe_tup (xv_cons xe_str (xv_cons xe_int xv_nil))) xv_nil)))) xv_nil)))) xv_nil)))))) xss_nil) 
      (xss_cons (xs_set (i := 15) sc.nd rfl (Or.inl rfl) (xe_call D_law_added.ok noG (hr.mono (by decide)) (by rfl) D_law_added.m D_law_added.k D_law_added.b (xp_cons (xe_var (pv 4)) (xp_cons (xe_var (pv 13)) (xp_cons (xe_var (pv 19)) (xp_cons (xe_cmp op_eq PEq (xe_call D_law_draw.ok noG (hr.mono (by decide)) (by rfl) D_law_draw.m D_law_draw.k D_law_draw.b (xp_cons (xe_var (pv 1)) (xp_cons xe_int xp_nil))) xe_int (nomark _)) xp_nil)))))) 
      (xss_cons (xs_if (xt_not (xt_val (xe_call D_law_same.ok noG (hr.mono (by decide)) (by rfl) D_law_same.m D_law_same.k D_law_same.b (xp_cons (xe_tup (xv_cons (xe_call Dfault.ok noG (hr.mono (by decide)) (by rfl) Dfault.m Dfault.k Dfault.b (xp_cons (xe_var (pv 15)) xp_nil)) (xv_cons (xe_call Dfault.ok noG (hr.mono (by decide)) (by rfl) Dfault.m Dfault.k Dfault.b (xp_cons (xe_var (pv 4)) xp_nil)) xv_nil))) (xp_cons (xe_tup (xv_cons (xe_tup (xv_cons xe_str (xv_cons (xe_ix (xe_ix (xe_var (pv 4)) (xe_var (pv 13)) (fun _ _ => rfl)) xe_int (fun _ _ => rfl)) (xv_cons xe_str xv_nil)))) (xv_cons xe_non xv_nil))) xp_nil))))) (xss_one (xs_ret xe_bl)) xss_nil) 
      (xss_one (xs_ret (xe_call D_law_are_nested.ok noG (hr.mono (by decide)) (by rfl) D_law_are_nested.m D_law_are_nested.k D_law_are_nested.b (xp_cons (xe_var (pv 1)) (xp_cons (xe_var (pv 4)) xp_nil))))))))))))))), fun Φ hΦ => ?_⟩
    refine seq_cut (fun Γ1 => Γ1 = none :: some .deck :: some (.v kiD) :: List.replicate 17 none) (fun N hN => ?_) ?_
    · walk_at "px"
      exact hN _ rfl
    rintro _ rfl
    refine seq_cut (fun Γ1 => Γ1 = none :: some .deck :: some (.v kiD) :: some (.own (.list (usK.map .str))) :: List.replicate 16 none) (fun N hN => ?_) ?_
    · walk_at "px"
      exact hN _ rfl
    rintro _ rfl
    refine seq_cut (fun Γ1 => ∃ (S : Sg) (rows : List Rw), Drawn usK tgK S rows ∧ Γ1 = none :: some .deck :: some (.v kiD) :: some (.own (.list ((usK ++ (S.fs.map (·.1) ++ S.loc)).map .str))) :: some (.v (progD rows)) :: List.replicate 15 none) (fun N hN => ?_) ?_
    · walk_at "px"
      intro S rows Dr
      walk_at "px"
      exact hN _ ⟨S, rows, Dr, rfl⟩
    rintro _ ⟨S, rows, Dr, rfl⟩
    generalize PyData.list ((usK ++ (S.fs.map (·.1) ++ S.loc)).map .str) = u
    refine seq_cut (fun Γ1 => Γ1 = none :: some .deck :: some (.v kiD) :: some (.own u) :: some (.v (progD (progP rows))) :: List.replicate 15 none) (fun N hN => ?_) ?_
    · have l5 := Dr.len
      have e : progD (progP rows) = .tuple (rows.map rowD ++ [rowD lastR]) := by unfold progD progP; rw [List.map_append]; rfl
      rw [e] at hN
      walk_at "px"
      refine ⟨mil (by rw [List.length_map]; simp only [List.length_singleton]; omega), ?_⟩
      walk_at "px"
      exact hN _ rfl
    rintro _ rfl
    have pk := pk_of Dr
    have D0 := Dr
    generalize hgp : progP rows = PR at pk ⊢
    obtain ⟨rl1, rl2⟩ := pk.len
    have drawn : ∀ {i : Int}, 0 ≤ i → i < ((List.map rowD PR).length : Int) → ∃ j : Nat, i = (j : Int) ∧ j < PR.length := fun {i} h0 h1 => by
      rw [List.length_map] at h1
      exact ⟨i.toNat, by omega, by omega⟩
    have l1 : (1 : Int) ≤ ((List.map rowD PR).length : Int) := by rw [List.length_map]; omega
    have l2 : ((List.map rowD PR).length : Int) ≤ 100000 := by rw [List.length_map]; omega
    refine seq_cut (fun Γ1 => ∃ c5 c6 c7 c8 c9 c10 c11 c12 c13 c14 c15 c16 c17 c18 c19 : Option Px.D, Γ1 = [none, some .deck, some (.v kiD), some (.own u), some (.v (progD PR)), c5, c6, c7, c8, c9, c10, c11, c12, c13, c14, c15, c16, c17, c18, c19]) (fun N hN => ?_) ?_
    · refine for_cut (Kn.all.map kD) (fun q Γ => ∃ (po : List Kn) (c5 c6 c7 c8 c9 c10 c11 c12 c13 c14 c15 c16 c17 c18 c19 : Option Px.D), q = po.map kD ∧ Γ = [none, some .deck, some (.v kiD), some (.own u), some (.v (progD PR)), c5, c6, c7, c8, c9, c10, c11, c12, c13, c14, c15, c16, c17, c18, c19]) (fun Φ h => ?_) ⟨Kn.all, _, _, _, _, _, _, _, _, _, _, _, _, _, _, _, rfl, rfl⟩ ?_ ?_
      · walk_at "px"
        exact h
      · rintro d q Γ M ⟨po1, c5, c6, c7, c8, c9, c10, c11, c12, c13, c14, c15, c16, c17, c18, c19, eq, rfl⟩ hM
        cases po1 with
        | nil => cases eq
        | cons k1 po1 =>
        obtain ⟨rfl, rfl⟩ := List.cons.inj eq
        refine ⟨_, rfl, rfl, _, _, rfl, _, _, rfl, rfl, ?_⟩
        show wFor _ _ _ [none, some .deck, some (.v kiD), some (.own u), some (.v (progD PR)), some (.v (.int k1.idx)), some (.v (.str k1.w)), c7, c8, c9, c10, c11, c12, c13, c14, c15, c16, c17, c18, c19] _
        refine for_cut (Kn.all.map kD) (fun q Γ => ∃ (po : List Kn) (c7 c8 c9 c10 c11 c12 c13 c14 c15 c16 c17 c18 c19 : Option Px.D), q = po.map kD ∧ Γ = [none, some .deck, some (.v kiD), some (.own u), some (.v (progD PR)), some (.v (.int k1.idx)), some (.v (.str k1.w)), c7, c8, c9, c10, c11, c12, c13, c14, c15, c16, c17, c18, c19]) (fun Φ h => ?_) ⟨Kn.all, _, _, _, _, _, _, _, _, _, _, _, _, _, rfl, rfl⟩ ?_ ?_
        · walk_at "px"
          exact h
        · rintro d q Γ M2 ⟨po2, c7, c8, c9, c10, c11, c12, c13, c14, c15, c16, c17, c18, c19, eq, rfl⟩ hM2
          cases po2 with
          | nil => cases eq
          | cons k2 po2 =>
          obtain ⟨rfl, rfl⟩ := List.cons.inj eq
          refine ⟨_, rfl, rfl, _, _, rfl, _, _, rfl, rfl, ?_⟩
          show wSeq _ _ [none, some .deck, some (.v kiD), some (.own u), some (.v (progD PR)), some (.v (.int k1.idx)), some (.v (.str k1.w)), some (.v (.int k2.idx)), some (.v (.str k2.w)), c9, c10, c11, c12, c13, c14, c15, c16, c17, c18, c19] _
          refine seq_cut (fun Γ1 => Γ1 = [none, some .deck, some (.v kiD), some (.own u), some (.v (progD PR)), some (.v (.int k1.idx)), some (.v (.str k1.w)), some (.v (.int k2.idx)), some (.v (.str k2.w)), some (.v (small k1 false).d), some (.v (.str (near k1 false))), some (.v (small k2 true).d), some (.v (.str (near k2 true))), c13, c14, c15, c16, c17, c18, c19]) (fun N2 hN2 => ?_) ?_
          · walk_at "px"
            refine ⟨k1, false, rfl, ?_⟩
            walk_at "px"
            refine ⟨k2, true, rfl, ?_⟩
            walk_at "px"
            exact hN2 _ rfl
          rintro _ rfl
          refine seq_cut (fun Γ1 => ∃ (i j : Nat), i < PR.length ∧ j < PR.length ∧ Γ1 = [none, some .deck, some (.v kiD), some (.own u), some (.v (progD PR)), some (.v (.int k1.idx)), some (.v (.str k1.w)), some (.v (.int k2.idx)), some (.v (.str k2.w)), some (.v (small k1 false).d), some (.v (.str (near k1 false))), some (.v (small k2 true).d), some (.v (.str (near k2 true))), some (.v (.int (i : Int))), some (.v (.int (j : Int))), c15, c16, c17, c18, c19]) (fun N2 hN2 => ?_) ?_
          · walk_at "px"
            refine ⟨l1, l2, fun i i0 i1 => ?_⟩
            obtain ⟨i, rfl, il⟩ := drawn i0 i1
            walk_at "px"
            refine ⟨l1, l2, fun j j0 j1 => ?_⟩
            obtain ⟨j, rfl, jl⟩ := drawn j0 j1
            walk_at "px"
            exact hN2 _ ⟨i, j, il, jl, rfl⟩
          rintro _ ⟨i, j, il, jl, rfl⟩
          have hati : atI (PR.map rowD) (i : Int) = some (rowD (PR[i]'il)) := atI_nat (by rw [List.getElem?_map, List.getElem?_eq_getElem il]; rfl)
          have hatj : atI (PR.map rowD) (j : Int) = some (rowD (PR[j]'jl)) := atI_nat (by rw [List.getElem?_map, List.getElem?_eq_getElem jl]; rfl)
          have nmi := pk.nm _ (List.getElem_mem il)
          have nmj := pk.nm _ (List.getElem_mem jl)
          refine seq_cut (fun Γ1 => Γ1 = [none, some .deck, some (.v kiD), some (.own u), some (.v (progD PR)), some (.v (.int k1.idx)), some (.v (.str k1.w)), some (.v (.int k2.idx)), some (.v (.str k2.w)), some (.v (small k1 false).d), some (.v (.str (near k1 false))), some (.v (small k2 true).d), some (.v (.str (near k2 true))), some (.v (.int (i : Int))), some (.v (.int (j : Int))), some (.v (progD (addR (addR PR i (small k1 false) true) j (small k2 true) false))), c16, c17, c18, c19]) (fun N2 hN2 => ?_) ?_
          · walk_at "px"
            refine ⟨PR, i, small k1 false, true, rfl, il, by omega, ?_⟩
            walk_at "px"
            refine ⟨addR PR i (small k1 false) true, j, small k2 true, false, rfl, by rw [addR_len]; exact jl, by rw [addR_len]; omega, ?_⟩
            walk_at "px"
            exact hN2 _ rfl
          rintro _ rfl
          have P2 := pk.two i j il jl k1 k2
          have P3 := fun f hf => pk.twi i j il jl k1 k2 f hf
          have lo : (addR (addR PR i (small k1 false) true) j (small k2 true) false).length ≤ 6 := by rw [addR_len, addR_len]; exact rl2
          generalize addR (addR PR i (small k1 false) true) j (small k2 true) false = oth at P2 P3 lo ⊢
          refine seq_cut (fun Γ1 => ∃ due1, due1 = (if k1.idx < k2.idx then faultD k1.w (some ((PR[i]'il).1, near k1 false)) else faultD k2.w (some ((PR[j]'jl).1, near k2 true))) ∧ Γ1 = [none, some .deck, some (.v kiD), some (.own u), some (.v (progD PR)), some (.v (.int k1.idx)), some (.v (.str k1.w)), some (.v (.int k2.idx)), some (.v (.str k2.w)), some (.v (small k1 false).d), some (.v (.str (near k1 false))), some (.v (small k2 true).d), some (.v (.str (near k2 true))), some (.v (.int (i : Int))), some (.v (.int (j : Int))), some (.v (progD oth)), some (.v due1), c17, c18, c19]) (fun N2 hN2 => ?_) ?_
          · walk_at "px"
            by_cases h : k1.idx < k2.idx
            · rw [decide_eq_true h]
              walk_at "px"
              refine ⟨_, hati, ?_⟩
              walk_at "px"
              exact hN2 _ ⟨_, (if_pos h).symm, rfl⟩
            · rw [decide_eq_false h]
              walk_at "px"
              refine ⟨_, hatj, ?_⟩
              walk_at "px"
              exact hN2 _ ⟨_, (if_neg h).symm, rfl⟩
          rintro _ ⟨due1, hd1, rfl⟩
          refine seq_cut (fun Γ1 => Γ1 = [none, some .deck, some (.v kiD), some (.own u), some (.v (progD PR)), some (.v (.int k1.idx)), some (.v (.str k1.w)), some (.v (.int k2.idx)), some (.v (.str k2.w)), some (.v (small k1 false).d), some (.v (.str (near k1 false))), some (.v (small k2 true).d), some (.v (.str (near k2 true))), some (.v (.int (i : Int))), some (.v (.int (j : Int))), some (.v (progD oth)), some (.v (dueT (PR[i]'il).1 (PR[j]'jl).1 k1 k2 (decide (i ≤ j)))), c17, c18, c19]) (fun N2 hN2 => ?_) ?_
          · walk_at "px"
            by_cases h : k1.idx = k2.idx
            · rw [show decide (k1.idx = k2.idx) = true from decide_eq_true h]
              walk_at "px"
              by_cases le : i ≤ j
              · rw [decide_eq_true (show (i : Int) ≤ (j : Int) by omega)]
                walk_at "px"
                refine ⟨_, hati, ?_⟩
                walk_at "px"
                refine hN2 _ ?_
                unfold dueT
                rw [if_pos h, decide_eq_true le, if_pos rfl]
                rfl
              · rw [decide_eq_false (show ¬ (i : Int) ≤ (j : Int) by omega)]
                walk_at "px"
                refine ⟨_, hatj, ?_⟩
                walk_at "px"
                refine hN2 _ ?_
                unfold dueT
                rw [if_pos h, decide_eq_false le, if_neg (by decide)]
                rfl
            · rw [show decide (k1.idx = k2.idx) = false from decide_eq_false h]
              walk_at "px"
              refine hN2 _ ?_
              unfold dueT
              rw [hd1, if_neg h]
              by_cases lt : k1.idx < k2.idx
              · rw [if_pos lt, decide_eq_true lt, if_pos rfl]
              · rw [if_neg lt, decide_eq_false lt, if_neg (by decide)]
          rintro _ rfl
          have dok := dueT_ok nmi nmj k1 k2 (decide (i ≤ j))
          generalize dueT (PR[i]'il).1 (PR[j]'jl).1 k1 k2 (decide (i ≤ j)) = due at P2 dok ⊢
          walk_at "px"
          refine ⟨P2.ok, P2.few, P2.prog, ?_⟩
          rw [P2.flt]
          walk_at "px"
          refine ⟨P2.ok, P2.few, P2.prog, ?_⟩
          rw [P2.flt]
          walk_at "px"
          obtain ⟨q1, q2, q3⟩ := ls_same (ls_two dok dok) (by decide) (by decide)
          refine ⟨q1, q2, q3, ?_⟩
          walk_at "px"
          refine ⟨_, _, rfl, .inl rfl, by rw [List.length_map]; omega, by rw [List.length_map]; omega, fun dx hdx => ?_⟩
          obtain ⟨r, hr0, rfl⟩ := List.mem_map.mp hdx
          walk_at "px"
          refine ⟨mil (by rw [List.length_map]; simp only [List.length_singleton]; omega), ?_⟩
          walk_at "px"
          have P4 := P3 r.1 (List.mem_map.mpr ⟨r, hr0, rfl⟩)
          have nmr : isName (.str r.1) = true := pk.nm r hr0
          have e4 : progD (oth ++ [(r.1, [], intE 1)]) = .tuple (oth.map rowD ++ [.tuple [.str r.1, .tuple [], .tuple [.str "int", .int 1]]]) := by unfold progD; rw [List.map_append]; rfl
          rw [← e4]
          refine ⟨_, rfl, P4.ok, P4.few, P4.prog, ?_⟩
          rw [P4.flt]
          walk_at "px"
          clear q1 q2 q3
          obtain ⟨q1, q2, q3⟩ := ls_same (twoD_ok nmr) (by decide) (by decide)
          refine ⟨q2, q3, ?_⟩
          walk_at "px"
          exact hM2 _ ⟨po2, _, _, _, _, _, _, _, _, _, _, _, _, _, rfl, rfl⟩
        · rintro Γ ⟨_, c7, c8, c9, c10, c11, c12, c13, c14, c15, c16, c17, c18, c19, _, rfl⟩
          exact hM _ ⟨po1, _, _, _, _, _, _, _, _, _, _, _, _, _, _, _, rfl, rfl⟩
      · rintro Γ ⟨_, c5, c6, c7, c8, c9, c10, c11, c12, c13, c14, c15, c16, c17, c18, c19, _, rfl⟩
        exact hN _ ⟨_, _, _, _, _, _, _, _, _, _, _, _, _, _, _, rfl⟩
    rintro _ ⟨c5, c6, c7, c8, c9, c10, c11, c12, c13, c14, c15, c16, c17, c18, c19, rfl⟩
    refine seq_cut (fun Γ1 => ∃ i : Nat, i < PR.length ∧ Γ1 = [none, some .deck, some (.v kiD), some (.own u), some (.v (progD PR)), c5, c6, c7, c8, c9, c10, c11, c12, some (.v (.int (i : Int))), c14, c15, c16, c17, some (.v (small .bra false).d), c19]) (fun N hN => ?_) ?_
    · walk_at "px"
      refine ⟨l1, l2, fun i i0 i1 => ?_⟩
      obtain ⟨i, rfl, il⟩ := drawn i0 i1
      walk_at "px"
      refine ⟨.bra, false, rfl, ?_⟩
      walk_at "px"
      exact hN _ ⟨i, il, rfl⟩
    rintro _ ⟨i, il, rfl⟩
    have hati : atI (PR.map rowD) (i : Int) = some (rowD (PR[i]'il)) := atI_nat (by rw [List.getElem?_map, List.getElem?_eq_getElem il]; rfl)
    have nmi := pk.nm _ (List.getElem_mem il)
    refine seq_cut (fun Γ1 => Γ1 = [none, some .deck, some (.v kiD), some (.own u), some (.v (progD PR)), c5, c6, c7, c8, c9, c10, c11, c12, some (.v (.int (i : Int))), c14, c15, c16, c17, some (.v (small .bra false).d), some (.v (outerE false).d)]) (fun N hN => ?_) ?_
    · walk_at "px"
      exact hN _ rfl
    rintro _ rfl
    refine seq_cut (fun Γ1 => ∃ b : Bool, Γ1 = [none, some .deck, some (.v kiD), some (.own u), some (.v (progD PR)), c5, c6, c7, c8, c9, c10, c11, c12, some (.v (.int (i : Int))), c14, c15, c16, c17, some (.v (small .bra false).d), some (.v (outerE b).d)]) (fun N hN => ?_) ?_
    · walk_at "px"
      refine ⟨by decide, by decide, fun i2 i20 i21 => ?_⟩
      walk_at "px"
      by_cases z : i2 = 0
      · rw [show decide (i2 = 0) = true from decide_eq_true z]
        walk_at "px"
        exact hN _ ⟨true, rfl⟩
      · rw [show decide (i2 = 0) = false from decide_eq_false z]
        walk_at "px"
        exact hN _ ⟨false, rfl⟩
    rintro _ ⟨b, rfl⟩
    refine seq_cut (fun Γ1 => ∃ b2 : Bool, Γ1 = [none, some .deck, some (.v kiD), some (.own u), some (.v (progD PR)), c5, c6, c7, c8, c9, c10, c11, c12, some (.v (.int (i : Int))), c14, some (.v (progD (addR PR i (outerE b) b2))), c16, c17, some (.v (small .bra false).d), some (.v (outerE b).d)]) (fun N hN => ?_) ?_
    · walk_at "px"
      refine ⟨by decide, by decide, fun i2 i20 i21 => ?_⟩
      walk_at "px"
      refine ⟨PR, i, outerE b, decide (i2 = 0), rfl, il, by omega, ?_⟩
      walk_at "px"
      exact hN _ ⟨_, rfl⟩
    rintro _ ⟨b2, rfl⟩
    have P1 := pk.out i il b b2
    have P0 := pk.non
    have dok : DueOk (faultD "branch" (some ((PR[i]'il).1, "B2"))) := ls_fault (Dh.Ls.word (n := 12) (by decide +kernel)) nmi (Dh.Ls.word (n := 12) (by decide +kernel))
    generalize addR PR i (outerE b) b2 = oth at P1 ⊢
    generalize outerE b = oe
    walk_at "px"
    refine ⟨P1.ok, P1.few, P1.prog, ?_⟩
    rw [P1.flt]
    walk_at "px"
    refine ⟨P0.ok, P0.few, P0.prog, ?_⟩
    rw [P0.flt]
    walk_at "px"
    refine ⟨_, hati, ?_⟩
    walk_at "px"
    obtain ⟨q1, q2, q3⟩ := ls_same (ls_two dok (Dh.Ls.non.more (by decide) (by decide))) (by decide) (by decide)
    refine ⟨q2, q3, ?_⟩
    walk_at "px"
    refine ⟨S, rows, by rw [hgp], D0, ?_⟩
    walk_at "px"
    exact hΦ
  obtain ⟨t, w', ⟨p, g⟩, hw⟩ := part
  refine ⟨_, pss_cons (ps_set (i := 1) sc.nd rfl (Or.inl rfl) (pe_call D_law_deck.ok (hr.mono (by decide)) (by rfl) D_law_deck.m D_law_deck.k D_law_deck.b .nil pass0 (pa_cons (pv 0) pa_nil))) p, ?_⟩
  refine ⟨_, rfl, sc_, ns, rfl, hsq, hns, fun H1 dk lf _ _ D1 K1 => ?_⟩
  have R := deck_rel (K := K) (x0 := some (.ref sc_)) (n := 18) (dk_deck D1)
  refine g ⟨K, fun b => b = dk ∨ b = lf, [dk, lf], H1, IK.ks⟩ ⟨rfl, rfl⟩ 0 noFr _ _ H1 _ { nx := fun _ => False, rt := fun r => r = .v (.bool true) } (fun _ _ => rfl) (fun _ _ _ z => by cases z) R (hw _ rfl) ⟨fun Γ σ H' z R' => z.elim, fun rr x Γ σ H' z R' => ?_, fun _ _ _ z => z.elim, fun _ _ _ z => z.elim⟩
  subst z
  have := R'.e.ok (.inl 0) _ _ ent_held
  cases this with
  | v z => cases z; exact k H'
end
end K10
end

/-! K10x -/
section
set_option Elab.async false
set_option linter.all false
set_option maxRecDepth 100000
set_option maxHeartbeats 4000000
namespace K10
open PySem PySem.Spec PyProof.Rows L2 Dh Px Pg
/-! ### what the top has left -/
structure Tp1 (K : PySem.W.Frag) (x : Str) (st : Stmt) (f : Addr) (fd : FuncData) : Prop where
  a : PySem.W.nsIn K mainGlobals x = some (some (.ref f))
  F : Fun K x x st f fd
theorem top_mk {K : PySem.W.Frag} {x : Str} {st : Stmt} {f : Addr} {oc : Value} {od an : Option Addr} {sl : Array (Option Value)} {kV dc pm cd ct : Value} (a : PySem.W.nsIn K mainGlobals x = some (some (.ref f)))
    (l : K.lookup f = some ⟨oc, od, .func (PySem.W.fnOf x x (defArgs st) (defBody st) (defScope st) .none kV dc pm an cd ct), sl⟩) (c : PySem.W.codeIn K cd x = true) (k : PySem.W.keepIn K (.ref f) = true) :
    Tp1 K x st f (PySem.W.fnOf x x (defArgs st) (defBody st) (defScope st) .none kV dc pm an cd ct) := ⟨a, fun_mk l c k⟩
def strOf : Value → Option Str
  | .str z _ => some z
  | _ => none
theorem vals_str : ∀ {its : List Value} {zs : List Str}, its.map strOf = zs.map some → Vals (zs.map V.str) its
  | [], [], _ => .nil
  | [], _ :: _, h => by cases h
  | _ :: _, [], h => by cases h
  | v :: its, z :: zs, h => by
    have h' : strOf v :: its.map strOf = some z :: zs.map some := h
    injection h' with h1 h2
    refine .cons ?_ (vals_str h2)
    unfold strOf at h1
    split at h1
    · rename_i t
      cases h1
      exact ⟨_, rfl⟩
    · cases h1
/-- a tuple of texts that was written with the module -/
structure TupC (K : PySem.W.Frag) (b : Addr) (zs : List Str) : Prop where
  t : KT K b (zs.map V.str)
theorem tup_mk {K : PySem.W.Frag} {b : Addr} {od : Option Addr} {its : Array Value} {n : Nat} {sl : Array (Option Value)} {zs : List Str} (l : K.lookup b = some ⟨.type "tuple", od, .seq its n, sl⟩) (h : its.toList.map strOf = zs.map some) (hz : zs.length ≤ 1000) : TupC K b zs := by
  have e : its.size = zs.length := by
    have := congrArg List.length h
    simpa using this
  exact ⟨_, its, n, l, rfl, rfl, by rw [e]; exact Nat.le_of_lt (small1000 hz), vals_str h⟩
theorem TupC.ac {K : PySem.W.Frag} {b : Addr} {zs : List Str} (T : TupC K b zs) (W : AS) (H : Hp) : Ac K W H (.ref b) (.tuple (zs.map PyData.str)) := .tupK T.t (AcL.ofStrs zs)
structure DicC (K : PySem.W.Frag) (w : World) (a : Addr) (es : Array DictEntry) (n : Nat) : Prop where
  l : K.lookup a = some ⟨.type "dict", none, .dict es n, #[]⟩
  k : PySem.W.KeysLit w.params es.toList
  low : (a == sysModules) = false
theorem DicC.kd {K : PySem.W.Frag} {w : World} {a : Addr} {es : Array DictEntry} {n : Nat} (D : DicC K w a es n) : KDict K w a es n := ⟨D.l, D.k, D.low⟩
theorem DicC.get {K : PySem.W.Frag} {w : World} {a : Addr} {es : Array DictEntry} {n : Nat} (D : DicC K w a es n) {x : Str} {b : Addr} (e : PySem.W.nsIn K a x = some (some (.ref b))) : KDct K w a x (.ref b) := ⟨es, n, _, D.l, D.k, e, rfl⟩
structure Row (K : PySem.W.Frag) (a : Addr) (x : Str) (zs : List Str) : Prop where
  ex : ∃ b, PySem.W.nsIn K a x = some (some (.ref b)) ∧ TupC K b zs
theorem row_mk {K : PySem.W.Frag} {a b : Addr} {x : Str} {od : Option Addr} {its : Array Value} {n : Nat} {sl : Array (Option Value)} {zs : List Str} (q : PySem.W.nsIn K a x = some (some (.ref b))) (l : K.lookup b = some ⟨.type "tuple", od, .seq its n, sl⟩) (h : its.toList.map strOf = zs.map some) (hz : zs.length ≤ 1000 := by decide) : Row K a x zs := ⟨b, q, tup_mk l h hz⟩
theorem Row.dct {K : PySem.W.Frag} {w : World} {a : Addr} {es : Array DictEntry} {n : Nat} (D : DicC K w a es n) {x : Str} {zs : List Str} (R : Row K a x zs) : ∃ v, KDct K w a x v ∧ ∀ W H, Ac K W H v (.tuple (zs.map PyData.str)) := by
  obtain ⟨b, h1, h2⟩ := R.ex
  exact ⟨_, D.get h1, h2.ac⟩
theorem tupf_mk {K : PySem.W.Frag} {b : Addr} {od : Option Addr} {its : Array Value} {n : Nat} {sl : Array (Option Value)} {fs : List Addr} (l : K.lookup b = some ⟨.type "tuple", od, .seq its n, sl⟩) (h : its.toList = fs.map Value.ref) (hz : fs.length ≤ 1000) : KT K b (fs.map V.ref) := by
  have e : its.size = fs.length := by
    have := congrArg List.length h
    simpa using this
  refine ⟨_, its, n, l, rfl, rfl, by rw [e]; exact Nat.le_of_lt (small1000 hz), ?_⟩
  rw [h]
  exact vals_refs fs
/-- a written dict's keys -/
def keyStr (e : DictEntry) : Option Str := match e.key with
  | .str z _ => some z
  | _ => none
theorem ns_out {K : PySem.W.Frag} {w : World} {a : Addr} {es : Array DictEntry} {n : Nat} {ks : List Str} (D : DicC K w a es n) (hk : es.toList.map keyStr = ks.map some) {z : Str} (hz : z ∉ ks) : PySem.W.nsIn K a z = some none := by
  have all : ∀ e ∈ es.toList, ∃ x t, e.key = .str x t ∧ x ∈ ks := fun e he => by
    have hm : keyStr e ∈ ks.map some := by rw [← hk]; exact List.mem_map.mpr ⟨e, he, rfl⟩
    obtain ⟨x, hx, q⟩ := List.mem_map.mp hm
    unfold keyStr at q
    split at q
    · rename_i y t hy
      cases q
      exact ⟨_, _, hy, hx⟩
    · cases q
  have hf : es.toList.find? (·.key.isStr z) = none := by
    rw [List.find?_eq_none]
    intro e he q
    obtain ⟨x, t, h1, h2⟩ := all e he
    rw [h1] at q
    have q : x = z := by simpa [Value.isStr] using q
    exact hz (q ▸ h2)
  have hr : es.toList.any (·.refKey) = false := by
    rw [List.any_eq_false]
    intro e he q
    obtain ⟨x, t, h1, h2⟩ := all e he
    unfold DictEntry.refKey at q
    rw [h1] at q
    cases q
  unfold PySem.W.nsIn
  rw [D.l]
  dsimp only
  rw [hf]
  dsimp only
  rw [hr]; rfl
theorem fms_mk {K : PySem.W.Frag} {w : World} {mg : Str → Option Value} {a : Addr} {es : Array DictEntry} {n : Nat} (D : DicC K w a es n) (hm : mg "FORMS" = some (.ref a)) (hk : es.toList.map keyStr = (forms.map (·.1)).map some) (R : ∀ z ss, forms.lookup z = some ss → Row K a z ss) : Fms w K mg := by
  refine ⟨a, es, n, hm, D.kd, fun z => ?_⟩
  cases e : forms.lookup z with
  | none =>
    refine ⟨none, ns_out D hk (fun hz => ?_), fun _ => rfl, fun ss h => (by cases h)⟩
    obtain ⟨q, hq, rfl⟩ := List.mem_map.mp hz
    have go : ∀ {l : List (Str × List Str)}, l.lookup q.1 = none → q ∉ l := by
      intro l
      induction l with
      | nil => intro _ h; cases h
      | cons x r ih =>
        intro h hx
        rw [List.lookup_cons] at h
        cases hb : q.1 == x.1 with
        | true => rw [hb] at h; cases h
        | false =>
          rw [hb] at h
          rcases List.mem_cons.mp hx with rfl | hx
          · rw [beq_self_eq_true] at hb; cases hb
          · exact ih h hx
    exact go e hq
  | some ss =>
    obtain ⟨b, h1, h2⟩ := (R z ss e).ex
    refine ⟨some (.ref b), h1, fun h => (by cases h), fun ss' h => ?_⟩
    cases h
    exact ⟨b, rfl, fun _ => .inr h2.t⟩
theorem tforms_mk {K : PySem.W.Frag} {w : World} {a : Addr} {es : Array DictEntry} {n : Nat} (D : DicC K w a es n) (R : ∀ z ss, forms.lookup z = some ss → Row K a z ss) : Tab K w a tForms where
  get := fun z c h => by
    unfold tForms at h
    cases e : forms.lookup z with
    | none => rw [e] at h; cases h
    | some ss =>
      rw [e] at h
      cases h
      obtain ⟨v, h1, h2⟩ := Row.dct D (R z ss e)
      exact ⟨v, h1, .inl ⟨_, rfl, h2⟩⟩
theorem askd_of {P : Program} {w : World} {K : PySem.W.Frag} {mg : Str → Option Value} {base : Heap} {x : Str} {k : Nat} {f : Addr} {fd : FuncData} {g : PyData → Bool} {s : Str} (D : Dh.Df P w K mg base x k f fd ["thing"] (spB K g)) (hk : k ≤ 5) (e : sortOk s = g) : FnR P w K mg base CX0 5 f (spB K (sortOk s)) := by
  rw [e]
  exact ((D.ok.raw D.b .nil).mono hk).imp fun vs H Q E h => by rw [List.append_nil]; exact h
theorem all_mk {l : PySem.W.OpenLaw} {w : World} {K : PySem.W.Frag} {h : Heap} {mg : Str → Option Value} {fa : Addr} (X : K.In h) (G : h.Ns mainGlobals mg) (hfa : mg "law" = some (.ref fa))
    {f48 f47 f49 f51 f52 f53 f54 f55 f56 f57 f11 f17 f18 f15 f16 f12 f13 f14 f19 f20 f21 f24 f25 f26 f31 f30 f29 f34 f37 f36 f39 f40 f33 f35 f38 f43 f27 f41 f42 f45 f50 f58 f59 f60 f61 f62 f63 f64 aRESERVED aTESTS aSIGNS aFORMS aASKED aSEARCHES : Addr} {fd48 fd47 fd49 fd51 fd52 fd53 fd54 fd55 fd56 fd57 fd11 fd17 fd18 fd15 fd16 fd12 fd13 fd14 fd19 fd20 fd21 fd24 fd25 fd26 fd31 fd30 fd29 fd34 fd37 fd36 fd39 fd40 fd33 fd35 fd38 fd43 fd27 fd41 fd42 fd45 fd50 fd58 fd59 fd60 fd61 fd62 fd63 fd64 : FuncData} {esF esA : Array DictEntry} {nF nA : Nat} {kSMALL_LETTERS kGREAT_LETTERS kDIGITS kLONGEST : Tok}
    (t48 : Tp1 K "_law_draw" (top 48) f48 fd48)
    (t47 : Tp1 K "_law_deck" (top 47) f47 fd47)
    (t49 : Tp1 K "_law_pick" (top 49) f49 fd49)
    (t51 : Tp1 K "_law_shuffled" (top 51) f51 fd51)
    (t52 : Tp1 K "_law_name" (top 52) f52 fd52)
    (t53 : Tp1 K "_law_tag" (top 53) f53 fd53)
    (t54 : Tp1 K "_law_leaf" (top 54) f54 fd54)
    (t55 : Tp1 K "_law_expression" (top 55) f55 fd55)
    (t56 : Tp1 K "_law_signs" (top 56) f56 fd56)
    (t57 : Tp1 K "_law_program" (top 57) f57 fd57)
    (t11 : Tp1 K "is_integer" (top 11) f11 fd11)
    (t17 : Tp1 K "is_tuple" (top 17) f17 fd17)
    (t18 : Tp1 K "is_anything" (top 18) f18 fd18)
    (t15 : Tp1 K "is_test" (top 15) f15 fd15)
    (t16 : Tp1 K "is_sign" (top 16) f16 fd16)
    (t12 : Tp1 K "is_word" (top 12) f12 fd12)
    (t13 : Tp1 K "is_name" (top 13) f13 fd13)
    (t14 : Tp1 K "is_tag" (top 14) f14 fd14)
    (t19 : Tp1 K "are_names" (top 19) f19 fd19)
    (t20 : Tp1 K "is_branch" (top 20) f20 fd20)
    (t21 : Tp1 K "are_branches" (top 21) f21 fd21)
    (t24 : Tp1 K "is_of_sort" (top 24) f24 fd24)
    (t25 : Tp1 K "has_form" (top 25) f25 fd25)
    (t26 : Tp1 K "inner" (top 26) f26 fd26)
    (t31 : Tp1 K "is_expression" (top 31) f31 fd31)
    (t30 : Tp1 K "is_definition" (top 30) f30 fd30)
    (t29 : Tp1 K "is_program" (top 29) f29 fd29)
    (t34 : Tp1 K "first_repeated" (top 34) f34 fd34)
    (t37 : Tp1 K "places_within" (top 37) f37 fd37)
    (t36 : Tp1 K "places" (top 36) f36 fd36)
    (t39 : Tp1 K "bound_too" (top 39) f39 fd39)
    (t40 : Tp1 K "scopes_within" (top 40) f40 fd40)
    (t33 : Tp1 K "twice_fault" (top 33) f33 fd33)
    (t35 : Tp1 K "parameter_fault" (top 35) f35 fd35)
    (t38 : Tp1 K "unbound_fault" (top 38) f38 fd38)
    (t43 : Tp1 K "branch_fault" (top 43) f43 fd43)
    (t27 : Tp1 K "parameter_counts" (top 27) f27 fd27)
    (t41 : Tp1 K "call_fault" (top 41) f41 fd41)
    (t42 : Tp1 K "tag_fault" (top 42) f42 fd42)
    (t45 : Tp1 K "fault" (top 45) f45 fd45)
    (t50 : Tp1 K "_law_same" (top 50) f50 fd50)
    (t58 : Tp1 K "_law_small" (top 58) f58 fd58)
    (t59 : Tp1 K "_law_added" (top 59) f59 fd59)
    (t60 : Tp1 K "_law_one" (top 60) f60 fd60)
    (t61 : Tp1 K "_law_branch" (top 61) f61 fd61)
    (t62 : Tp1 K "_law_nested" (top 62) f62 fd62)
    (t63 : Tp1 K "_law_are_nested" (top 63) f63 fd63)
    (t64 : Tp1 K "law" (top 64) f64 fd64)
    (qSMALL_LETTERS : PySem.W.nsIn K mainGlobals "SMALL_LETTERS" = some (some (.str "abcdefghijklmnopqrstuvwxyz" kSMALL_LETTERS)))
    (qGREAT_LETTERS : PySem.W.nsIn K mainGlobals "GREAT_LETTERS" = some (some (.str "ABCDEFGHIJKLMNOPQRSTUVWXYZ" kGREAT_LETTERS)))
    (qDIGITS : PySem.W.nsIn K mainGlobals "DIGITS" = some (some (.str "0123456789" kDIGITS)))
    (qLONGEST : PySem.W.nsIn K mainGlobals "LONGEST" = some (some (.int 12 kLONGEST)))
    (qRESERVED : PySem.W.nsIn K mainGlobals "RESERVED" = some (some (.ref aRESERVED)))
    (qTESTS : PySem.W.nsIn K mainGlobals "TESTS" = some (some (.ref aTESTS)))
    (qSIGNS : PySem.W.nsIn K mainGlobals "SIGNS" = some (some (.ref aSIGNS)))
    (qFORMS : PySem.W.nsIn K mainGlobals "FORMS" = some (some (.ref aFORMS)))
    (qASKED : PySem.W.nsIn K mainGlobals "ASKED" = some (some (.ref aASKED)))
    (qSEARCHES : PySem.W.nsIn K mainGlobals "SEARCHES" = some (some (.ref aSEARCHES)))
    (uRESERVED : TupC K aRESERVED ["def", "case", "let", "if", "delay", "force"])
    (uTESTS : TupC K aTESTS ["<", "="])
    (uSIGNS : TupC K aSIGNS ["+", "-", "*"])
    (DF : DicC K w aFORMS esF nF) (DA : DicC K w aASKED esA nA) (kF : esF.toList.map keyStr = (forms.map (·.1)).map some)
    (rf_int : Row K aFORMS "int" ["integer"])
    (rf_name : Row K aFORMS "name" ["name"])
    (rf_call : Row K aFORMS "call" ["name", "expressions"])
    (rf_make : Row K aFORMS "make" ["tag", "expressions"])
    (rf_case : Row K aFORMS "case" ["expression", "branches"])
    (rf_let : Row K aFORMS "let" ["name", "expression", "expression"])
    (rf_if : Row K aFORMS "if" ["test", "expression", "expression", "expression", "expression"])
    (rf_op : Row K aFORMS "op" ["sign", "expression", "expression"])
    (rf_delay : Row K aFORMS "delay" ["expression"])
    (rf_force : Row K aFORMS "force" ["expression"])
    (qa_integer : PySem.W.nsIn K aASKED "integer" = some (some (.ref f11)))
    (qa_name : PySem.W.nsIn K aASKED "name" = some (some (.ref f13)))
    (qa_tag : PySem.W.nsIn K aASKED "tag" = some (some (.ref f14)))
    (qa_test : PySem.W.nsIn K aASKED "test" = some (some (.ref f15)))
    (qa_sign : PySem.W.nsIn K aASKED "sign" = some (some (.ref f16)))
    (qa_expression : PySem.W.nsIn K aASKED "expression" = some (some (.ref f18)))
    (qa_expressions : PySem.W.nsIn K aASKED "expressions" = some (some (.ref f17)))
    (qa_branches : PySem.W.nsIn K aASKED "branches" = some (some (.ref f21)))
    (uSE : KT K aSEARCHES ([f33, f35, f38, f41, f42, f43].map V.ref))
    (z_isinstance : PySem.W.nsIn K mainGlobals "isinstance" = some none)
    (z_int : PySem.W.nsIn K mainGlobals "int" = some none)
    (z_bool : PySem.W.nsIn K mainGlobals "bool" = some none)
    (z_str : PySem.W.nsIn K mainGlobals "str" = some none)
    (z_tuple : PySem.W.nsIn K mainGlobals "tuple" = some none)
    (z_len : PySem.W.nsIn K mainGlobals "len" = some none)
    (z_list : PySem.W.nsIn K mainGlobals "list" = some none)
    (z_dict : PySem.W.nsIn K mainGlobals "dict" = some none)
    (z_set : PySem.W.nsIn K mainGlobals "set" = some none)
    (z_all : PySem.W.nsIn K mainGlobals "all" = some none)
    (z_any : PySem.W.nsIn K mainGlobals "any" = some none)
    (z_zip : PySem.W.nsIn K mainGlobals "zip" = some none)
    (z_range : PySem.W.nsIn K mainGlobals "range" = some none)
    (z_sorted : PySem.W.nsIn K mainGlobals "sorted" = some none)
    (z_repr : PySem.W.nsIn K mainGlobals "repr" = some none)
    (z_enumerate : PySem.W.nsIn K mainGlobals "enumerate" = some none)
    (z_min : PySem.W.nsIn K mainGlobals "min" = some none)
    (z_max : PySem.W.nsIn K mainGlobals "max" = some none)
    : ∃ fd : FuncData, (∀ (s : Shared) (u : Value), BindsTo s fd ⟨[u], []⟩ [("script", u)]) ∧ ∀ base : Heap, K.In base → base.Ns mainGlobals mg → FnG l.prog w K mg base CX0 13 fa fd ["script"] (spLaw K) := by
  have e := hfa.symm.trans (PySem.W.mg_of X G t64.a)
  cases e
  have TH : Dh.Blt mg := ⟨PySem.W.mg_none_of X G z_int, PySem.W.mg_none_of X G z_len, PySem.W.mg_none_of X G z_max, PySem.W.mg_none_of X G z_list, PySem.W.mg_none_of X G z_range, PySem.W.mg_none_of X G z_str, PySem.W.mg_none_of X G z_tuple⟩
  have TF : BltF mg := ⟨PySem.W.mg_none_of X G z_isinstance, PySem.W.mg_none_of X G z_all, PySem.W.mg_none_of X G z_bool, PySem.W.mg_none_of X G z_zip⟩
  have TK : K10.Blt mg := ⟨PySem.W.mg_none_of X G z_isinstance, PySem.W.mg_none_of X G z_int, PySem.W.mg_none_of X G z_bool, PySem.W.mg_none_of X G z_str, PySem.W.mg_none_of X G z_tuple, PySem.W.mg_none_of X G z_len, PySem.W.mg_none_of X G z_list, PySem.W.mg_none_of X G z_dict, PySem.W.mg_none_of X G z_set, PySem.W.mg_none_of X G z_all, PySem.W.mg_none_of X G z_any, PySem.W.mg_none_of X G z_zip, PySem.W.mg_none_of X G z_range, PySem.W.mg_none_of X G z_sorted, PySem.W.mg_none_of X G z_repr, PySem.W.mg_none_of X G z_enumerate, PySem.W.mg_none_of X G z_min, PySem.W.mg_none_of X G z_max⟩
  have CC : Dh.Cst K mg := ⟨⟨_, PySem.W.mg_of X G qSMALL_LETTERS⟩, ⟨_, PySem.W.mg_of X G qGREAT_LETTERS⟩, ⟨_, PySem.W.mg_of X G qDIGITS⟩, ⟨_, PySem.W.mg_of X G qLONGEST⟩, ⟨_, PySem.W.mg_of X G qRESERVED, fun _ => .inr uRESERVED.t⟩, ⟨_, PySem.W.mg_of X G qTESTS, fun _ => .inr uTESTS.t⟩, ⟨_, PySem.W.mg_of X G qSIGNS, fun _ => .inr uSIGNS.t⟩⟩
  have b48 := t48.F.binds (ps := ["deck", "many"]) fun _ _ _ _ _ _ us hl => match us, hl with | [_, _], _ => rfl
  have m48 := PySem.W.mg_of X G t48.a
  have b47 := t47.F.binds (ps := ["script"]) fun _ _ _ _ _ _ us hl => match us, hl with | [_], _ => rfl
  have m47 := PySem.W.mg_of X G t47.a
  have b49 := t49.F.binds (ps := ["deck", "some"]) fun _ _ _ _ _ _ us hl => match us, hl with | [_, _], _ => rfl
  have m49 := PySem.W.mg_of X G t49.a
  have b51 := t51.F.binds (ps := ["deck", "some"]) fun _ _ _ _ _ _ us hl => match us, hl with | [_, _], _ => rfl
  have m51 := PySem.W.mg_of X G t51.a
  have b52 := t52.F.binds (ps := ["deck", "used"]) fun _ _ _ _ _ _ us hl => match us, hl with | [_, _], _ => rfl
  have m52 := PySem.W.mg_of X G t52.a
  have b53 := t53.F.binds (ps := ["deck", "used"]) fun _ _ _ _ _ _ us hl => match us, hl with | [_, _], _ => rfl
  have m53 := PySem.W.mg_of X G t53.a
  have b54 := t54.F.binds (ps := ["deck", "scope"]) fun _ _ _ _ _ _ us hl => match us, hl with | [_, _], _ => rfl
  have m54 := PySem.W.mg_of X G t54.a
  have b55 := t55.F.binds (ps := ["deck", "signs", "scope", "deep"]) fun _ _ _ _ _ _ us hl => match us, hl with | [_, _, _, _], _ => rfl
  have m55 := PySem.W.mg_of X G t55.a
  have b56 := t56.F.binds (ps := ["deck", "used", "tagged"]) fun _ _ _ _ _ _ us hl => match us, hl with | [_, _, _], _ => rfl
  have m56 := PySem.W.mg_of X G t56.a
  have b57 := t57.F.binds (ps := ["deck", "used", "tagged", "fuel"]) fun _ _ _ _ _ _ us hl => match us, hl with | [_, _, _, _], _ => rfl
  have m57 := PySem.W.mg_of X G t57.a
  have b11 := t11.F.binds (ps := ["thing"]) fun _ _ _ _ _ _ us hl => match us, hl with | [_], _ => rfl
  have m11 := PySem.W.mg_of X G t11.a
  have b17 := t17.F.binds (ps := ["thing"]) fun _ _ _ _ _ _ us hl => match us, hl with | [_], _ => rfl
  have m17 := PySem.W.mg_of X G t17.a
  have b18 := t18.F.binds (ps := ["thing"]) fun _ _ _ _ _ _ us hl => match us, hl with | [_], _ => rfl
  have m18 := PySem.W.mg_of X G t18.a
  have b15 := t15.F.binds (ps := ["thing"]) fun _ _ _ _ _ _ us hl => match us, hl with | [_], _ => rfl
  have m15 := PySem.W.mg_of X G t15.a
  have b16 := t16.F.binds (ps := ["thing"]) fun _ _ _ _ _ _ us hl => match us, hl with | [_], _ => rfl
  have m16 := PySem.W.mg_of X G t16.a
  have b12 := t12.F.binds (ps := ["thing", "first", "others"]) fun _ _ _ _ _ _ us hl => match us, hl with | [_, _, _], _ => rfl
  have m12 := PySem.W.mg_of X G t12.a
  have b13 := t13.F.binds (ps := ["thing"]) fun _ _ _ _ _ _ us hl => match us, hl with | [_], _ => rfl
  have m13 := PySem.W.mg_of X G t13.a
  have b14 := t14.F.binds (ps := ["thing"]) fun _ _ _ _ _ _ us hl => match us, hl with | [_], _ => rfl
  have m14 := PySem.W.mg_of X G t14.a
  have b19 := t19.F.binds (ps := ["thing"]) fun _ _ _ _ _ _ us hl => match us, hl with | [_], _ => rfl
  have m19 := PySem.W.mg_of X G t19.a
  have b20 := t20.F.binds (ps := ["thing"]) fun _ _ _ _ _ _ us hl => match us, hl with | [_], _ => rfl
  have m20 := PySem.W.mg_of X G t20.a
  have b21 := t21.F.binds (ps := ["thing"]) fun _ _ _ _ _ _ us hl => match us, hl with | [_], _ => rfl
  have m21 := PySem.W.mg_of X G t21.a
  have b24 := t24.F.binds (ps := ["part", "sort"]) fun _ _ _ _ _ _ us hl => match us, hl with | [_, _], _ => rfl
  have m24 := PySem.W.mg_of X G t24.a
  have b25 := t25.F.binds (ps := ["thing"]) fun _ _ _ _ _ _ us hl => match us, hl with | [_], _ => rfl
  have m25 := PySem.W.mg_of X G t25.a
  have b26 := t26.F.binds (ps := ["thing"]) fun _ _ _ _ _ _ us hl => match us, hl with | [_], _ => rfl
  have m26 := PySem.W.mg_of X G t26.a
  have b31 := t31.F.binds (ps := ["thing"]) fun _ _ _ _ _ _ us hl => match us, hl with | [_], _ => rfl
  have m31 := PySem.W.mg_of X G t31.a
  have b30 := t30.F.binds (ps := ["thing"]) fun _ _ _ _ _ _ us hl => match us, hl with | [_], _ => rfl
  have m30 := PySem.W.mg_of X G t30.a
  have b29 := t29.F.binds (ps := ["thing"]) fun _ _ _ _ _ _ us hl => match us, hl with | [_], _ => rfl
  have m29 := PySem.W.mg_of X G t29.a
  have b34 := t34.F.binds (ps := ["words"]) fun _ _ _ _ _ _ us hl => match us, hl with | [_], _ => rfl
  have m34 := PySem.W.mg_of X G t34.a
  have b37 := t37.F.binds (ps := ["word", "thing"]) fun _ _ _ _ _ _ us hl => match us, hl with | [_, _], _ => rfl
  have m37 := PySem.W.mg_of X G t37.a
  have b36 := t36.F.binds (ps := ["body"]) fun _ _ _ _ _ _ us hl => match us, hl with | [_], _ => rfl
  have m36 := PySem.W.mg_of X G t36.a
  have b39 := t39.F.binds (ps := ["bound", "names"]) fun _ _ _ _ _ _ us hl => match us, hl with | [_, _], _ => rfl
  have m39 := PySem.W.mg_of X G t39.a
  have b40 := t40.F.binds (ps := ["expression", "bound"]) fun _ _ _ _ _ _ us hl => match us, hl with | [_, _], _ => rfl
  have m40 := PySem.W.mg_of X G t40.a
  have b33 := t33.F.binds (ps := ["program"]) fun _ _ _ _ _ _ us hl => match us, hl with | [_], _ => rfl
  have m33 := PySem.W.mg_of X G t33.a
  have b35 := t35.F.binds (ps := ["program"]) fun _ _ _ _ _ _ us hl => match us, hl with | [_], _ => rfl
  have m35 := PySem.W.mg_of X G t35.a
  have b38 := t38.F.binds (ps := ["program"]) fun _ _ _ _ _ _ us hl => match us, hl with | [_], _ => rfl
  have m38 := PySem.W.mg_of X G t38.a
  have b43 := t43.F.binds (ps := ["program"]) fun _ _ _ _ _ _ us hl => match us, hl with | [_], _ => rfl
  have m43 := PySem.W.mg_of X G t43.a
  have b27 := t27.F.binds (ps := ["program"]) fun _ _ _ _ _ _ us hl => match us, hl with | [_], _ => rfl
  have m27 := PySem.W.mg_of X G t27.a
  have b41 := t41.F.binds (ps := ["program"]) fun _ _ _ _ _ _ us hl => match us, hl with | [_], _ => rfl
  have m41 := PySem.W.mg_of X G t41.a
  have b42 := t42.F.binds (ps := ["program"]) fun _ _ _ _ _ _ us hl => match us, hl with | [_], _ => rfl
  have m42 := PySem.W.mg_of X G t42.a
  have b45 := t45.F.binds (ps := ["program"]) fun _ _ _ _ _ _ us hl => match us, hl with | [_], _ => rfl
  have m45 := PySem.W.mg_of X G t45.a
  have b50 := t50.F.binds (ps := ["told", "due"]) fun _ _ _ _ _ _ us hl => match us, hl with | [_, _], _ => rfl
  have m50 := PySem.W.mg_of X G t50.a
  have b58 := t58.F.binds (ps := ["kind", "mark"]) fun _ _ _ _ _ _ us hl => match us, hl with | [_, _], _ => rfl
  have m58 := PySem.W.mg_of X G t58.a
  have b59 := t59.F.binds (ps := ["program", "at", "e", "is_first"]) fun _ _ _ _ _ _ us hl => match us, hl with | [_, _, _, _], _ => rfl
  have m59 := PySem.W.mg_of X G t59.a
  have b60 := t60.F.binds (ps := ["kind", "mark", "e"]) fun _ _ _ _ _ _ us hl => match us, hl with | [_, _, _], _ => rfl
  have m60 := PySem.W.mg_of X G t60.a
  have b61 := t61.F.binds (ps := ["kind", "mark", "e"]) fun _ _ _ _ _ _ us hl => match us, hl with | [_, _, _], _ => rfl
  have m61 := PySem.W.mg_of X G t61.a
  have b62 := t62.F.binds (ps := ["kind"]) fun _ _ _ _ _ _ us hl => match us, hl with | [_], _ => rfl
  have m62 := PySem.W.mg_of X G t62.a
  have b63 := t63.F.binds (ps := ["deck", "program"]) fun _ _ _ _ _ _ us hl => match us, hl with | [_, _], _ => rfl
  have m63 := PySem.W.mg_of X G t63.a
  have RF : ∀ z ss, forms.lookup z = some ss → Row K aFORMS z ss := fun z ss h => by
    have h := forms_get h
    simp only [forms, List.mem_cons, Prod.mk.injEq, List.not_mem_nil, or_false] at h
    rcases h with ⟨rfl, rfl⟩ | ⟨rfl, rfl⟩ | ⟨rfl, rfl⟩ | ⟨rfl, rfl⟩ | ⟨rfl, rfl⟩ | ⟨rfl, rfl⟩ | ⟨rfl, rfl⟩ | ⟨rfl, rfl⟩ | ⟨rfl, rfl⟩ | ⟨rfl, rfl⟩
    · exact rf_int
    · exact rf_name
    · exact rf_call
    · exact rf_make
    · exact rf_case
    · exact rf_let
    · exact rf_if
    · exact rf_op
    · exact rf_delay
    · exact rf_force
  have FM : Fms w K mg := fms_mk DF (PySem.W.mg_of X G qFORMS) kF RF
  have tF : TabC K w mg "FORMS" aFORMS tForms := ⟨PySem.W.mg_of X G qFORMS, tforms_mk DF RF⟩
  have KW_fault : BindsKw K fd45 ["program"] ["program"] [0] := fun s us hl _ => match us, hl with
    | [_], _ => by
      obtain ⟨_, _, _, _, _, _, _, _, _, rfl, _⟩ := t45.F.ex
      exact .of_eq rfl
  refine ⟨fd64, fun s v => ?_, fun base _ _ => ?_⟩
  · obtain ⟨_, _, _, _, _, _, _, _, _, rfl, _⟩ := t64.F.ex
    exact .of_eq rfl
  have H__law_deck := (⟨Dh.okDeck t47.F TH, m47, t47.F.kp, b47⟩ : Dh.Df l.prog w K mg base "_law_deck" 1 f47 fd47 ["script"] (spDeck K))
  have H__law_draw := (⟨Dh.okDraw t48.F TH, m48, t48.F.kp, b48⟩ : Dh.Df l.prog w K mg base "_law_draw" 1 f48 fd48 ["deck", "many"] spDraw)
  have D__law_draw := (⟨draw_D H__law_draw.ok, m48, t48.F.kp, b48⟩ : DfD l.prog w K mg base "_law_draw" 1 f48 fd48 ["deck", "many"] fDraw)
  have D__law_pick := (⟨ok_lawPick t49.F TK D__law_draw, m49, t49.F.kp, b49⟩ : DfD l.prog w K mg base "_law_pick" 2 f49 fd49 ["deck", "some"] fPick)
  have D__law_same := (⟨ok_lawSame t50.F TK, m50, t50.F.kp, b50⟩ : DfD l.prog w K mg base "_law_same" 1 f50 fd50 ["told", "due"] fSame)
  have H__law_pick := (⟨Dh.okPick t49.F TH H__law_draw, m49, t49.F.kp, b49⟩ : Dh.Df l.prog w K mg base "_law_pick" 2 f49 fd49 ["deck", "some"] (spPick K))
  have H__law_name := (⟨Dh.okName t52.F TH H__law_draw H__law_pick, m52, t52.F.kp, b52⟩ : Dh.Df l.prog w K mg base "_law_name" 3 f52 fd52 ["deck", "used"] spName)
  have H__law_tag := (⟨Dh.okTag t53.F TH H__law_pick, m53, t53.F.kp, b53⟩ : Dh.Df l.prog w K mg base "_law_tag" 3 f53 fd53 ["deck", "used"] spTag)
  have H__law_signs := (⟨Dh.okSigns t56.F TH H__law_draw H__law_pick H__law_name H__law_tag, m56, t56.F.kp, b56⟩ : Dh.Df l.prog w K mg base "_law_signs" 4 f56 fd56 ["deck", "used", "tagged"] spSigns)
  have H__law_shuffled := (⟨Dh.okShuf t51.F TH H__law_draw, m51, t51.F.kp, b51⟩ : Dh.Df l.prog w K mg base "_law_shuffled" 2 f51 fd51 ["deck", "some"] (spShuf K))
  have H__law_leaf := (⟨Dh.okLeaf t54.F TH H__law_draw H__law_pick, m54, t54.F.kp, b54⟩ : Dh.Df l.prog w K mg base "_law_leaf" 3 f54 fd54 ["deck", "scope"] (spLeaf K))
  have H__law_expression := (⟨okExpr t55.F m55 t55.F.kp b55 TH H__law_draw H__law_pick H__law_leaf H__law_shuffled 7, m55, t55.F.kp, b55⟩ : Dh.Df l.prog w K mg base "_law_expression" 11 f55 fd55 ["deck", "signs", "scope", "deep"] (spLt 7))
  have H__law_program := (⟨Dh.okProg t57.F TH H__law_signs H__law_pick H__law_shuffled H__law_expression, m57, t57.F.kp, b57⟩ : Dh.Df l.prog w K mg base "_law_program" 12 f57 fd57 ["deck", "used", "tagged", "fuel"] spProg)
  have D__law_small := (⟨ok_lawSmall t58.F TK, m58, t58.F.kp, b58⟩ : DfD l.prog w K mg base "_law_small" 1 f58 fd58 ["kind", "mark"] fSmall)
  have D__law_added := (⟨ok_lawAdded t59.F TK, m59, t59.F.kp, b59⟩ : DfD l.prog w K mg base "_law_added" 1 f59 fd59 ["program", "at", "e", "is_first"] fAdded)
  have D__law_one := (⟨ok_lawOne t60.F TK, m60, t60.F.kp, b60⟩ : DfD l.prog w K mg base "_law_one" 1 f60 fd60 ["kind", "mark", "e"] fOne)
  have D__law_branch := (⟨ok_lawBranch t61.F TK, m61, t61.F.kp, b61⟩ : DfD l.prog w K mg base "_law_branch" 1 f61 fd61 ["kind", "mark", "e"] fBranchK)
  have D__law_nested := (⟨ok_lawNested t62.F TK D__law_one D__law_branch, m62, t62.F.kp, b62⟩ : DfD l.prog w K mg base "_law_nested" 2 f62 fd62 ["kind"] fNested)
  have H_is_word := (⟨Dh.okWord t12.F TH TF CC, m12, t12.F.kp, b12⟩ : Dh.Df l.prog w K mg base "is_word" 1 f12 fd12 ["thing", "first", "others"] (spWord K))
  have H_is_name := (⟨Dh.okIsName t13.F CC H_is_word, m13, t13.F.kp, b13⟩ : Dh.Df l.prog w K mg base "is_name" 2 f13 fd13 ["thing"] (spB K isName))
  have H_are_names := (⟨Dh.okNames t19.F TH TF H_is_name, m19, t19.F.kp, b19⟩ : Dh.Df l.prog w K mg base "are_names" 3 f19 fd19 ["thing"] (spB K areNames))
  have H_is_integer := (⟨Dh.okInteger t11.F TH TF, m11, t11.F.kp, b11⟩ : Dh.Df l.prog w K mg base "is_integer" 1 f11 fd11 ["thing"] (spB K isInteger))
  have H_is_tag := (⟨Dh.okIsTag t14.F CC H_is_word, m14, t14.F.kp, b14⟩ : Dh.Df l.prog w K mg base "is_tag" 2 f14 fd14 ["thing"] (spB K isTag))
  have H_is_test := (⟨Dh.okTest t15.F TH TF CC, m15, t15.F.kp, b15⟩ : Dh.Df l.prog w K mg base "is_test" 1 f15 fd15 ["thing"] (spB K isTest))
  have H_is_sign := (⟨Dh.okSign t16.F TH TF CC, m16, t16.F.kp, b16⟩ : Dh.Df l.prog w K mg base "is_sign" 1 f16 fd16 ["thing"] (spB K isSign))
  have H_is_anything := (⟨Dh.okAny t18.F , m18, t18.F.kp, b18⟩ : Dh.Df l.prog w K mg base "is_anything" 1 f18 fd18 ["thing"] (spB K fun _ => true))
  have H_is_tuple := (⟨Dh.okTuple t17.F TH TF, m17, t17.F.kp, b17⟩ : Dh.Df l.prog w K mg base "is_tuple" 1 f17 fd17 ["thing"] (spB K isTup))
  have H_is_branch := (⟨Dh.okBranch t20.F TH TF H_is_tag H_are_names, m20, t20.F.kp, b20⟩ : Dh.Df l.prog w K mg base "is_branch" 4 f20 fd20 ["thing"] (spB K isBranch))
  have H_are_branches := (⟨Dh.okBranches t21.F TH TF H_is_branch, m21, t21.F.kp, b21⟩ : Dh.Df l.prog w K mg base "are_branches" 5 f21 fd21 ["thing"] (spB K areBranches))
  have AA : Askd l.prog w K mg base := ⟨aASKED, PySem.W.mg_of X G qASKED, fun s hs => by
    simp only [sorts, List.mem_cons, List.not_mem_nil, or_false] at hs
    rcases hs with rfl | rfl | rfl | rfl | rfl | rfl | rfl | rfl
    · exact ⟨_, DA.get qa_integer, t11.F.kp, askd_of H_is_integer (by decide) so_integer⟩
    · exact ⟨_, DA.get qa_name, t13.F.kp, askd_of H_is_name (by decide) so_name⟩
    · exact ⟨_, DA.get qa_tag, t14.F.kp, askd_of H_is_tag (by decide) so_tag⟩
    · exact ⟨_, DA.get qa_test, t15.F.kp, askd_of H_is_test (by decide) so_test⟩
    · exact ⟨_, DA.get qa_sign, t16.F.kp, askd_of H_is_sign (by decide) so_sign⟩
    · exact ⟨_, DA.get qa_expression, t18.F.kp, askd_of H_is_anything (by decide) (funext so_expr)⟩
    · exact ⟨_, DA.get qa_expressions, t17.F.kp, askd_of H_is_tuple (by decide) so_exprs⟩
    · exact ⟨_, DA.get qa_branches, t21.F.kp, askd_of H_are_branches (by decide) so_brs⟩
    ⟩
  have H_is_of_sort := (⟨Dh.okOfSort t24.F AA, m24, t24.F.kp, b24⟩ : Dh.Df l.prog w K mg base "is_of_sort" 6 f24 fd24 ["part", "sort"] (spSort K))
  have H_has_form := (⟨Dh.okHasForm t25.F TH TF FM H_is_of_sort, m25, t25.F.kp, b25⟩ : Dh.Df l.prog w K mg base "has_form" 7 f25 fd25 ["thing"] (spB K hasForm))
  have H_inner := (⟨Dh.okInner t26.F TF FM, m26, t26.F.kp, b26⟩ : Dh.Df l.prog w K mg base "inner" 1 f26 fd26 ["thing"] (spInner K))
  have H_is_expression := (⟨Dh.okIsExpr t31.F H_has_form H_inner, m31, t31.F.kp, b31⟩ : Dh.Df l.prog w K mg base "is_expression" 8 f31 fd31 ["thing"] (spB K isExpr))
  have H_is_definition := (⟨Dh.okIsDef t30.F TH TF H_is_name H_are_names H_is_expression, m30, t30.F.kp, b30⟩ : Dh.Df l.prog w K mg base "is_definition" 9 f30 fd30 ["thing"] (spB K isDef))
  have H_is_program := (⟨Dh.okIsProg t29.F TH TF H_is_definition, m29, t29.F.kp, b29⟩ : Dh.Df l.prog w K mg base "is_program" 10 f29 fd29 ["thing"] (spB K isProg))
  have D_is_program := (⟨toD H_is_program.ok, m29, t29.F.kp, b29⟩ : DfD l.prog w K mg base "is_program" 10 f29 fd29 ["thing"] (fB isProg))
  have D_first_repeated := (⟨okFirst t34.F TK, m34, t34.F.kp, b34⟩ : DfD l.prog w K mg base "first_repeated" 1 f34 fd34 ["words"] fFirst)
  have D_twice_fault := (⟨ok_twiceFault t33.F TK D_first_repeated, m33, t33.F.kp, b33⟩ : DfD l.prog w K mg base "twice_fault" 2 f33 fd33 ["program"] fTwice)
  have D_inner := (⟨ok_inner t26.F TK tF, m26, t26.F.kp, b26⟩ : DfD l.prog w K mg base "inner" 1 f26 fd26 ["thing"] fInner)
  have D_places_within := (⟨ok_placesWithin t37.F TK D_inner, m37, t37.F.kp, b37⟩ : DfD l.prog w K mg base "places_within" 2 f37 fd37 ["word", "thing"] fWithin)
  have D_places := (⟨ok_places t36.F TK D_places_within, m36, t36.F.kp, b36⟩ : DfD l.prog w K mg base "places" 3 f36 fd36 ["body"] fPlaces)
  have D_parameter_fault := (⟨ok_parameterFault t35.F TK D_first_repeated D_places, m35, t35.F.kp, b35⟩ : DfD l.prog w K mg base "parameter_fault" 4 f35 fd35 ["program"] fParam)
  have D_bound_too := (⟨ok_boundToo t39.F TK, m39, t39.F.kp, b39⟩ : DfD l.prog w K mg base "bound_too" 1 f39 fd39 ["bound", "names"] fBoundToo)
  have D_scopes_within := (⟨ok_scopesWithin t40.F TK D_inner D_bound_too, m40, t40.F.kp, b40⟩ : DfD l.prog w K mg base "scopes_within" 2 f40 fd40 ["expression", "bound"] fScopes)
  have D_unbound_fault := (⟨ok_unboundFault t38.F TK D_bound_too D_scopes_within, m38, t38.F.kp, b38⟩ : DfD l.prog w K mg base "unbound_fault" 3 f38 fd38 ["program"] fUnbound)
  have D_parameter_counts := (⟨ok_parameterCounts t27.F TK, m27, t27.F.kp, b27⟩ : DfD l.prog w K mg base "parameter_counts" 1 f27 fd27 ["program"] fCounts)
  have D_call_fault := (⟨ok_callFault t41.F TK D_parameter_counts D_places, m41, t41.F.kp, b41⟩ : DfD l.prog w K mg base "call_fault" 4 f41 fd41 ["program"] fCall)
  have D_tag_fault := (⟨ok_tagFault t42.F TK D_places, m42, t42.F.kp, b42⟩ : DfD l.prog w K mg base "tag_fault" 4 f42 fd42 ["program"] fTag)
  have D_branch_fault := (⟨ok_branchFault t43.F TK D_places D_first_repeated, m43, t43.F.kp, b43⟩ : DfD l.prog w K mg base "branch_fault" 4 f43 fd43 ["program"] fBranch)
  have HS : SrchOk l.prog w K mg base aSEARCHES [(f33, fd33, gTwice), (f35, fd35, gParam), (f38, fd38, gUnb), (f41, fd41, gCall), (f42, fd42, gTag), (f43, fd43, gBranch)] := by
    refine ⟨PySem.W.mg_of X G qSEARCHES, uSE, fun p hp => ?_, fun p hp => ?_, fun p hp => ?_, rfl⟩
    · simp only [List.mem_cons, List.not_mem_nil, or_false] at hp
      rcases hp with rfl | rfl | rfl | rfl | rfl | rfl
      · exact Px.FnG.up D_twice_fault.ok (by decide)
      · exact Px.FnG.up D_parameter_fault.ok (by decide)
      · exact Px.FnG.up D_unbound_fault.ok (by decide)
      · exact Px.FnG.up D_call_fault.ok (by decide)
      · exact Px.FnG.up D_tag_fault.ok (by decide)
      · exact Px.FnG.up D_branch_fault.ok (by decide)
    · simp only [List.mem_cons, List.not_mem_nil, or_false] at hp
      rcases hp with rfl | rfl | rfl | rfl | rfl | rfl
      · exact t33.F.kp
      · exact t35.F.kp
      · exact t38.F.kp
      · exact t41.F.kp
      · exact t42.F.kp
      · exact t43.F.kp
    · simp only [List.mem_cons, List.not_mem_nil, or_false] at hp
      rcases hp with rfl | rfl | rfl | rfl | rfl | rfl
      · exact b33
      · exact b35
      · exact b38
      · exact b41
      · exact b42
      · exact b43
  have D_fault := (⟨ok_fault t45.F TK D_is_program HS, m45, t45.F.kp, b45⟩ : DfD l.prog w K mg base "fault" 11 f45 fd45 ["program"] fFault)
  have D__law_are_nested := (⟨ok_lawAreNested t63.F TK D__law_draw D__law_added D__law_same D__law_nested D_fault KW_fault D__law_small, m63, t63.F.kp, b63⟩ : DfD l.prog w K mg base "_law_are_nested" 12 f63 fd63 ["deck", "program"] fAre)
  exact okLaw t64.F TK H__law_deck D__law_draw D__law_pick D__law_same H__law_program D__law_small D__law_added D__law_are_nested D_fault KW_fault
end K10
end

/-! K10F -/
open PySem PySem.W PyProof.Rows
set_option Elab.async false
set_option linter.all false
set_option maxRecDepth 100000 in
set_option maxHeartbeats 0 in
theorem PySem.Challenge.cw_debtsheld_k10_two_faults_at_once_holds : PySem.Challenge.rw_debtsheld_k10_two_faults_at_once.Holds := by
  w_on; o_law; k_head; (case hw => w_witness2)
  k_fill
  refine Dh.walkG (n := 63) (k := 13) (x := "script") (sp := K10.spLaw) rfl (by decide) rfl ⟨rfl, by decide, by decide⟩ (fun w h Y => PySem.W.kIn_of Y) ?F (fun _ _ a ns hl hS => ⟨a, ns, rfl, hS, hl, fun _ => rfl⟩)
  case F =>
    intro w mg fa h KX G hmg
    refine' K10.all_mk KX G hmg (K10.top_mk ?a48 ?l48 ?c48 ?k48) (K10.top_mk ?a47 ?l47 ?c47 ?k47) (K10.top_mk ?a49 ?l49 ?c49 ?k49) (K10.top_mk ?a51 ?l51 ?c51 ?k51) (K10.top_mk ?a52 ?l52 ?c52 ?k52) (K10.top_mk ?a53 ?l53 ?c53 ?k53) (K10.top_mk ?a54 ?l54 ?c54 ?k54) (K10.top_mk ?a55 ?l55 ?c55 ?k55) (K10.top_mk ?a56 ?l56 ?c56 ?k56) (K10.top_mk ?a57 ?l57 ?c57 ?k57) (K10.top_mk ?a11 ?l11 ?c11 ?k11) (K10.top_mk ?a17 ?l17 ?c17 ?k17) (K10.top_mk ?a18 ?l18 ?c18 ?k18) (K10.top_mk ?a15 ?l15 ?c15 ?k15) (K10.top_mk ?a16 ?l16 ?c16 ?k16) (K10.top_mk ?a12 ?l12 ?c12 ?k12) (K10.top_mk ?a13 ?l13 ?c13 ?k13) (K10.top_mk ?a14 ?l14 ?c14 ?k14) (K10.top_mk ?a19 ?l19 ?c19 ?k19) (K10.top_mk ?a20 ?l20 ?c20 ?k20) (K10.top_mk ?a21 ?l21 ?c21 ?k21) (K10.top_mk ?a24 ?l24 ?c24 ?k24) (K10.top_mk ?a25 ?l25 ?c25 ?k25) (K10.top_mk ?a26 ?l26 ?c26 ?k26) (K10.top_mk ?a31 ?l31 ?c31 ?k31) (K10.top_mk ?a30 ?l30 ?c30 ?k30) (K10.top_mk ?a29 ?l29 ?c29 ?k29) (K10.top_mk ?a34 ?l34 ?c34 ?k34) (K10.top_mk ?a37 ?l37 ?c37 ?k37) (K10.top_mk ?a36 ?l36 ?c36 ?k36) (K10.top_mk ?a39 ?l39 ?c39 ?k39) (K10.top_mk ?a40 ?l40 ?c40 ?k40) (K10.top_mk ?a33 ?l33 ?c33 ?k33) (K10.top_mk ?a35 ?l35 ?c35 ?k35) (K10.top_mk ?a38 ?l38 ?c38 ?k38) (K10.top_mk ?a43 ?l43 ?c43 ?k43) (K10.top_mk ?a27 ?l27 ?c27 ?k27) (K10.top_mk ?a41 ?l41 ?c41 ?k41) (K10.top_mk ?a42 ?l42 ?c42 ?k42) (K10.top_mk ?a45 ?l45 ?c45 ?k45) (K10.top_mk ?a50 ?l50 ?c50 ?k50) (K10.top_mk ?a58 ?l58 ?c58 ?k58) (K10.top_mk ?a59 ?l59 ?c59 ?k59) (K10.top_mk ?a60 ?l60 ?c60 ?k60) (K10.top_mk ?a61 ?l61 ?c61 ?k61) (K10.top_mk ?a62 ?l62 ?c62 ?k62) (K10.top_mk ?a63 ?l63 ?c63 ?k63) (K10.top_mk ?a64 ?l64 ?c64 ?k64) ?qSMALL_LETTERS ?qGREAT_LETTERS ?qDIGITS ?qLONGEST ?qRESERVED ?qTESTS ?qSIGNS ?qFORMS ?qASKED ?qSEARCHES (K10.tup_mk ?tlRESERVED ?thRESERVED ?tzRESERVED) (K10.tup_mk ?tlTESTS ?thTESTS ?tzTESTS) (K10.tup_mk ?tlSIGNS ?thSIGNS ?tzSIGNS) ⟨?dlF, ?dkF, ?dwF⟩ ⟨?dlA, ?dkA, ?dwA⟩ ?kF (K10.row_mk ?rq_int ?rl_int ?rh_int) (K10.row_mk ?rq_name ?rl_name ?rh_name) (K10.row_mk ?rq_call ?rl_call ?rh_call) (K10.row_mk ?rq_make ?rl_make ?rh_make) (K10.row_mk ?rq_case ?rl_case ?rh_case) (K10.row_mk ?rq_let ?rl_let ?rh_let) (K10.row_mk ?rq_if ?rl_if ?rh_if) (K10.row_mk ?rq_op ?rl_op ?rh_op) (K10.row_mk ?rq_delay ?rl_delay ?rh_delay) (K10.row_mk ?rq_force ?rl_force ?rh_force) ?qa_integer ?qa_name ?qa_tag ?qa_test ?qa_sign ?qa_expression ?qa_expressions ?qa_branches (K10.tupf_mk ?sl ?sh ?sz) ?z_isinstance ?z_int ?z_bool ?z_str ?z_tuple ?z_len ?z_list ?z_dict ?z_set ?z_all ?z_any ?z_zip ?z_range ?z_sorted ?z_repr ?z_enumerate ?z_min ?z_max
    (case a48 => k_is)
    (case l48 => k_is)
    (case c48 => k_is)
    (case k48 => k_is)
    (case a47 => k_is)
    (case l47 => k_is)
    (case c47 => k_is)
    (case k47 => k_is)
    (case a49 => k_is)
    (case l49 => k_is)
    (case c49 => k_is)
    (case k49 => k_is)
    (case a51 => k_is)
    (case l51 => k_is)
    (case c51 => k_is)
    (case k51 => k_is)
    (case a52 => k_is)
    (case l52 => k_is)
    (case c52 => k_is)
    (case k52 => k_is)
    (case a53 => k_is)
    (case l53 => k_is)
    (case c53 => k_is)
    (case k53 => k_is)
    (case a54 => k_is)
    (case l54 => k_is)
    (case c54 => k_is)
    (case k54 => k_is)
    (case a55 => k_is)
    (case l55 => k_is)
    (case c55 => k_is)
    (case k55 => k_is)
    (case a56 => k_is)
    (case l56 => k_is)
    (case c56 => k_is)
    (case k56 => k_is)
    (case a57 => k_is)
    (case l57 => k_is)
    (case c57 => k_is)
    (case k57 => k_is)
    (case a11 => k_is)
    (case l11 => k_is)
    (case c11 => k_is)
    (case k11 => k_is)
    (case a17 => k_is)
    (case l17 => k_is)
    (case c17 => k_is)
    (case k17 => k_is)
    (case a18 => k_is)
    (case l18 => k_is)
    (case c18 => k_is)
    (case k18 => k_is)
    (case a15 => k_is)
    (case l15 => k_is)
    (case c15 => k_is)
    (case k15 => k_is)
    (case a16 => k_is)
    (case l16 => k_is)
    (case c16 => k_is)
    (case k16 => k_is)
    (case a12 => k_is)
    (case l12 => k_is)
    (case c12 => k_is)
    (case k12 => k_is)
    (case a13 => k_is)
    (case l13 => k_is)
    (case c13 => k_is)
    (case k13 => k_is)
    (case a14 => k_is)
    (case l14 => k_is)
    (case c14 => k_is)
    (case k14 => k_is)
    (case a19 => k_is)
    (case l19 => k_is)
    (case c19 => k_is)
    (case k19 => k_is)
    (case a20 => k_is)
    (case l20 => k_is)
    (case c20 => k_is)
    (case k20 => k_is)
    (case a21 => k_is)
    (case l21 => k_is)
    (case c21 => k_is)
    (case k21 => k_is)
    (case a24 => k_is)
    (case l24 => k_is)
    (case c24 => k_is)
    (case k24 => k_is)
    (case a25 => k_is)
    (case l25 => k_is)
    (case c25 => k_is)
    (case k25 => k_is)
    (case a26 => k_is)
    (case l26 => k_is)
    (case c26 => k_is)
    (case k26 => k_is)
    (case a31 => k_is)
    (case l31 => k_is)
    (case c31 => k_is)
    (case k31 => k_is)
    (case a30 => k_is)
    (case l30 => k_is)
    (case c30 => k_is)
    (case k30 => k_is)
    (case a29 => k_is)
    (case l29 => k_is)
    (case c29 => k_is)
    (case k29 => k_is)
    (case a34 => k_is)
    (case l34 => k_is)
    (case c34 => k_is)
    (case k34 => k_is)
    (case a37 => k_is)
    (case l37 => k_is)
    (case c37 => k_is)
    (case k37 => k_is)
    (case a36 => k_is)
    (case l36 => k_is)
    (case c36 => k_is)
    (case k36 => k_is)
    (case a39 => k_is)
    (case l39 => k_is)
    (case c39 => k_is)
    (case k39 => k_is)
    (case a40 => k_is)
    (case l40 => k_is)
    (case c40 => k_is)
    (case k40 => k_is)
    (case a33 => k_is)
    (case l33 => k_is)
    (case c33 => k_is)
    (case k33 => k_is)
    (case a35 => k_is)
    (case l35 => k_is)
    (case c35 => k_is)
    (case k35 => k_is)
    (case a38 => k_is)
    (case l38 => k_is)
    (case c38 => k_is)
    (case k38 => k_is)
    (case a43 => k_is)
    (case l43 => k_is)
    (case c43 => k_is)
    (case k43 => k_is)
    (case a27 => k_is)
    (case l27 => k_is)
    (case c27 => k_is)
    (case k27 => k_is)
    (case a41 => k_is)
    (case l41 => k_is)
    (case c41 => k_is)
    (case k41 => k_is)
    (case a42 => k_is)
    (case l42 => k_is)
    (case c42 => k_is)
    (case k42 => k_is)
    (case a45 => k_is)
    (case l45 => k_is)
    (case c45 => k_is)
    (case k45 => k_is)
    (case a50 => k_is)
    (case l50 => k_is)
    (case c50 => k_is)
    (case k50 => k_is)
    (case a58 => k_is)
    (case l58 => k_is)
    (case c58 => k_is)
    (case k58 => k_is)
    (case a59 => k_is)
    (case l59 => k_is)
    (case c59 => k_is)
    (case k59 => k_is)
    (case a60 => k_is)
    (case l60 => k_is)
    (case c60 => k_is)
    (case k60 => k_is)
    (case a61 => k_is)
    (case l61 => k_is)
    (case c61 => k_is)
    (case k61 => k_is)
    (case a62 => k_is)
    (case l62 => k_is)
    (case c62 => k_is)
    (case k62 => k_is)
    (case a63 => k_is)
    (case l63 => k_is)
    (case c63 => k_is)
    (case k63 => k_is)
    (case a64 => k_is)
    (case l64 => k_is)
    (case c64 => k_is)
    (case k64 => k_is)
    (case qSMALL_LETTERS => k_is)
    (case qGREAT_LETTERS => k_is)
    (case qDIGITS => k_is)
    (case qLONGEST => k_is)
    (case qRESERVED => k_is)
    (case qTESTS => k_is)
    (case qSIGNS => k_is)
    (case qFORMS => k_is)
    (case qASKED => k_is)
    (case qSEARCHES => k_is)
    (case tlRESERVED => k_is)
    (case thRESERVED => rfl)
    (case tzRESERVED => decide)
    (case tlTESTS => k_is)
    (case thTESTS => rfl)
    (case tzTESTS => decide)
    (case tlSIGNS => k_is)
    (case thSIGNS => rfl)
    (case tzSIGNS => decide)
    (case dlF => k_is)
    (case dkF => ((repeat (refine And.intro ⟨_, _, rfl, rfl⟩ ?_)); exact True.intro))
    (case dwF => rfl)
    (case dlA => k_is)
    (case dkA => ((repeat (refine And.intro ⟨_, _, rfl, rfl⟩ ?_)); exact True.intro))
    (case dwA => rfl)
    (case kF => rfl)
    (case rq_int => k_is)
    (case rl_int => k_is)
    (case rh_int => rfl)
    (case rq_name => k_is)
    (case rl_name => k_is)
    (case rh_name => rfl)
    (case rq_call => k_is)
    (case rl_call => k_is)
    (case rh_call => rfl)
    (case rq_make => k_is)
    (case rl_make => k_is)
    (case rh_make => rfl)
    (case rq_case => k_is)
    (case rl_case => k_is)
    (case rh_case => rfl)
    (case rq_let => k_is)
    (case rl_let => k_is)
    (case rh_let => rfl)
    (case rq_if => k_is)
    (case rl_if => k_is)
    (case rh_if => rfl)
    (case rq_op => k_is)
    (case rl_op => k_is)
    (case rh_op => rfl)
    (case rq_delay => k_is)
    (case rl_delay => k_is)
    (case rh_delay => rfl)
    (case rq_force => k_is)
    (case rl_force => k_is)
    (case rh_force => rfl)
    (case qa_integer => k_is)
    (case qa_name => k_is)
    (case qa_tag => k_is)
    (case qa_test => k_is)
    (case qa_sign => k_is)
    (case qa_expression => k_is)
    (case qa_expressions => k_is)
    (case qa_branches => k_is)
    (case sl => k_is)
    (case sh => rfl)
    (case sz => decide)
    (case z_isinstance => k_is)
    (case z_int => k_is)
    (case z_bool => k_is)
    (case z_str => k_is)
    (case z_tuple => k_is)
    (case z_len => k_is)
    (case z_list => k_is)
    (case z_dict => k_is)
    (case z_set => k_is)
    (case z_all => k_is)
    (case z_any => k_is)
    (case z_zip => k_is)
    (case z_range => k_is)
    (case z_sorted => k_is)
    (case z_repr => k_is)
    (case z_enumerate => k_is)
    (case z_min => k_is)
    (case z_max => k_is)
#print axioms PySem.Challenge.cw_debtsheld_k10_two_faults_at_once_holds
