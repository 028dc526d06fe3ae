import PyProof.Rows.All
import Wide.All
import OpenK.AllK
import Wide.FinOn
import PyProof.ReprReads
import PyProof.ReprRoads
import HandS.ForMost
import HandS.ForExc
import HandS.IsInst
import HandS.Zip
import HandS.Evl
import HandS.Style
import HandS.TupAny
import HandS.SortInts
import HandS.Sort
import HandS.Wide
import HandS.Text
import HandS.Star
import HandS.IterVal
import HandS.Conv
import HandS.Small
import KE.GoesEnum
import KE.GoesMore
import HandS.SetBool
import HandS.Strs
import HandS.TupMul
import HandS.Deep
import PyProof.P3In
import PySem.Challenge.RW_debtsheld_k59_whole_branched_worlds
/-! DhA -/
section
set_option Elab.async false
set_option linter.all false
set_option maxRecDepth 100000
set_option maxHeartbeats 2000000
namespace Dh
open PySem PySem.Spec PyProof.Rows L2

/-! ### data that stand in the abstract heap, apart from the addresses at M -/
def keyD : Key → PyData
  | .inl i => .int i
  | .inr x => .str x
mutual
inductive At (K : PySem.W.Frag) (M : List Addr) (H : Hp) : V → PyData → Prop
  | non : At K M H .non .none
  | bl (b : Bool) : At K M H (.bl b) (.bool b)
  | int (i : Int) : At K M H (.int i) (.int i)
  | str (x : Str) : At K M H (.str x) (.str x)
  | lst {a : Addr} {xs : List V} {ds : List PyData} : SqL K H a xs → a ∉ M → AtL K M H xs ds → At K M H (.ref a) (.list ds)
  | tup {a : Addr} {xs : List V} {ds : List PyData} : SqT K H a xs → a ∉ M → AtL K M H xs ds → At K M H (.ref a) (.tuple ds)
  | dic {a : Addr} {kvs : List (Key × V)} {es : List (PyData × PyData)} : H a = some (.dK kvs) → a ∉ M → AtK K M H kvs es → At K M H (.ref a) (.dict es)
inductive AtL (K : PySem.W.Frag) (M : List Addr) (H : Hp) : List V → List PyData → Prop
  | nil : AtL K M H [] []
  | cons {v : V} {vs : List V} {d : PyData} {ds : List PyData} : At K M H v d → AtL K M H vs ds → AtL K M H (v :: vs) (d :: ds)
inductive AtK (K : PySem.W.Frag) (M : List Addr) (H : Hp) : List (Key × V) → List (PyData × PyData) → Prop
  | nil : AtK K M H [] []
  | cons {k : Key} {v : V} {kvs : List (Key × V)} {d : PyData} {es : List (PyData × PyData)} : At K M H v d → AtK K M H kvs es → AtK K M H ((k, v) :: kvs) ((keyD k, d) :: es)
end

/-- all that was tracked apart from M stands as it stood -/
def Kp (M : List Addr) (H H' : Hp) : Prop := ∀ b o, H b = some o → b ∉ M → H' b = some o
theorem Kp.refl (M : List Addr) (H : Hp) : Kp M H H := fun _ _ e _ => e
theorem Kp.trans {M : List Addr} {H H1 H2 : Hp} (a : Kp M H H1) (b : Kp M H1 H2) : Kp M H H2 := fun c o e n => b c o (a c o e n) n
theorem Kp.more {M M' : List Addr} {H H' : Hp} (a : Kp M H H') (h : ∀ b ∈ M, b ∈ M') : Kp M' H H' := fun c o e n => a c o e fun z => n (h c z)
theorem Kp.new {M : List Addr} {H : Hp} {p : Addr} {o : HO} (h : H p = none) : Kp M H (upd H p o) := fun c u e _ => by
  rw [upd_ne (ne_of_none e h)]; exact e
theorem Kp.put {M : List Addr} {H : Hp} {p : Addr} {o : HO} (h : p ∈ M) : Kp M H (upd H p o) := fun c u e n => by
  rw [upd_ne (by intro z; rw [z] at n; exact n h)]; exact e
theorem Kp.sqL {K : PySem.W.Frag} {M : List Addr} {H H' : Hp} {a : Addr} {xs : List V} (k : Kp M H H') (n : a ∉ M) (h : SqL K H a xs) : SqL K H' a xs := by
  rcases h with (h | ⟨o, h⟩) | h
  · exact .inl (.inl (k _ _ h n))
  · exact .inl (.inr ⟨o, k _ _ h n⟩)
  · exact .inr h
theorem Kp.sqT {K : PySem.W.Frag} {M : List Addr} {H H' : Hp} {a : Addr} {xs : List V} (k : Kp M H H') (n : a ∉ M) (h : SqT K H a xs) : SqT K H' a xs := by
  rcases h with (h | ⟨o, h⟩) | h
  · exact .inl (.inl (k _ _ h n))
  · exact .inl (.inr ⟨o, k _ _ h n⟩)
  · exact .inr h

section
variable {K : PySem.W.Frag} {M M' : List Addr} {H H' : Hp}
mutual
theorem At.kp (k : Kp M H H') : ∀ (d : PyData) {v : V}, At K M H v d → At K M H' v d
  | .none, _, h => by cases h; exact .non
  | .bool b, _, h => by cases h; exact .bl b
  | .int i, _, h => by cases h; exact .int i
  | .str x, _, h => by cases h; exact .str x
  | .list ds, _, h => by
    cases h with
    | lst h1 h2 h3 => exact .lst (k.sqL h2 h1) h2 (AtL.kp k ds h3)
  | .tuple ds, _, h => by
    cases h with
    | tup h1 h2 h3 => exact .tup (k.sqT h2 h1) h2 (AtL.kp k ds h3)
  | .dict es, _, h => by
    cases h with
    | dic h1 h2 h3 => exact .dic (k _ _ h1 h2) h2 (AtK.kp k es h3)
theorem AtL.kp (k : Kp M H H') : ∀ (ds : List PyData) {vs : List V}, AtL K M H vs ds → AtL K M H' vs ds
  | [], _, h => by cases h; exact .nil
  | d :: ds, _, h => by
    cases h with
    | cons h1 h2 => exact .cons (At.kp k d h1) (AtL.kp k ds h2)
theorem AtK.kp (k : Kp M H H') : ∀ (es : List (PyData × PyData)) {kvs : List (Key × V)}, AtK K M H kvs es → AtK K M H' kvs es
  | [], _, h => by cases h; exact .nil
  | (_, d) :: es, _, h => by
    cases h with
    | cons h1 h2 => exact .cons (At.kp k d h1) (AtK.kp k es h2)
end
mutual
theorem At.less (k : ∀ b ∈ M', b ∈ M) : ∀ (d : PyData) {v : V}, At K M H v d → At K M' H v d
  | .none, _, h => by cases h; exact .non
  | .bool b, _, h => by cases h; exact .bl b
  | .int i, _, h => by cases h; exact .int i
  | .str x, _, h => by cases h; exact .str x
  | .list ds, _, h => by
    cases h with
    | lst h1 h2 h3 => exact .lst h1 (fun z => h2 (k _ z)) (AtL.less k ds h3)
  | .tuple ds, _, h => by
    cases h with
    | tup h1 h2 h3 => exact .tup h1 (fun z => h2 (k _ z)) (AtL.less k ds h3)
  | .dict es, _, h => by
    cases h with
    | dic h1 h2 h3 => exact .dic h1 (fun z => h2 (k _ z)) (AtK.less k es h3)
theorem AtL.less (k : ∀ b ∈ M', b ∈ M) : ∀ (ds : List PyData) {vs : List V}, AtL K M H vs ds → AtL K M' H vs ds
  | [], _, h => by cases h; exact .nil
  | d :: ds, _, h => by
    cases h with
    | cons h1 h2 => exact .cons (At.less k d h1) (AtL.less k ds h2)
theorem AtK.less (k : ∀ b ∈ M', b ∈ M) : ∀ (es : List (PyData × PyData)) {kvs : List (Key × V)}, AtK K M H kvs es → AtK K M' H kvs es
  | [], _, h => by cases h; exact .nil
  | (_, d) :: es, _, h => by
    cases h with
    | cons h1 h2 => exact .cons (At.less k d h1) (AtK.less k es h2)
end
theorem AtL.get : ∀ {vs : List V} {ds : List PyData}, AtL K M H vs ds → ∀ {i : Nat} {v : V}, vs[i]? = some v → ∃ d, ds[i]? = some d ∧ At K M H v d
  | _, _, .nil, _, _, e => by simp at e
  | _, _, .cons h _, 0, _, e => by
    simp at e; subst e
    exact ⟨_, rfl, h⟩
  | _, _, .cons _ h, i + 1, v, e => by
    obtain ⟨d, h1, h2⟩ := AtL.get h (i := i) (v := v) (by simpa using e)
    exact ⟨d, by simpa using h1, h2⟩
theorem AtL.length : ∀ {vs : List V} {ds : List PyData}, AtL K M H vs ds → vs.length = ds.length
  | _, _, .nil => rfl
  | _, _, .cons _ h => by simp [AtL.length h]
theorem AtL.append : ∀ {vs ws : List V} {ds es : List PyData}, AtL K M H vs ds → AtL K M H ws es → AtL K M H (vs ++ ws) (ds ++ es)
  | _, _, _, _, .nil, h => h
  | _, _, _, _, .cons a b, h => .cons a (AtL.append b h)
theorem AtL.take : ∀ (n : Nat) {vs : List V} {ds : List PyData}, AtL K M H vs ds → AtL K M H (vs.take n) (ds.take n)
  | 0, _, _, _ => by simp; exact .nil
  | n + 1, _, _, .nil => .nil
  | n + 1, _, _, .cons a b => .cons a (AtL.take n b)
theorem AtL.drop : ∀ (n : Nat) {vs : List V} {ds : List PyData}, AtL K M H vs ds → AtL K M H (vs.drop n) (ds.drop n)
  | 0, _, _, h => h
  | n + 1, _, _, .nil => .nil
  | n + 1, _, _, .cons a b => AtL.drop n b
theorem AtL.strs : ∀ (xs : List Str), AtL K M H (xs.map V.str) (xs.map PyData.str)
  | [] => .nil
  | x :: r => .cons (.str x) (AtL.strs r)
end

/-! ### repr of such data -/
theorem ReprEntriesK_more {prog : Program} {w : World} {h : Heap} {as bs : List Addr} {d e : Nat} (hs : ∀ b ∈ as, b ∈ bs) (hd : d ≤ e) : ∀ {es : List DictEntry} {ps : List Str}, ReprEntriesK prog w as h d es ps → ReprEntriesK prog w bs h e es ps
  | _, _, .nil => .nil
  | _, _, .cons a b c => .cons ((a.more hs).level_le hd) ((b.more hs).level_le hd) (ReprEntriesK_more hs hd c)
section
variable {X : Cx} {pins : List (Addr × Obj)} {σ : L2.St} {H : Hp} {s : Shared} {M : List Addr}
theorem key_reads {h : Heap} {k : Key} {v : Value} (e : keyIs k v = true) : Reads h v (keyD k) [] := by
  rcases keyIs_shape e with ⟨i, t, rfl, rfl⟩ | ⟨x, t, rfl, rfl⟩
  · exact Reads.int i t
  · exact Reads.str x t
mutual
theorem At.reads (I : Inv X pins σ H s) : ∀ (d : PyData) (v : V) (u : Value), At X.K M H v d → RelV v u → ∃ as, Reads s.heap u d as
  | .none, _, _, h, r => by
    cases h; cases r
    exact ⟨_, Reads.none⟩
  | .bool b, _, _, h, r => by
    cases h; cases r
    exact ⟨_, Reads.bool b⟩
  | .int i, _, _, h, r => by
    cases h
    obtain ⟨t, rfl⟩ := r
    exact ⟨_, Reads.int i t⟩
  | .str x, _, _, h, r => by
    cases h
    obtain ⟨t, rfl⟩ := r
    exact ⟨_, Reads.str x t⟩
  | .list ds, _, _, h, r => by
    cases h with
    | lst hs _ ha =>
      cases r
      obtain ⟨its, rv, ⟨o, n, ho, hc, _, hd⟩, _⟩ := I.list hs
      obtain ⟨as, hr⟩ := AtL.reads I ds _ its ha rv
      exact ⟨_, Reads.list ho hc hd hr⟩
  | .tuple ds, _, _, h, r => by
    cases h with
    | tup hs _ ha =>
      cases r
      obtain ⟨its, rv, ⟨o, ho, hc, n, hd⟩, _⟩ := I.tuple hs
      obtain ⟨as, hr⟩ := AtL.reads I ds _ its ha rv
      exact ⟨_, Reads.tuple ho hc hd hr⟩
  | .dict es, _, _, h, r => by
    cases h with
    | dic hs _ ha =>
      cases r
      obtain ⟨_, _, vs, rv, o, ents, ep, ho, hx, hd, _, hp, _⟩ := I.hok _ _ hs
      obtain ⟨as, bs, h1, h2⟩ := AtK.reads I es _ vs ents.toList ha rv hp
      exact ⟨_, Reads.dict ho hx.1 hd h1 h2⟩
theorem AtL.reads (I : Inv X pins σ H s) : ∀ (ds : List PyData) (vs : List V) (us : List Value), AtL X.K M H vs ds → Vals vs us → ∃ as, ReadsAll s.heap us ds as
  | [], _, _, h, r => by
    cases h; cases r
    exact ⟨_, ReadsAll.nil⟩
  | d :: ds, _, _, h, r => by
    cases h with
    | cons h1 h2 =>
      cases r with
      | cons r1 r2 =>
        obtain ⟨as, q1⟩ := At.reads I d _ _ h1 r1
        obtain ⟨bs, q2⟩ := AtL.reads I ds _ _ h2 r2
        exact ⟨_, ReadsAll.cons q1 q2⟩
theorem AtK.reads (I : Inv X pins σ H s) : ∀ (es : List (PyData × PyData)) (kvs : List (Key × V)) (vs : List (Key × Value)) (ents : List DictEntry), AtK X.K M H kvs es → KV kvs vs → Pairs (mixKind X.prog X.w) ents vs →
    ∃ as bs, ReadsAll s.heap (ents.map (·.key)) (es.map (·.1)) as ∧ ReadsAll s.heap (ents.map (·.val)) (es.map (·.2)) bs
  | [], _, _, _, h, r, p => by
    cases h; cases r; cases p
    exact ⟨_, _, ReadsAll.nil, ReadsAll.nil⟩
  | (_, d) :: es, _, _, _, h, r, p => by
    cases h with
    | cons h1 h2 =>
      cases r with
      | cons r1 r2 =>
        cases p with
        | cons p1 p2 p3 =>
          obtain ⟨as, bs, q1, q2⟩ := AtK.reads I es _ _ _ h2 r2 p3
          obtain ⟨cs, q3⟩ := At.reads I d _ _ h1 r1.2
          have e1 := r1.1
          rw [← p2] at q3
          refine ⟨_, _, ReadsAll.cons (key_reads ?_) q1, ReadsAll.cons q3 q2⟩
          have p1' : keyIs _ _ = true := p1
          rw [← e1] at p1'
          exact p1'
end

theorem key_shown {h : Heap} {k : Key} {v : Value} (prog : Program) (w : World) (e : keyIs k v = true) (hs : (keyD k).showable = true) (hz : (keyD k).shown.length ≤ sizeLine) : ReprIs prog w v (keyD k).shown := by
  rcases keyIs_shape e with ⟨i, t, rfl, rfl⟩ | ⟨x, t, rfl, rfl⟩
  · simp only [keyD, PyData.shown]
    exact ReprIs.int t (by simpa [keyD, PyData.showable] using hs)
  · simp only [keyD, PyData.shown]
    exact ReprIs.str x t (by simpa only [keyD, PyData.shown] using hz)
theorem kv_line {es : List (PyData × PyData)} (hz : (dictText (PyData.shownKv es)).length ≤ sizeLine) : ∀ p ∈ PyData.shownKv es, p.length ≤ sizeLine :=
  fun p hp => Nat.le_trans (dictText_mem_le hp) hz
mutual
/-- the text of such data, and what is read for it -/
theorem At.rk (I : Inv X pins σ H s) : ∀ (d : PyData) (v : V) (u : Value), At X.K M H v d → RelV v u → d.showable = true → d.shown.length ≤ sizeLine →
    ∃ bs, ReadAtMost s.heap d.depth bs ∧ ReprK X.prog X.w bs s.heap d.depth u d.shown
  | .none, _, _, h, r, _, _ => by
    cases h; cases r
    exact ⟨[], (fun _ z => nomatch z), by simp only [PyData.shown]; exact .of_is ReprIs.none _ _ _⟩
  | .bool b, _, _, h, r, _, _ => by
    cases h; cases r
    exact ⟨[], (fun _ z => nomatch z), by simp only [PyData.shown]; exact .of_is (ReprIs.bool b) _ _ _⟩
  | .int i, _, _, h, r, hs, _ => by
    cases h
    obtain ⟨t, rfl⟩ := r
    exact ⟨[], (fun _ z => nomatch z), by simp only [PyData.shown]; exact .of_is (ReprIs.int t (by simpa [PyData.showable] using hs)) _ _ _⟩
  | .str x, _, _, h, r, _, hz => by
    cases h
    obtain ⟨t, rfl⟩ := r
    exact ⟨[], (fun _ z => nomatch z), by simp only [PyData.shown]; exact .of_is (ReprIs.str x t (by simpa only [PyData.shown] using hz)) _ _ _⟩
  | .list ds, v, u, h, r, hs, hz => by
    have h' := h
    cases h with
    | lst hq _ ha =>
      cases r
      obtain ⟨as, rd⟩ := At.reads I (.list ds) _ _ h' rfl
      obtain ⟨its, rv, ⟨o, n, ho, hc, _, hd⟩, _⟩ := I.list hq
      have hz' : (listText (PyData.shownAll ds)).length ≤ sizeLine := by simpa only [PyData.shown] using hz
      obtain ⟨bs, hb, hk⟩ := AtL.rk I ds _ its ha rv (by simpa [PyData.showable] using hs) (fun t ht => Nat.le_trans (listText_mem_le ht) hz')
      have hna := not_mem_of_deeper rd (by simp only [PyData.depth]; omega) hb
      refine ⟨_, ReadAtMost.cons rd (by simp only [PyData.depth]; omega) hb, ?_⟩
      simp only [PyData.depth, PyData.shown]
      cases its with
      | nil =>
        cases rv
        cases ha
        simp only [PyData.shownAll, listText_nil]
        exact ReprK.listEmpty ho hc hd
      | cons x l => exact ReprK.list ho hc hd hna (by simpa using hk.length_eq) (fun i y e => hk.item i y (by simpa using e))
  | .tuple ds, v, u, h, r, hs, hz => by
    have h' := h
    cases h with
    | tup hq _ ha =>
      cases r
      obtain ⟨as, rd⟩ := At.reads I (.tuple ds) _ _ h' rfl
      obtain ⟨its, rv, ⟨o, ho, hc, n, hd⟩, _⟩ := I.tuple hq
      have hz' : (tupleText (PyData.shownAll ds)).length ≤ sizeLine := by simpa only [PyData.shown] using hz
      obtain ⟨bs, hb, hk⟩ := AtL.rk I ds _ its ha rv (by simpa [PyData.showable] using hs) (fun t ht => Nat.le_trans (tupleText_mem_le ht) hz')
      have hna := not_mem_of_deeper rd (by simp only [PyData.depth]; omega) hb
      refine ⟨_, ReadAtMost.cons rd (by simp only [PyData.depth]; omega) hb, ?_⟩
      simp only [PyData.depth, PyData.shown]
      exact ReprK.tuple ho hc hd hna hk
  | .dict es, v, u, h, r, hs, hz => by
    have h' := h
    cases h with
    | dic hq _ ha =>
      cases r
      obtain ⟨as, rd⟩ := At.reads I (.dict es) _ _ h' rfl
      obtain ⟨_, hsys, vs, rv, o, ents, ep, ho, hx, hd, _, hp, _⟩ := I.hok _ _ hq
      have hz' : (dictText (PyData.shownKv es)).length ≤ sizeLine := by simpa only [PyData.shown] using hz
      obtain ⟨bs, hb, hk⟩ := AtK.rk I es _ vs ents.toList ha rv hp (by simpa [PyData.showable] using hs) (kv_line hz')
      have hna := not_mem_of_deeper rd (by simp only [PyData.depth]; omega) hb
      refine ⟨_, ReadAtMost.cons rd (by simp only [PyData.depth]; omega) hb, ?_⟩
      simp only [PyData.depth, PyData.shown]
      exact ReprK.dict ho hx.1 hd hsys hna hk
theorem AtL.rk (I : Inv X pins σ H s) : ∀ (ds : List PyData) (vs : List V) (us : List Value), AtL X.K M H vs ds → Vals vs us → PyData.showableAll ds = true → (∀ t ∈ PyData.shownAll ds, t.length ≤ sizeLine) →
    ∃ bs, ReadAtMost s.heap (PyData.depthAll ds) bs ∧ ReprAllK X.prog X.w bs s.heap (PyData.depthAll ds) us (PyData.shownAll ds)
  | [], _, _, h, r, _, _ => by
    cases h; cases r
    exact ⟨[], (fun _ z => nomatch z), by simp only [PyData.shownAll]; exact .nil⟩
  | d :: ds, _, _, h, r, hs, hz => by
    cases h with
    | cons h1 h2 =>
      cases r with
      | cons r1 r2 =>
        have hs' : d.showable = true ∧ PyData.showableAll ds = true := by simpa [PyData.showableAll] using hs
        obtain ⟨b1, q1, k1⟩ := At.rk I d _ _ h1 r1 hs'.1 (hz _ (by simp only [PyData.shownAll]; exact List.mem_cons_self ..))
        obtain ⟨b2, q2, k2⟩ := AtL.rk I ds _ _ h2 r2 hs'.2 (fun t ht => hz t (by simp only [PyData.shownAll]; exact List.mem_cons_of_mem _ ht))
        have e1 : d.depth ≤ PyData.depthAll (d :: ds) := by simp only [PyData.depthAll]; omega
        have e2 : PyData.depthAll ds ≤ PyData.depthAll (d :: ds) := by simp only [PyData.depthAll]; omega
        refine ⟨b1 ++ b2, (q1.mono e1).append (q2.mono e2), ?_⟩
        simp only [PyData.shownAll]
        exact .cons ((k1.more fun b hb => List.mem_append_left _ hb).level_le e1) (k2.more_le (fun b hb => List.mem_append_right _ hb) e2)
theorem AtK.rk (I : Inv X pins σ H s) : ∀ (es : List (PyData × PyData)) (kvs : List (Key × V)) (vs : List (Key × Value)) (ents : List DictEntry), AtK X.K M H kvs es → KV kvs vs → Pairs (mixKind X.prog X.w) ents vs →
    PyData.showableKv es = true → (∀ p ∈ PyData.shownKv es, p.length ≤ sizeLine) → ∃ bs, ReadAtMost s.heap (PyData.depthKv es) bs ∧ ReprEntriesK X.prog X.w bs s.heap (PyData.depthKv es) ents (PyData.shownKv es)
  | [], _, _, _, h, r, p, _, _ => by
    cases h; cases r; cases p
    exact ⟨[], (fun _ z => nomatch z), by simp only [PyData.shownKv]; exact .nil⟩
  | (kd, d) :: es, _, _, _, h, r, p, hs, hz => by
    cases h with
    | cons h1 h2 =>
      cases r with
      | cons r1 r2 =>
        cases p with
        | cons p1 p2 p3 =>
          rename_i k v kvs kv' vs' e ents
          have hs' : ((keyD k).showable = true ∧ d.showable = true) ∧ PyData.showableKv es = true := by simpa [PyData.showableKv] using hs
          have hzp := hz _ (by simp only [PyData.shownKv]; exact List.mem_cons_self ..)
          have hl : ((keyD k).shown ++ ": " ++ d.shown).length = (keyD k).shown.length + 2 + d.shown.length := by
            rw [strLen_append, strLen_append]; rfl
          rw [hl] at hzp
          obtain ⟨b1, q1, k1⟩ := At.rk I d _ _ h1 r1.2 hs'.1.2 (by omega)
          obtain ⟨b2, q2, k2⟩ := AtK.rk I es _ _ _ h2 r2 p3 hs'.2 (fun t ht => hz t (by simp only [PyData.shownKv]; exact List.mem_cons_of_mem _ ht))
          have e1 : d.depth ≤ PyData.depthKv ((keyD k, d) :: es) := by simp only [PyData.depthKv]; omega
          have e2 : PyData.depthKv es ≤ PyData.depthKv ((keyD k, d) :: es) := by simp only [PyData.depthKv]; omega
          refine ⟨b1 ++ b2, (q1.mono e1).append (q2.mono e2), ?_⟩
          simp only [PyData.shownKv]
          have p1' : keyIs k e.key = true := by
            have z : keyIs kv'.1 e.key = true := p1
            have e1 : k = kv'.1 := r1.1
            rw [e1]; exact z
          refine .cons (.of_is (key_shown (h := s.heap) _ _ p1' hs'.1.1 (by omega)) _ _ _) ?_ ?_
          · rw [p2]
            exact (k1.more fun b hb => List.mem_append_left _ hb).level_le e1
          · exact ReprEntriesK_more (fun b hb => List.mem_append_right _ hb) e2 k2
end
/-- repr(v), v data; no repr runs around -/
theorem call_repr_At (hG : X.A.guards = some []) (hu : X.A.units + 70 < cLine) : CallR X (.builtin "repr") (fun xs H Q => ∃ (M : List Addr) (v : V) (d : PyData), xs = [v] ∧ At X.K M H v d ∧ d.showable = true ∧ d.depth ≤ 60 ∧ d.shown.length ≤ sizeLine ∧ Q (.str d.shown) H) := by
  intro pins s σ H xs us Q I r h
  obtain ⟨M, v, d, rfl, ha, hs, hd, hz, q⟩ := h
  obtain ⟨u, rfl, ru⟩ := vals1 r
  have fin : ∀ h' tk t, (∀ b o, s.heap.get? b = some o → h'.get? b = some o) → EP X pins σ Q (.str d.shown t) { s with heap := h', toks := tk } :=
    fun h' tk t k => ⟨.str d.shown, H, I.kept k, ⟨t, rfl⟩, q⟩
  have h' := ha
  cases ha with
  | non =>
    cases ru
    exact PySem.P.repr_of_none (fin _ _ _ fun _ _ e => e)
  | bl b =>
    cases ru
    refine PySem.P.repr_of_bool ?_
    have z := fin s.heap (s.toks + 1) s.toks fun _ _ e => e
    simp only [PyData.shown] at z
    exact z
  | int i =>
    obtain ⟨t, rfl⟩ := ru
    refine PySem.P.repr_of_int (by simpa [PyData.showable] using hs) ?_
    have z := fin s.heap (s.toks + 1) s.toks fun _ _ e => e
    simp only [PyData.shown] at z
    exact z
  | str x =>
    obtain ⟨t, rfl⟩ := ru
    refine PySem.P.repr_of_str ?_ (by simpa only [PyData.shown] using hz)
    have z := fin s.heap (s.toks + 1) s.toks fun _ _ e => e
    simp only [PyData.shown] at z
    exact z
  | @lst a xs ds hq hn hl =>
    cases ru
    obtain ⟨as, rd⟩ := At.reads I (.list ds) _ _ h' rfl
    obtain ⟨its, rv, ⟨o, n, ho, hc, _, hdt⟩, _⟩ := I.list hq
    have hz' : (listText (PyData.shownAll ds)).length ≤ sizeLine := by simpa only [PyData.shown] using hz
    obtain ⟨bs, hb, hk⟩ := AtL.rk I ds _ its hl rv (by simpa [PyData.showable] using hs) (fun t ht => Nat.le_trans (listText_mem_le ht) hz')
    have hna := not_mem_of_deeper rd (by simp only [PyData.depth]; omega) hb
    simp only [PyData.depth] at hd
    simp only [PyData.shown] at fin
    refine call_repr_slot (by omega) ⟨o, ho, hc⟩ F.slot_list_repr.toG ?_
    cases its with
    | nil =>
      cases rv
      cases hl
      simp only [PyData.shownAll, listText_nil] at fin
      exact call_list_repr_empty ⟨o, ho, hc⟩ ho hdt ⟨_, _, rfl, fin s.heap _ _ fun _ _ e => e⟩
    | cons x l =>
      exact call_list_reprK ho hc hdt hna (by simpa using hk.length_eq) (fun i y e => hk.item i y (by simpa using e)) hG (fun b _ => Clear.nil b) (by show X.A.units + 1 + (_ + 1) < cLine; omega) (fun _ _ e => e) (fun h' u tk k => ⟨_, _, rfl, fin h' tk u k⟩) hz'
  | @tup a xs ds hq hn hl =>
    cases ru
    obtain ⟨as, rd⟩ := At.reads I (.tuple ds) _ _ h' rfl
    obtain ⟨its, rv, ⟨o, ho, hc, n, hdt⟩, _⟩ := I.tuple hq
    have hz' : (tupleText (PyData.shownAll ds)).length ≤ sizeLine := by simpa only [PyData.shown] using hz
    obtain ⟨bs, hb, hk⟩ := AtL.rk I ds _ its hl rv (by simpa [PyData.showable] using hs) (fun t ht => Nat.le_trans (tupleText_mem_le ht) hz')
    have hna := not_mem_of_deeper rd (by simp only [PyData.depth]; omega) hb
    simp only [PyData.depth] at hd
    simp only [PyData.shown] at fin
    refine call_repr_slot (by omega) ⟨o, ho, hc⟩ F.slot_tuple_repr ?_
    exact call_tuple_reprK ho hc hdt hna hk hG (fun b _ => Clear.nil b) (by show X.A.units + 1 + (_ + 1) < cLine; omega) (fun _ _ e => e) (fun h' u tk k => ⟨_, _, rfl, fin h' tk u k⟩) hz'
  | @dic a kvs es hq hn hl =>
    cases ru
    obtain ⟨as, rd⟩ := At.reads I (.dict es) _ _ h' rfl
    obtain ⟨_, hsys, vs, rv, o, ents, ep, ho, hx, hdt, _, hp, _⟩ := I.hok _ _ hq
    have hz' : (dictText (PyData.shownKv es)).length ≤ sizeLine := by simpa only [PyData.shown] using hz
    obtain ⟨bs, hb, hk⟩ := AtK.rk I es _ vs ents.toList hl rv hp (by simpa [PyData.showable] using hs) (kv_line hz')
    have hna := not_mem_of_deeper rd (by simp only [PyData.depth]; omega) hb
    simp only [PyData.depth] at hd
    simp only [PyData.shown] at fin
    refine call_repr_slot (by omega) ⟨o, ho, hx.1⟩ F.slot_dict_repr ?_
    exact call_dict_reprK ho hx.1 hdt hsys hna hk hG (fun b _ => Clear.nil b) (by show X.A.units + 1 + (_ + 1) < cLine; omega) (fun _ _ e => e) (fun h' u tk k => ⟨_, _, rfl, fin h' tk u k⟩) hz'
end
end Dh
end

/-! DhB -/
section
set_option Elab.async false
set_option linter.all false
set_option maxRecDepth 100000
set_option maxHeartbeats 2000000
namespace Dh
open PySem PySem.Spec PyProof.Rows L2

/-! ### defs that are called where no repr runs -/
structure FnG (P : Program) (w : World) (K : PySem.W.Frag) (mg : Str → Option Value) (base : Heap) (cx : CXT) (k : Nat) (f : Addr) (fd : FuncData) (ps : List Str) (sp : Sp) : Prop where
  ln : ∀ vs H Q E, sp vs H Q E → vs.length = ps.length
  go : ∀ (A : Around) (outer : List Env) (s : Shared) (H : Hp) (args : Args) (us : List Value) (vs : List V) (Q : VK) (E : XK),
    A.guards = some [] → Room k A → Env0 P w K mg base A outer s H → BindsTo s fd args (ps.zip us) → Vals vs us → sp vs H Q E →
    codeAny (model P w) A (.call (.ref f) args) (CR cx outer P w H s Q E) s

section
variable {P : Program} {w : World} {K : PySem.W.Frag} {mg : Str → Option Value} {base : Heap} {cx : CXT}
/-- its body, run at an entry where no repr runs -/
theorem FnG.by_body {x qual : Str} {st : Stmt} {f : Addr} {fd : FuncData} {N ps : List Str} {k : Nat} {sp : Sp} (F : Fun K x qual st f fd) (S : FnScope N ps (defScope st))
    (ln : ∀ vs H Q E, sp vs H Q E → vs.length = ps.length)
    (run : ∀ (cdv : Value) (A : Around) (outer : List Env) (s : Shared) (H : Hp) (vs : List V) (Q : VK) (E : XK),
      (A.deeper (envOfC qual (defScope st) s.heap.objs.size f cdv)).guards = some [] → Room k (A.deeper (envOfC qual (defScope st) s.heap.objs.size f cdv)) → sp vs H Q E →
      ∃ t, PSs (cxOf cx P w K mg base N qual (defScope st) f cdv A outer s H E) (defBody st) t ∧ t { nx := fun _ H' => Q .non H', rt := Q } (start N vs) H) :
    FnG P w K mg base cx (k + 1) f fd ps sp := by
  obtain ⟨oc, od, kV, doc, pm, an, cdv, ct, osl, rfl, at_f, code⟩ := F.ex
  refine ⟨ln, ?_⟩
  intro A outer s H args us vs Q E noG room ent binds rel want
  have stays : ∀ b o, base.get? b = some o → s.heap.get? b = some o := fun b o e => (ent.bs b o e).1
  have inK : K.In s.heap := ent.mod.kin.keeps stays
  refine codeAny_call_function room.depth (inK _ _ at_f) rfl S.co S.gen rfl (PySem.W.codeRec_of inK code) (binds _ _ _ _ ?_)
  refine wpAny_newFunctionEnv_cells S.kind (fun y hy => ?_) (fun env he s1 made => ?_)
  · obtain ⟨n, v⟩ := y
    have := S.par n (List.of_mem_zip hy).1
    rcases this with q | q
    · exact .inl q
    · exact .inr ⟨q, PySem.W.cellsFrom_some _ _ _ (.inl q)⟩
  · subst he
    refine ⟨(ent.mod.nolimit.keeps stays).keeps made.toInCall.keep, codeAny_func ?_⟩
    have noG' : (A.deeper (envOfC qual (defScope st) s.heap.objs.size f cdv)).guards = some [] := noG
    obtain ⟨t, body, q⟩ := run cdv A outer s H vs Q E noG' (room.deeper _) want
    have I0 := inv_start (CX := cx) (E := E) (N := N) S room.hd ent (ln _ _ _ _ want) rel made
    refine wpAny_mono (body.run [] s1 (start N vs) H _ I0 q) ?_ (fun e s' z => z)
    intro fl s' out
    cases fl with
    | ret u =>
      obtain ⟨v, σ', H', J, r', q'⟩ := out
      exact ⟨v, H', J.os, J.bare, J.base, J.hok, r', q'⟩
    | next =>
      obtain ⟨σ', H', J, q'⟩ := out
      exact ⟨V.non, H', J.os, J.bare, J.base, J.hok, rfl, q'⟩
    | brk => obtain ⟨_, _, _, z⟩ := out; exact z.elim
    | cont => obtain ⟨_, _, _, z⟩ := out; exact z.elim

/-- as by_body, where nothing that is raised leaves -/
theorem FnG.by0 {x qual : Str} {st : Stmt} {f : Addr} {fd : FuncData} {N ps : List Str} {k : Nat} {sp : Sp} (F : Fun K x qual st f fd) (S : FnScope N ps (defScope st))
    (ln : ∀ vs H Q E, sp vs H Q E → vs.length = ps.length)
    (run : ∀ (cdv : Value) (A : Around) (outer : List Env) (s : Shared) (H : Hp) (vs : List V) (Q : VK) (E : XK),
      (A.deeper (envOfC qual (defScope st) s.heap.objs.size f cdv)).guards = some [] → Room k (A.deeper (envOfC qual (defScope st) s.heap.objs.size f cdv)) → sp vs H Q E →
      ∃ t, PSs (cxOf CX0 P w K mg base N qual (defScope st) f cdv A outer s H E).nox (defBody st) t ∧ t { nx := fun _ H' => Q .non H', rt := Q } (start N vs) H) :
    FnG P w K mg base CX0 (k + 1) f fd ps sp :=
  FnG.by_body F S ln fun cdv A outer s H vs Q E g r h => by
    obtain ⟨t, a, b⟩ := run cdv A outer s H vs Q E g r h
    exact ⟨t, a.nox, b⟩

theorem FnOk.toG {k : Nat} {f : Addr} {fd : FuncData} {ps : List Str} {sp : Sp} (F : FnOk P w K mg base cx k f fd ps sp) : FnG P w K mg base cx k f fd ps sp :=
  ⟨F.len, fun A outer s H args us vs Q E _ => F.run A outer s H args us vs Q E⟩
end

section
variable {X : Cx} {cx : CXT} {k : Nat} {f : Addr} {fd : FuncData} {ps : List Str} {sp : Sp} {E : XK} {x : Str} {p pos : Pos} {e : Expr} {es : List Expr} {t : TA}
/-- f(e, ..), f such a def, called where no repr runs -/
theorem pe_callG (F : FnG X.prog X.w X.K X.mg X.base cx k f fd ps sp) (noG : X.A.guards = some []) (room : Room k X.A) (hg : Gl X x) (hm : X.mg x = some (.ref f)) (hk : PySem.W.keepIn X.K (.ref f) = true)
    (hb : Binds X.K fd ps []) (out : Passes cx X E) (ha : PA X (e :: es) t) (hdb : (x == ("__debug__" : Str)) = false := by decide)
    (he : starEach (e :: es) X.env = (false, eval e X.env) :: starEach es X.env := by rfl) (hpl : (backTo pos (starEach es X.env)).any (·.1) = false := by rfl) :
    PE X (.Call (.Name x p) (e :: es) [] pos) (tCall sp [] E t) := by
  constructor
  intro pins s σ H Q I h
  refine wpAny_Call_Name_kw (ld_glob I hg hm ?_ hdb)
  refine PySem.W.callWith_K (h₀ := X.base) I.ok.mod.kin hk ?_ he hpl
  refine thn (ha.run pos pins s σ H _ I h) ?_
  rintro us s1 ⟨vs, H1, I1, r, q⟩
  rw [List.append_nil] at q
  refine ⟨I1.kIn, wpAny_call ?_⟩
  have hl : (us ++ []).length = ps.length := by rw [List.append_nil, ← r.length]; exact F.ln _ _ _ _ q
  have bd := hb s1 us I1.kIn hl
  rw [List.append_nil] at bd
  refine codeAny_mono (F.go X.A X.stack s1 H1 ⟨us, []⟩ us vs Q E noG room I1.env0 bd r q) ?_
  intro res s' z
  cases res with
  | error err => exact out pins σ H1 s1 err s' I1 z
  | ok fl =>
    cases fl with
    | ret u => exact I1.after z
    | next => exact False.elim z
    | brk => exact False.elim z
    | cont => exact False.elim z
end

/-! ### the end of a law of such defs -/
section
variable {l : PySem.W.OpenLaw} {n k : Nat} {q : Program} {loose : List Str} {XP : (Str → Option Value) → Heap → Prop} {YP : World → Heap → Prop} {d : DefRec} {Kp : Params → PySem.W.Frag} {x : Str}
theorem walkG {sp : PySem.W.Frag → Sp} (hn : l.most = some n) (hn2 : n ≤ sizeLine) (hdf : d.params.defaults = []) (room : Room k callerA)
    (hY : ∀ (w : World) (h : Heap), YP w h → (Kp w.params).In h)
    (main : ∀ (w : World) (mg : Str → Option Value) (fa : Addr) (h : Heap), (Kp w.params).In h → h.Ns mainGlobals mg → mg d.name = some (.ref fa) →
      ∃ fd : FuncData, (∀ (s : Shared) (u : Value), BindsTo s fd ⟨[u], []⟩ [(x, u)]) ∧
        ∀ base : Heap, (Kp w.params).In base → base.Ns mainGlobals mg → FnG l.prog w (Kp w.params) mg base CX0 k fa fd [x] (sp (Kp w.params)))
    (want : ∀ (K : PySem.W.Frag) (H : Hp) (a : Addr) (ns : List Int), ns.length ≤ n → SqL K H a (ns.map V.int) → sp K [.ref a] H (fun v _ => v = .bl true) fun _ _ _ => False) :
    PySem.W.WalkO q loose XP YP l.row.toRowW d [] (fun f vs => PySem.call f vs) := by
  refine Att.attach_call hn hdf ?_
  intro w s0 s1 mg mb fa o pm cd doc a vs ns G Y _ _ _ hmg script numbers short bare0
  have inK := hY w _ Y
  obtain ⟨fd, binds, F⟩ := main w mg fa _ inK G.T.g hmg
  have rel := vals_ints numbers
  have lens : vs.length = ns.length := numbers.length
  have go : ∀ H : Hp, HOk l.prog w H s1.heap → SqL (Kp w.params) H a (ns.map V.int) → (∀ b, H b = none ∨ (b = a ∧ (Kp w.params).lookup a = none ∧ ∃ ob, ∃ xs, H b = some (.frz ob (.lst xs)))) →
      codeAny (model l.prog w) callerA (.call (.ref fa) ⟨[.ref a], []⟩) (fun r s' => r = .ok (.ret (.bool true)) ∧ OldK s1.heap s'.heap ∧ s'.os = s1.os ∧ AllBare s'.gens) s1 := by
    intro H ok hS only
    have plain : ∀ {b : Addr} {ob : Obj}, s1.heap.get? b = some ob → (∀ its m, ob.data ≠ .seq its m) → H b = none := by
      intro b ob e nd
      rcases only b with z | ⟨rfl, _⟩
      · exact z
      · rw [script] at e; cases e
        exact absurd rfl (nd _ _)
    have nsT : ∀ {b : Addr} {m : Str → Option Value}, s1.heap.Ns b m → (hidT s1.heap H).Ns b m := by
      rintro b m ⟨ob, es, ep, e, dt, r⟩
      exact ⟨ob, es, ep, hidT_get e (plain e fun its k z => by rw [dt] at z; cases z), dt, r⟩
    have kT : (Kp w.params).In (hidT s1.heap H) := by
      intro b ob e
      refine hidT_get (inK b ob e) ?_
      rcases only b with z | ⟨rfl, nk, _⟩
      · exact z
      · rw [nk] at e; cases e
    have lim : (hidT s1.heap H).NoLimit := by
      obtain ⟨mc, e1, e2⟩ := G.T.nolimit
      exact ⟨mc, nsT e1, e2⟩
    have ent : Env0 l.prog w (Kp w.params) mg (hidT s1.heap H) callerA [] s1 H :=
      ⟨rfl, ⟨kT, nsT G.T.g, ⟨mb, nsT G.T.b, G.T.builtins⟩, lim⟩, fun b ob e => of_hidT e, Nat.le_of_eq (hidT_size _ _), True.intro, (fun b hb => absurd (show b ∈ ([] : List Addr) from hb) (by simp)), ok, .of_eq bare0⟩
    refine codeAny_mono ((F _ kT (nsT G.T.g)).go callerA [] s1 H ⟨[.ref a], []⟩ [.ref a] [.ref a] _ _ rfl room ent (binds s1 (.ref a)) (.cons rfl .nil) (want _ H a ns short hS)) ?_
    intro r s' z
    cases r with
    | error e => exact False.elim z
    | ok fl =>
     cases fl with
     | next => exact False.elim z
     | brk => exact False.elim z
     | cont => exact False.elim z
     | ret u =>
      obtain ⟨v, H', os, bare, un, ok', rv, qv⟩ := z
      have qv' : v = .bl true := qv
      subst qv'
      have eu : u = Value.bool true := rv
      subst eu
      refine ⟨rfl, OldK.of_keep (fun b ob e => ?_), os, bare⟩
      rcases only b with z | ⟨_, _, ob2, xs, z⟩
      · exact un.keep b ob e z (by intro y; exact absurd (show b ∈ ([] : List Addr) from y) (by simp)) (by simp)
      · have z2 := un.frzs b ob2 _ z
        have e1 := (ok b _ z).1
        have e2 := (ok' b _ z2).1
        rw [e] at e1; cases e1
        exact e2
  have big : ns.length ≤ sizeLine := Nat.le_trans short hn2
  cases hk : (Kp w.params).lookup a with
  | some ob =>
    have e := inK a ob hk
    rw [script] at e; cases e
    refine go (fun _ => none) (fun b u z => by cases z) (.inr ⟨_, vs.toArray, _, hk, rfl, rfl, rfl, ?_, ?_⟩) (fun b => .inl rfl)
    · rw [List.size_toArray, lens]; exact big
    · simpa using rel
  | none =>
    refine go (upd (fun _ => none) a (.frz { cls := .type "list", data := .seq vs.toArray } (.lst (ns.map V.int)))) (fun b u z => ?_) (.inl (.inr ⟨_, upd_same⟩)) (fun b => ?_)
    · by_cases hb : b = a
      · subst hb
        rw [upd_same] at z; cases z
        exact ⟨script, by rw [List.length_map]; exact big, vs, _, rel, script⟩
      · rw [upd_ne hb] at z; cases z
    · by_cases hb : b = a
      · subst hb
        exact .inr ⟨rfl, hk, _, _, upd_same⟩
      · exact .inl (upd_ne hb)
end
end Dh
end

/-! DiA -/
section
set_option Elab.async false
set_option linter.all false
set_option maxRecDepth 100000
set_option maxHeartbeats 4000000
namespace Dh
open PySem PySem.Spec PyProof.Rows L2

/-! ### isinstance(v, T), v data, T one of four -/
def tyD : PyData → Value
  | .none => .type "NoneType"
  | .bool _ => .type "bool"
  | .int _ => .type "int"
  | .str _ => .type "str"
  | .list _ => .type "list"
  | .tuple _ => .type "tuple"
  | .dict _ => .type "dict"
inductive Four : String → Prop
  | int : Four "int"
  | bool : Four "bool"
  | str : Four "str"
  | tuple : Four "tuple"
def isInt : PyData → Bool
  | .int _ => true
  | .bool _ => true
  | _ => false
def isBool : PyData → Bool
  | .bool _ => true
  | _ => false
def isStr : PyData → Bool
  | .str _ => true
  | _ => false
def isTup : PyData → Bool
  | .tuple _ => true
  | _ => false
inductive IsT : String → PyData → Bool → Prop
  | int (d : PyData) : IsT "int" d (isInt d)
  | bool (d : PyData) : IsT "bool" d (isBool d)
  | str (d : PyData) : IsT "str" d (isStr d)
  | tuple (d : PyData) : IsT "tuple" d (isTup d)
theorem At.tyx {K : PySem.W.Frag} {M : List Addr} {H : Hp} {v : V} {d : PyData} (h : At K M H v d) : TyX K H v (tyD d) := by
  cases h with
  | non => exact .base .non
  | bl b => exact .base (.bl b)
  | int i => exact .base (.int i)
  | str x => exact .base (.str x)
  | lst s _ _ =>
    rcases s with (e | ⟨o, e⟩) | ⟨o, its, n, hk, hc, _⟩
    · exact .base (.lst e)
    · exact .base (.frz e)
    · exact .kList hk hc
  | tup s _ _ =>
    rcases s with (e | ⟨o, e⟩) | ⟨o, its, n, hk, hc, _⟩
    · exact .base (.tup e)
    · exact .fTuple e
    · exact .kTuple hk hc
  | dic e _ _ => exact .base (.dK e)
theorem IsT.kit {K : PySem.W.Frag} {T : String} {d : PyData} {b : Bool} (h : IsT T d b) : PySem.W.kitOne K (tyD d) (.type T) = some b := by
  cases h <;> cases d <;> kernel_rfl
def rIsA (K : PySem.W.Frag) : List V → Hp → VK → Prop := fun xs H Q => ∃ (M : List Addr) (v : V) (d : PyData) (T : String) (b : Bool), xs = [v, .ty T] ∧ At K M H v d ∧ IsT T d b ∧ Q (.bl b) H
theorem call_isA {X : Cx} : CallR X (.builtin "isinstance") (rIsA X.K) := by
  intro pins s σ H xs us Q I r h
  obtain ⟨M, v, d, T, b, e, a, t, q⟩ := h
  exact call_isi pins s σ H xs us Q I r ⟨v, .ty T, _, _, b, e, .ty T, a.tyx, t.kit, q⟩
theorem Kp.at {H H1 : Hp} {b : Addr} {o : HO} (k : Kp [] H H1) (e : H b = some o) : H1 b = some o := k b o e (by simp)
theorem At.newT {K : PySem.W.Frag} {M : List Addr} {H1 : Hp} {a : Addr} {vs : List V} {ds : List PyData} (e : H1 a = some (.tup vs)) (n : a ∉ M) (h : AtL K M H1 vs ds) : At K M H1 (.ref a) (.tuple ds) := .tup (SqT.of e) n h
theorem At.ext {K : PySem.W.Frag} {M : List Addr} {H H1 : Hp} {v : V} {d : PyData} (k : Kp [] H H1) (h : At K M H v d) : At K M H1 v d := At.kp (k.more fun _ z => nomatch z) d h
theorem AtL.ext {K : PySem.W.Frag} {M : List Addr} {H H1 : Hp} {v : List V} {d : List PyData} (k : Kp [] H H1) (h : AtL K M H v d) : AtL K M H1 v d := AtL.kp (k.more fun _ z => nomatch z) d h
end Dh
end

/-! Px1 -/
section
set_option Elab.async false
set_option linter.all false
set_option maxRecDepth 100000
set_option maxHeartbeats 2000000
namespace Px
open PySem PySem.Spec PyProof.Rows L2 Dh

/-- what a slot or a value is, as data: data that never change from here on; an object of one's own; the object of slot i; a caller's object, read only; the deck; a value as it is -/
inductive D where
  | v (d : PyData)
  | own (d : PyData)
  | bor (i : Nat)
  | ro (d : PyData)
  | deck
  | raw (x : V)
abbrev Env := List (Option D)

/-! ### data in the heap, apart from W unless they are of the written part -/
def KL (K : PySem.W.Frag) (a : Addr) (xs : List V) : Prop :=
  ∃ (o : Obj) (its : Array Value) (n : Nat), K.lookup a = some o ∧ o.cls = .type "list" ∧ o.dict = none ∧ o.data = .seq its n ∧ its.size ≤ sizeLine ∧ Vals xs its.toList
def KT (K : PySem.W.Frag) (a : Addr) (xs : List V) : Prop :=
  ∃ (o : Obj) (its : Array Value) (n : Nat), K.lookup a = some o ∧ o.cls = .type "tuple" ∧ o.data = .seq its n ∧ its.size ≤ sizeLine ∧ Vals xs its.toList
abbrev AS := Addr → Prop
abbrev SS := L2.St
mutual
inductive Ac (K : PySem.W.Frag) (W : AS) (H : Hp) : V → PyData → Prop
  | non : Ac K W H .non .none
  | bl (b : Bool) : Ac K W H (.bl b) (.bool b)
  | int (i : Int) : Ac K W H (.int i) (.int i)
  | str (x : Str) : Ac K W H (.str x) (.str x)
  | lst {a : Addr} {xs : List V} {ds : List PyData} : H a = some (.lst xs) → ¬ W a → AcL K W H xs ds → Ac K W H (.ref a) (.list ds)
  | tup {a : Addr} {xs : List V} {ds : List PyData} : H a = some (.tup xs) → ¬ W a → AcL K W H xs ds → Ac K W H (.ref a) (.tuple ds)
  | tupK {a : Addr} {xs : List V} {ds : List PyData} : KT K a xs → AcL K W H xs ds → Ac K W H (.ref a) (.tuple ds)
  | dic {a : Addr} {kvs : List (Key × V)} {es : List (PyData × PyData)} : H a = some (.dK kvs) → ¬ W a → AcK K W H kvs es → Ac K W H (.ref a) (.dict es)
inductive AcL (K : PySem.W.Frag) (W : AS) (H : Hp) : List V → List PyData → Prop
  | nil : AcL K W H [] []
  | cons {v : V} {vs : List V} {d : PyData} {ds : List PyData} : Ac K W H v d → AcL K W H vs ds → AcL K W H (v :: vs) (d :: ds)
inductive AcK (K : PySem.W.Frag) (W : AS) (H : Hp) : List (Key × V) → List (PyData × PyData) → Prop
  | nil : AcK K W H [] []
  | cons {k : Key} {v : V} {kvs : List (Key × V)} {d : PyData} {es : List (PyData × PyData)} : Ac K W H v d → AcK K W H kvs es → AcK K W H ((k, v) :: kvs) ((keyD k, d) :: es)
end
/-- an object of one's own -/
inductive Ow (K : PySem.W.Frag) (W : AS) (H : Hp) (a : Addr) : PyData → Prop
  | lst {xs : List V} {ds : List PyData} : H a = some (.lst xs) → AcL K W H xs ds → Ow K W H a (.list ds)
  | dic {kvs : List (Key × V)} {es : List (PyData × PyData)} : H a = some (.dK kvs) → AcK K W H kvs es → Ow K W H a (.dict es)
/-- what can be read: data, or an object of one's own whose parts are data -/
def Rv (K : PySem.W.Frag) (W : AS) (H : Hp) (x : V) (d : PyData) : Prop := Ac K W H x d ∨ ∃ a, x = .ref a ∧ Ow K W H a d

/-- what stood apart from W stands apart from W' -/
def Tr (W : AS) (H : Hp) (W' : AS) (H' : Hp) : Prop := ∀ a u, H a = some u → ¬ W a → H' a = some u ∧ ¬ W' a
theorem Tr.refl (W : AS) (H : Hp) : Tr W H W H := fun _ _ a b => ⟨a, b⟩
theorem Tr.trans {W W1 W2 : AS} {H H1 H2 : Hp} (a : Tr W H W1 H1) (b : Tr W1 H1 W2 H2) : Tr W H W2 H2 := fun x u r n => b x u (a x u r n).1 (a x u r n).2
theorem Tr.less {W W' : AS} {H : Hp} (h : ∀ a, W' a → W a) : Tr W H W' H := fun _ _ r n => ⟨r, fun z => n (h _ z)⟩
section
variable {K : PySem.W.Frag} {W W' : AS} {H H' : Hp}
mutual
theorem Ac.tr (t : Tr W H W' H') : ∀ (d : PyData) {x : V}, Ac K W H x d → Ac K W' H' x d
  | .none, _, h => by cases h; exact .non
  | .bool b, _, h => by cases h; exact .bl b
  | .int i, _, h => by cases h; exact .int i
  | .str x, _, h => by cases h; exact .str x
  | .list ds, _, h => by
    cases h with
    | lst h1 h2 h3 => exact .lst (t _ _ h1 h2).1 (t _ _ h1 h2).2 (AcL.tr t ds h3)
  | .tuple ds, _, h => by
    cases h with
    | tup h1 h2 h3 => exact .tup (t _ _ h1 h2).1 (t _ _ h1 h2).2 (AcL.tr t ds h3)
    | tupK h1 h3 => exact .tupK h1 (AcL.tr t ds h3)
  | .dict es, _, h => by
    cases h with
    | dic h1 h2 h3 => exact .dic (t _ _ h1 h2).1 (t _ _ h1 h2).2 (AcK.tr t es h3)
theorem AcL.tr (t : Tr W H W' H') : ∀ (ds : List PyData) {xs : List V}, AcL K W H xs ds → AcL K W' H' xs ds
  | [], _, h => by cases h; exact .nil
  | d :: ds, _, h => by
    cases h with
    | cons h1 h2 => exact .cons (Ac.tr t d h1) (AcL.tr t ds h2)
theorem AcK.tr (t : Tr W H W' H') : ∀ (es : List (PyData × PyData)) {kvs : List (Key × V)}, AcK K W H kvs es → AcK K W' H' kvs es
  | [], _, h => by cases h; exact .nil
  | (_, d) :: es, _, h => by
    cases h with
    | cons h1 h2 => exact .cons (Ac.tr t d h1) (AcK.tr t es h2)
end
theorem Ow.tr (t : Tr W H W' H') {a : Addr} {d : PyData} (e : H' a = H a) (h : Ow K W H a d) : Ow K W' H' a d := by
  cases h with
  | lst h1 h2 => exact .lst (e.trans h1) (AcL.tr t _ h2)
  | dic h1 h2 => exact .dic (e.trans h1) (AcK.tr t _ h2)
theorem Ow.there {a : Addr} {d : PyData} (h : Ow K W H a d) : ∃ o, H a = some o := by
  cases h with
  | lst h1 _ => exact ⟨_, h1⟩
  | dic h1 _ => exact ⟨_, h1⟩
/-- an object of one's own becomes data -/
theorem Ow.ac {a : Addr} {d : PyData} (h : Ow K W H a d) (t : ∀ b, W' b → W b) (n : ¬ W' a) : Ac K W' H (.ref a) d := by
  cases h with
  | lst h1 h2 => exact .lst h1 n (AcL.tr (Tr.less t) _ h2)
  | dic h1 h2 => exact .dic h1 n (AcK.tr (Tr.less t) _ h2)
theorem AcL.len : ∀ {xs : List V} {ds : List PyData}, AcL K W H xs ds → xs.length = ds.length
  | _, _, .nil => rfl
  | _, _, .cons _ h => by simp [AcL.len h]
theorem AcL.app : ∀ {vs ws : List V} {ds es : List PyData}, AcL K W H vs ds → AcL K W H ws es → AcL K W H (vs ++ ws) (ds ++ es)
  | _, _, _, _, .nil, h => h
  | _, _, _, _, .cons a b, h => .cons a (AcL.app b h)
theorem AcL.snoc {vs : List V} {v : V} {ds : List PyData} {d : PyData} (h : AcL K W H vs ds) (k : Ac K W H v d) : AcL K W H (vs ++ [v]) (ds ++ [d]) := h.app (.cons k .nil)
theorem AcL.at : ∀ {vs : List V} {ds : List PyData}, AcL K W H vs ds → ∀ {i : Nat} {d : PyData}, ds[i]? = some d → ∃ v, vs[i]? = some v ∧ Ac K W H v d
  | _, _, .nil, _, _, e => by simp at e
  | _, _, .cons h _, 0, _, e => by
    simp at e; subst e
    exact ⟨_, rfl, h⟩
  | _, _, .cons _ h, i + 1, v, e => by
    obtain ⟨d, h1, h2⟩ := AcL.at h (i := i) (d := v) (by simpa using e)
    exact ⟨d, by simpa using h1, h2⟩
theorem AcL.tk : ∀ (n : Nat) {vs : List V} {ds : List PyData}, AcL K W H vs ds → AcL K W H (vs.take n) (ds.take n)
  | 0, _, _, _ => by simp; exact .nil
  | n + 1, _, _, .nil => .nil
  | n + 1, _, _, .cons a b => .cons a (AcL.tk n b)
theorem AcL.dr : ∀ (n : Nat) {vs : List V} {ds : List PyData}, AcL K W H vs ds → AcL K W H (vs.drop n) (ds.drop n)
  | 0, _, _, h => h
  | n + 1, _, _, .nil => .nil
  | n + 1, _, _, .cons a b => AcL.dr n b
theorem AcL.rev : ∀ {vs : List V} {ds : List PyData}, AcL K W H vs ds → AcL K W H vs.reverse ds.reverse
  | _, _, .nil => .nil
  | _, _, .cons a b => by rw [List.reverse_cons, List.reverse_cons]; exact (AcL.rev b).snoc a
theorem AcL.st : ∀ (n : Nat) {vs : List V} {ds : List PyData} {v : V} {d : PyData}, AcL K W H vs ds → Ac K W H v d → AcL K W H (vs.set n v) (ds.set n d)
  | _, _, _, _, _, .nil, _ => .nil
  | 0, _, _, _, _, .cons _ b, k => .cons k b
  | n + 1, _, _, _, _, .cons a b, k => .cons a (AcL.st n b k)
theorem Ac.sqL {a : Addr} {ds : List PyData} (h : Ac K W H (.ref a) (.list ds)) : ∃ xs, SqL K H a xs ∧ AcL K W H xs ds := by
  cases h with
  | lst h1 _ h3 => exact ⟨_, .inl (.inl h1), h3⟩
theorem Ac.sqT {a : Addr} {ds : List PyData} (h : Ac K W H (.ref a) (.tuple ds)) : ∃ xs, SqT K H a xs ∧ AcL K W H xs ds := by
  cases h with
  | tup h1 _ h3 => exact ⟨_, .inl (.inl h1), h3⟩
  | tupK h1 h3 => exact ⟨_, .inr h1, h3⟩
/-- what can be read as a list, a tuple -/
theorem Rv.lst0 {x : V} {ds : List PyData} (h : Rv K W H x (.list ds)) : ∃ a xs, x = .ref a ∧ H a = some (.lst xs) ∧ AcL K W H xs ds := by
  rcases h with h | ⟨a, rfl, h⟩
  · cases h with
    | lst h1 _ h3 => exact ⟨_, _, rfl, h1, h3⟩
  · cases h with
    | lst h1 h3 => exact ⟨_, _, rfl, h1, h3⟩
theorem Rv.lst {x : V} {ds : List PyData} (h : Rv K W H x (.list ds)) : ∃ a xs, x = .ref a ∧ SqL K H a xs ∧ AcL K W H xs ds := by
  obtain ⟨a, xs, e, h1, h2⟩ := h.lst0
  exact ⟨a, xs, e, .inl (.inl h1), h2⟩
theorem Rv.tup {x : V} {ds : List PyData} (h : Rv K W H x (.tuple ds)) : ∃ a xs, x = .ref a ∧ SqT K H a xs ∧ AcL K W H xs ds := by
  rcases h with h | ⟨a, rfl, h⟩
  · cases h with
    | tup h1 _ h3 => exact ⟨_, _, rfl, .inl (.inl h1), h3⟩
    | tupK h1 h3 => exact ⟨_, _, rfl, .inr h1, h3⟩
  · cases h
theorem Rv.int {x : V} {i : Int} (h : Rv K W H x (.int i)) : x = .int i := by
  rcases h with h | ⟨a, rfl, h⟩
  · cases h; rfl
  · cases h
theorem Rv.str {x : V} {i : Str} (h : Rv K W H x (.str i)) : x = .str i := by
  rcases h with h | ⟨a, rfl, h⟩
  · cases h; rfl
  · cases h
theorem Rv.bool {x : V} {i : Bool} (h : Rv K W H x (.bool i)) : x = .bl i := by
  rcases h with h | ⟨a, rfl, h⟩
  · cases h; rfl
  · cases h
theorem Rv.none {x : V} (h : Rv K W H x .none) : x = .non := by
  rcases h with h | ⟨a, rfl, h⟩
  · cases h; rfl
  · cases h
theorem Rv.dic {x : V} {es : List (PyData × PyData)} (h : Rv K W H x (.dict es)) : ∃ a kvs, x = .ref a ∧ H a = some (.dK kvs) ∧ AcK K W H kvs es := by
  rcases h with h | ⟨a, rfl, h⟩
  · cases h with
    | dic h1 _ h3 => exact ⟨_, _, rfl, h1, h3⟩
  · cases h with
    | dic h1 h3 => exact ⟨_, _, rfl, h1, h3⟩
theorem AcL.ints : ∀ (ls : List Int) {vs : List V}, AcL K W H vs (ls.map PyData.int) → vs = ls.map V.int
  | [], _, h => by cases h; rfl
  | x :: r, _, h => by
    cases h with
    | cons a b => cases a; rw [AcL.ints r b]; rfl
theorem AcL.strs : ∀ (ls : List Str) {vs : List V}, AcL K W H vs (ls.map PyData.str) → vs = ls.map V.str
  | [], _, h => by cases h; rfl
  | x :: r, _, h => by
    cases h with
    | cons a b => cases a; rw [AcL.strs r b]; rfl
theorem AcL.bools : ∀ (ls : List Bool) {vs : List V}, AcL K W H vs (ls.map PyData.bool) → vs = ls.map V.bl
  | [], _, h => by cases h; rfl
  | x :: r, _, h => by
    cases h with
    | cons a b => cases a; rw [AcL.bools r b]; rfl
theorem AcL.ofInts : ∀ (ls : List Int), AcL K W H (ls.map V.int) (ls.map PyData.int)
  | [] => .nil
  | x :: r => .cons (.int x) (AcL.ofInts r)
theorem AcL.ofStrs : ∀ (ls : List Str), AcL K W H (ls.map V.str) (ls.map PyData.str)
  | [] => .nil
  | x :: r => .cons (.str x) (AcL.ofStrs r)
end
end Px
end

/-! Px2 -/
section
set_option Elab.async false
set_option linter.all false
set_option maxRecDepth 100000
set_option maxHeartbeats 2000000
set_option autoImplicit false
namespace Px
open PySem PySem.Spec PyProof.Rows L2

/-! ### what is held: values of a row of expressions, and slots -/
abbrev Id := Nat ⊕ Nat
abbrev Ent := Id → Option (D × V)
def upE (e : Ent) (k : Id) (o : Option (D × V)) : Ent := fun j => if j = k then o else e j
theorem upE_same {e : Ent} {k : Id} {o : Option (D × V)} : upE e k o k = o := by unfold upE; rw [if_pos rfl]
theorem upE_ne {e : Ent} {k j : Id} {o : Option (D × V)} (h : j ≠ k) : upE e k o j = e j := by unfold upE; rw [if_neg h]
/-- the deck's keys that hold ints -/
class IK where
  ks : List Key
structure Cc where
  K : PySem.W.Frag
  M : AS
  U : List Addr
  H0 : Hp
  ik : List Key
abbrev kLeft : Key := .inr "left"
/-- the deck: a dict of ints, and its list of ints -/
def Dck (ik : List Key) (U : List Addr) (H : Hp) (dk : Addr) : Prop :=
  ∃ (lf : Addr) (kvs : List (Key × V)) (ls : List Int), U = [dk, lf] ∧ dk ≠ lf ∧ H dk = some (.dK kvs) ∧ kvs.length ≤ 10 ∧ valV kvs kLeft = some (.ref lf) ∧ (∀ k ∈ ik, ∃ m, valV kvs k = some (.int m)) ∧ H lf = some (.lst (ls.map V.int)) ∧ ls.length ≤ 63
inductive VOk (C : Cc) (W : AS) (σ : SS) (H : Hp) : D → V → Prop
  | v {d : PyData} {x : V} : Ac C.K W H x d → VOk C W σ H (.v d) x
  | own {d : PyData} {a : Addr} : Ow C.K W H a d → VOk C W σ H (.own d) (.ref a)
  | bor {i : Nat} {x : V} : σ[i]? = some (some x) → VOk C W σ H (.bor i) x
  | ro {d : PyData} {a : Addr} : Ow C.K W H a d → C.M a → a ∉ C.U → VOk C W σ H (.ro d) (.ref a)
  | deck {a : Addr} : Dck C.ik C.U H a → VOk C W σ H .deck (.ref a)
  | raw {x : V} : VOk C W σ H (.raw x) x
def WE (C : Cc) (e : Ent) : AS := fun a => C.M a ∨ ∃ k d, e k = some (.own d, .ref a)
structure RelE (C : Cc) (e : Ent) (σ : SS) (H : Hp) : Prop where
  ok : ∀ k d x, e k = some (d, x) → VOk C (WE C e) σ H d x
  inj : ∀ k j d d' a, e k = some (.own d, .ref a) → e j = some (.own d', .ref a) → k = j
  ap : ∀ k d a, e k = some (.own d, .ref a) → ¬ C.M a ∧ C.H0 a = none
  kp : Dh.Kp C.U C.H0 H
  tr : ∀ b, C.M b → ∃ o, H b = some o
  uM : ∀ b ∈ C.U, C.M b
  dk : ∀ a, Dck C.ik C.U C.H0 a → Dck C.ik C.U H a

theorem VOk.tr {C : Cc} {W W' : AS} {σ σ' : SS} {H H' : Hp} {d : D} {x : V} (t : Tr W H W' H') (hO : ∀ a, (∃ d', d = .own d' ∧ x = .ref a) ∨ (C.M a ∧ a ∉ C.U) → H' a = H a) (hd : ∀ dk, Dck C.ik C.U H dk → Dck C.ik C.U H' dk)
    (hs : ∀ (i : Nat) x, σ[i]? = some (some x) → σ'[i]? = some (some x)) (h : VOk C W σ H d x) : VOk C W' σ' H' d x := by
  cases h with
  | v h => exact .v (Ac.tr t _ h)
  | own h => exact .own (h.tr t (hO _ (.inl ⟨_, rfl, rfl⟩)))
  | bor h => exact .bor (hs _ _ h)
  | ro h m n => exact .ro (h.tr t (hO _ (.inr ⟨m, n⟩))) m n
  | deck h => exact .deck (hd _ h)
  | raw => exact .raw

section
variable {C : Cc} {e e' : Ent} {σ σ' : SS} {H H' : Hp}
/-- the same things at other places, or fewer -/
theorem RelE.re (R : RelE C e σ H) (φ : Id → Id) (h : ∀ k o, e' k = some o → e (φ k) = some o) (hi : ∀ k j, (e' k).isSome = true → (e' j).isSome = true → φ k = φ j → k = j) : RelE C e' σ H := by
  have w : ∀ a, WE C e' a → WE C e a := by
    rintro a (z | ⟨k, d, z⟩)
    · exact .inl z
    · exact .inr ⟨_, d, h _ _ z⟩
  refine ⟨fun k d x q => (R.ok _ _ _ (h _ _ q)).tr (Tr.less w) (fun _ _ => rfl) (fun _ z => z) (fun _ _ z => z), fun k j d d' a q q' => hi _ _ (by rw [q]; rfl) (by rw [q']; rfl) (R.inj _ _ _ _ _ (h _ _ q) (h _ _ q')), fun k d a q => R.ap _ _ _ (h _ _ q), R.kp, R.tr, R.uM, R.dk⟩
theorem RelE.sub (R : RelE C e σ H) (h : ∀ k o, e' k = some o → e k = some o) : RelE C e' σ H := R.re id h fun _ _ _ _ z => z
/-- the heap changes apart from one's own -/
theorem RelE.kept (R : RelE C e σ H) (k : Dh.Kp C.U H H') (hd : ∀ dk, Dck C.ik C.U H dk → Dck C.ik C.U H' dk) (hu : ∀ b ∈ C.U, ∃ o, H' b = some o) : RelE C e σ H' := by
  have t : Tr (WE C e) H (WE C e) H' := by
    intro a u r n
    have nu : a ∉ C.U := fun z => n (.inl (R.uM _ z))
    exact ⟨k _ _ r nu, n⟩
  refine ⟨fun j d x q => (R.ok _ _ _ q).tr t (fun a z => ?_) hd (fun _ _ z => z), R.inj, R.ap, R.kp.trans k, fun b hb => ?_, R.uM, fun a D => hd a (R.dk a D)⟩
  · have th : ∃ o, H a = some o := by
      rcases z with ⟨d', rfl, rfl⟩ | ⟨z, _⟩
      · cases R.ok _ _ _ q with
        | own h => exact h.there
      · exact R.tr _ z
    have nu : a ∉ C.U := by
      rcases z with ⟨d', rfl, rfl⟩ | ⟨_, z⟩
      · exact fun y => (R.ap _ _ _ q).1 (R.uM _ y)
      · exact z
    obtain ⟨o, ho⟩ := th
    rw [ho]; exact k _ _ ho nu
  · by_cases hu' : b ∈ C.U
    · exact hu b hu'
    · obtain ⟨o, ho⟩ := R.tr b hb
      exact ⟨o, k _ _ ho hu'⟩
theorem RelE.fresh (R : RelE C e σ H) {p : Addr} (hp : H p = none) : ¬ WE C e p ∧ C.H0 p = none := by
  have hm : ¬ C.M p := fun z => by
    obtain ⟨o, ho⟩ := R.tr p z
    rw [hp] at ho; cases ho
  constructor
  · rintro (z | ⟨k, d, z⟩)
    · exact hm z
    · cases R.ok _ _ _ z with
      | own h =>
        obtain ⟨o, ho⟩ := h.there
        rw [hp] at ho; cases ho
  · cases h : C.H0 p with
    | none => rfl
    | some o =>
      have := R.kp p o h fun z => hm (R.uM _ z)
      rw [hp] at this; cases this
theorem Dck.new {ik : List Key} {U : List Addr} {H : Hp} {dk p : Addr} {o : HO} (hp : H p = none) (D : Dck ik U H dk) : Dck ik U (upd H p o) dk := by
  obtain ⟨lf, kvs, ls, h1, h2, h3, h4, h5, h6, h7, h8⟩ := D
  exact ⟨lf, kvs, ls, h1, h2, by rw [upd_ne (ne_of_none h3 hp)]; exact h3, h4, h5, h6, by rw [upd_ne (ne_of_none h7 hp)]; exact h7, h8⟩
theorem Dck.off {ik : List Key} {U : List Addr} {H : Hp} {dk p : Addr} {o : HO} (hp : p ∉ U) (D : Dck ik U H dk) : Dck ik U (upd H p o) dk := by
  obtain ⟨lf, kvs, ls, h1, h2, h3, h4, h5, h6, h7, h8⟩ := D
  have n1 : dk ≠ p := fun z => hp (by rw [h1, ← z]; simp)
  have n2 : lf ≠ p := fun z => hp (by rw [h1, ← z]; simp)
  exact ⟨lf, kvs, ls, h1, h2, by rw [upd_ne n1]; exact h3, h4, h5, h6, by rw [upd_ne n2]; exact h7, h8⟩
theorem upd_there {H : Hp} {p b : Addr} {o : HO} (h : ∃ u, H b = some u) : ∃ u, upd H p o b = some u := by
  by_cases z : b = p
  · subst z; exact ⟨_, upd_same⟩
  · rw [upd_ne z]; exact h
/-- a new object that is nobody's own -/
theorem RelE.alloc (R : RelE C e σ H) {p : Addr} {o : HO} (hp : H p = none) : RelE C e σ (upd H p o) :=
  R.kept (Dh.Kp.new hp) (fun _ D => D.new hp) fun b hb => upd_there (R.tr b (R.uM b hb))
theorem WE.up_val {k : Id} {d : D} {x : V} (hk : e k = none) (hn : ∀ d', d ≠ .own d') : ∀ a, WE C (upE e k (some (d, x))) a ↔ WE C e a := by
  intro a
  constructor
  · rintro (z | ⟨j, d', z⟩)
    · exact .inl z
    · by_cases q : j = k
      · subst q; rw [upE_same] at z; cases z; exact absurd rfl (hn _)
      · rw [upE_ne q] at z; exact .inr ⟨_, _, z⟩
  · rintro (z | ⟨j, d', z⟩)
    · exact .inl z
    · have q : j ≠ k := fun y => by rw [y, hk] at z; cases z
      exact .inr ⟨j, d', by rw [upE_ne q]; exact z⟩
/-- a value more -/
theorem RelE.val (R : RelE C e σ H) {k : Id} {d : D} {x : V} (hk : e k = none) (hn : ∀ d', d ≠ .own d') (h : VOk C (WE C e) σ H d x) : RelE C (upE e k (some (d, x))) σ H := by
  have w := WE.up_val (C := C) (x := x) hk hn
  have own : ∀ j d' a, upE e k (some (d, x)) j = some (.own d', .ref a) → e j = some (.own d', .ref a) := by
    intro j d' a z
    by_cases q : j = k
    · subst q; rw [upE_same] at z; cases z; exact absurd rfl (hn _)
    · rw [upE_ne q] at z; exact z
  refine ⟨fun j d' x' q => ?_, fun _ _ _ _ _ q q' => R.inj _ _ _ _ _ (own _ _ _ q) (own _ _ _ q'), fun _ _ _ q => R.ap _ _ _ (own _ _ _ q), R.kp, R.tr, R.uM, R.dk⟩
  have t : Tr (WE C e) H (WE C (upE e k (some (d, x)))) H := Tr.less fun a z => (w a).mp z
  by_cases y : j = k
  · subst y; rw [upE_same] at q; cases q
    exact h.tr t (fun _ _ => rfl) (fun _ z => z) (fun _ _ z => z)
  · rw [upE_ne y] at q
    exact (R.ok _ _ _ q).tr t (fun _ _ => rfl) (fun _ z => z) (fun _ _ z => z)
/-- a new object of one's own -/
theorem RelE.mine (R : RelE C e σ H) {k : Id} {p : Addr} {o : HO} {d : PyData} (hk : e k = none) (hp : H p = none) (h : ∀ W H', Tr (WE C e) H W H' → H' p = some o → Ow C.K W H' p d) : RelE C (upE e k (some (.own d, .ref p))) σ (upd H p o) := by
  obtain ⟨nW, n0⟩ := R.fresh hp
  have t : Tr (WE C e) H (WE C (upE e k (some (.own d, .ref p)))) (upd H p o) := by
    intro a u r n
    have ne : a ≠ p := ne_of_none r hp
    refine ⟨by rw [upd_ne ne]; exact r, ?_⟩
    rintro (z | ⟨j, d', z⟩)
    · exact n (.inl z)
    · by_cases y : j = k
      · subst y; rw [upE_same] at z; cases z; exact ne rfl
      · rw [upE_ne y] at z; exact n (.inr ⟨_, _, z⟩)
  have base := R.alloc (o := o) hp
  refine ⟨fun j d' x q => ?_, fun i j d1 d2 a q q' => ?_, fun j d' a q => ?_, base.kp, base.tr, R.uM, base.dk⟩
  · by_cases y : j = k
    · subst y; rw [upE_same] at q; cases q
      exact .own (h _ _ t upd_same)
    · rw [upE_ne y] at q
      refine (R.ok _ _ _ q).tr t (fun a z => upd_ne ?_) (fun _ D => D.new hp) (fun _ _ z => z)
      rcases z with ⟨d1, rfl, rfl⟩ | ⟨z, _⟩
      · exact fun y => nW (.inr ⟨j, d1, by rw [← y]; exact q⟩)
      · exact fun y => nW (.inl (by rw [← y]; exact z))
  · by_cases y : i = k
    · by_cases y' : j = k
      · rw [y, y']
      · subst y; rw [upE_same] at q; cases q
        rw [upE_ne y'] at q'
        exact absurd (.inr ⟨_, _, q'⟩) nW
    · rw [upE_ne y] at q
      by_cases y' : j = k
      · subst y'; rw [upE_same] at q'; cases q'
        exact absurd (.inr ⟨_, _, q⟩) nW
      · rw [upE_ne y'] at q'
        exact R.inj _ _ _ _ _ q q'
  · by_cases y : j = k
    · subst y; rw [upE_same] at q; cases q
      exact ⟨fun z => nW (.inl z), n0⟩
    · rw [upE_ne y] at q
      exact R.ap _ _ _ q
/-- an object of one's own is one's own no more: it stays as it is -/
theorem RelE.frz (R : RelE C e σ H) {k : Id} {d : PyData} {x : V} (hk : e k = some (.own d, x)) : RelE C (upE e k (some (.v d, x))) σ H := by
  obtain ⟨a, rfl⟩ : ∃ a, x = .ref a := by cases R.ok _ _ _ hk with | own h => exact ⟨_, rfl⟩
  have own : ∀ j d' b, upE e k (some (.v d, .ref a)) j = some (.own d', .ref b) → j ≠ k ∧ e j = some (.own d', .ref b) := by
    intro j d' b z
    by_cases q : j = k
    · subst q; rw [upE_same] at z; cases z
    · rw [upE_ne q] at z; exact ⟨q, z⟩
  have w : ∀ b, WE C (upE e k (some (.v d, .ref a))) b → WE C e b := by
    rintro b (z | ⟨j, d', z⟩)
    · exact .inl z
    · exact .inr ⟨_, _, (own _ _ _ z).2⟩
  have na : ¬ WE C (upE e k (some (.v d, .ref a))) a := by
    rintro (z | ⟨j, d', z⟩)
    · exact (R.ap _ _ _ hk).1 z
    · obtain ⟨q, z⟩ := own _ _ _ z
      exact q (R.inj _ _ _ _ _ z hk)
  refine ⟨fun j d' x' q => ?_, fun _ _ _ _ _ q q' => R.inj _ _ _ _ _ (own _ _ _ q).2 (own _ _ _ q').2, fun _ _ _ q => R.ap _ _ _ (own _ _ _ q).2, R.kp, R.tr, R.uM, R.dk⟩
  by_cases y : j = k
  · subst y; rw [upE_same] at q; cases q
    cases R.ok _ _ _ hk with
    | own h => exact .v (h.ac w na)
  · rw [upE_ne y] at q
    exact (R.ok _ _ _ q).tr (Tr.less w) (fun _ _ => rfl) (fun _ z => z) (fun _ _ z => z)
/-- an object of one's own is changed -/
theorem RelE.put (R : RelE C e σ H) {k : Id} {d d' : PyData} {a : Addr} {o : HO} (hk : e k = some (.own d, .ref a)) (h : ∀ W H', Tr (WE C e) H W H' → H' a = some o → Ow C.K W H' a d') : RelE C (upE e k (some (.own d', .ref a))) σ (upd H a o) := by
  have aM := (R.ap _ _ _ hk).1
  have aU : a ∉ C.U := fun z => aM (R.uM _ z)
  have th : ∃ u, H a = some u := by cases R.ok _ _ _ hk with | own h => exact h.there
  have back : ∀ j d1 b, upE e k (some (.own d', .ref a)) j = some (.own d1, .ref b) → ∃ d2, e j = some (.own d2, .ref b) := by
    intro j d1 b z
    by_cases q : j = k
    · subst q; rw [upE_same] at z; cases z; exact ⟨_, hk⟩
    · rw [upE_ne q] at z; exact ⟨_, z⟩
  have w : ∀ b, WE C (upE e k (some (.own d', .ref a))) b → WE C e b := by
    rintro b (z | ⟨j, d1, z⟩)
    · exact .inl z
    · obtain ⟨_, z⟩ := back _ _ _ z
      exact .inr ⟨_, _, z⟩
  have t : Tr (WE C e) H (WE C (upE e k (some (.own d', .ref a)))) (upd H a o) := by
    intro b u r n
    have ne : b ≠ a := fun z => n (.inr ⟨k, d, by rw [z]; exact hk⟩)
    exact ⟨by rw [upd_ne ne]; exact r, fun z => n (w _ z)⟩
  refine ⟨fun j d1 x q => ?_, fun i j d1 d2 b q q' => ?_, fun j d1 b q => ?_, ?_, fun b hb => upd_there (R.tr b hb), R.uM, fun a D => (R.dk a D).off aU⟩
  · by_cases y : j = k
    · subst y; rw [upE_same] at q; cases q
      exact .own (h _ _ t upd_same)
    · rw [upE_ne y] at q
      refine (R.ok _ _ _ q).tr t (fun b z => upd_ne ?_) (fun _ D => D.off aU) (fun _ _ z => z)
      rcases z with ⟨d1, rfl, rfl⟩ | ⟨z, _⟩
      · exact fun e1 => y (R.inj _ _ _ _ _ (by rw [← e1]; exact q) hk)
      · exact fun e1 => aM (by rw [← e1]; exact z)
  · obtain ⟨_, q⟩ := back _ _ _ q
    obtain ⟨_, q'⟩ := back _ _ _ q'
    exact R.inj _ _ _ _ _ q q'
  · obtain ⟨_, q⟩ := back _ _ _ q
    exact R.ap _ _ _ q
  · intro b u hb hn
    have ne : b ≠ a := fun z => by
      have := (R.ap _ _ _ hk).2
      rw [← z, hb] at this; cases this
    rw [upd_ne ne]
    exact R.kp b u hb hn
/-- the slots' values change, where none is held by its slot -/
theorem RelE.sig (R : RelE C e σ H) (h : ∀ k i x, e k ≠ some (.bor i, x)) : RelE C e σ' H :=
  ⟨fun k d x q => by
    cases R.ok _ _ _ q with
    | v z => exact .v z
    | own z => exact .own z
    | bor z => exact absurd q (h _ _ _)
    | ro z m n => exact .ro z m n
    | deck z => exact .deck z
    | raw => exact .raw, R.inj, R.ap, R.kp, R.tr, R.uM, R.dk⟩
end

/-! ### over the slots -/
abbrev Fr := Nat → Option (D × V)
def upF (f : Fr) (n : Nat) (o : Option (D × V)) : Fr := fun m => if m = n then o else f m
def slotE : Option (Option D) → Option (Option V) → Option (D × V)
  | some (some d), some (some x) => some (d, x)
  | _, _ => none
def ent (f : Fr) (Γ : Env) (σ : SS) : Ent
  | .inl n => f n
  | .inr i => slotE Γ[i]? σ[i]?
def Off (f : Fr) (n : Nat) : Prop := ∀ m, n ≤ m → f m = none
theorem Off.up {f : Fr} {n : Nat} {o : Option (D × V)} (h : Off f n) : Off (upF f n o) (n + 1) := fun m hm => by
  unfold upF; rw [if_neg (by omega)]; exact h m (by omega)
structure Rel (C : Cc) (f : Fr) (Γ : Env) (σ : SS) (H : Hp) : Prop where
  e : RelE C (ent f Γ σ) σ H
  len : Γ.length = σ.length
  full : ∀ (i : Nat) d, Γ[i]? = some (some d) → ∃ x, σ[i]? = some (some x)
  nb : ∀ i j : Nat, Γ[i]? ≠ some (some (.bor j))
theorem ent_up {f : Fr} {n : Nat} {o : Option (D × V)} {Γ : Env} {σ : SS} : ent (upF f n o) Γ σ = upE (ent f Γ σ) (.inl n) o := by
  funext k
  cases k with
  | inl m =>
    by_cases h : m = n
    · subst h; rw [upE_same]; show upF f m o m = o; unfold upF; rw [if_pos rfl]
    · rw [upE_ne (fun z => h (Sum.inl.inj z))]
      show upF f n o m = f m
      unfold upF; rw [if_neg h]
  | inr i => rw [upE_ne (fun z => by cases z)]; rfl
theorem slotE_some {a : Option (Option D)} {b : Option (Option V)} {d : D} {x : V} (h : slotE a b = some (d, x)) : a = some (some d) ∧ b = some (some x) := by
  unfold slotE at h
  split at h
  · cases h; exact ⟨rfl, rfl⟩
  · cases h
theorem ent_set {f : Fr} {Γ : Env} {σ : SS} {i : Nat} {d : D} {x : V} (l : Γ.length = σ.length) (h : i < Γ.length) : ent f (Γ.set i (some d)) (σ.set i (some x)) = upE (ent f Γ σ) (.inr i) (some (d, x)) := by
  funext k
  cases k with
  | inl m => rw [upE_ne (fun z => by cases z)]; rfl
  | inr j =>
    by_cases q : j = i
    · subst q
      rw [upE_same]
      show slotE (Γ.set j (some d))[j]? (σ.set j (some x))[j]? = _
      rw [List.getElem?_set_self h, List.getElem?_set_self (by omega)]; rfl
    · rw [upE_ne (fun z => q (Sum.inr.inj z))]
      show slotE (Γ.set i (some d))[j]? (σ.set i (some x))[j]? = slotE Γ[j]? σ[j]?
      rw [List.getElem?_set_ne (fun z => q z.symm), List.getElem?_set_ne (fun z => q z.symm)]
/-- only what is told of a slot changes -/
theorem ent_tell {f : Fr} {Γ : Env} {σ : SS} {i : Nat} {d : D} {x : V} (h : i < Γ.length) (hx : σ[i]? = some (some x)) : ent f (Γ.set i (some d)) σ = upE (ent f Γ σ) (.inr i) (some (d, x)) := by
  funext k
  cases k with
  | inl m => rw [upE_ne (fun z => by cases z)]; rfl
  | inr j =>
    by_cases q : j = i
    · subst q
      rw [upE_same]
      show slotE (Γ.set j (some d))[j]? σ[j]? = _
      rw [List.getElem?_set_self h, hx]; rfl
    · rw [upE_ne (fun z => q (Sum.inr.inj z))]
      show slotE (Γ.set i (some d))[j]? σ[j]? = slotE Γ[j]? σ[j]?
      rw [List.getElem?_set_ne (fun z => q z.symm)]
section
variable {C : Cc} {f : Fr} {Γ : Env} {σ : SS} {H H' : Hp} {n : Nat} {d : PyData} {x : V} {o : Option (D × V)}
theorem Rel.at (R : Rel C f Γ σ H) {i : Nat} {d : D} (h : Γ[i]? = some (some d)) : ∃ x, σ[i]? = some (some x) ∧ ent f Γ σ (.inr i) = some (d, x) := by
  obtain ⟨x, hx⟩ := R.full i d h
  refine ⟨x, hx, ?_⟩
  show slotE Γ[i]? σ[i]? = _
  rw [h, hx]; rfl
theorem Rel.kept (R : Rel C f Γ σ H) (k : Dh.Kp C.U H H') (hd : ∀ dk, Dck C.ik C.U H dk → Dck C.ik C.U H' dk) (hu : ∀ b ∈ C.U, ∃ o, H' b = some o) : Rel C f Γ σ H' := ⟨R.e.kept k hd hu, R.len, R.full, R.nb⟩
theorem Rel.alloc (R : Rel C f Γ σ H) {p : Addr} {o : HO} (hp : H p = none) : Rel C f Γ σ (upd H p o) := ⟨R.e.alloc hp, R.len, R.full, R.nb⟩
theorem upF_same {o : Option (D × V)} : upF f n o n = o := by unfold upF; rw [if_pos rfl]
/-- a value is held -/
theorem Rel.hold (R : Rel C f Γ σ H) (hf : Off f n) {d : D} {x : V} (hn : ∀ d', d ≠ .own d') (h : VOk C (WE C (ent f Γ σ)) σ H d x) : Rel C (upF f n (some (d, x))) Γ σ H :=
  ⟨by rw [ent_up]; exact R.e.val (hf n (Nat.le_refl _)) hn h, R.len, R.full, R.nb⟩
theorem Rel.holdV (R : Rel C f Γ σ H) (hf : Off f n) {d : PyData} {x : V} (h : Ac C.K (WE C (ent f Γ σ)) H x d) : Rel C (upF f n (some (.v d, x))) Γ σ H :=
  R.hold hf (fun _ z => by cases z) (.v h)
/-- a new object of one's own is held -/
theorem Rel.mine (R : Rel C f Γ σ H) (hf : Off f n) {p : Addr} {o : HO} {d : PyData} (hp : H p = none) (h : ∀ W H', Tr (WE C (ent f Γ σ)) H W H' → H' p = some o → Ow C.K W H' p d) : Rel C (upF f n (some (.own d, .ref p))) Γ σ (upd H p o) :=
  ⟨by rw [ent_up]; exact R.e.mine (hf n (Nat.le_refl _)) hp h, R.len, R.full, R.nb⟩
theorem ent_held {o : Option (D × V)} : ent (upF f n o) Γ σ (.inl n) = o := by rw [ent_up, upE_same]
/-- what is held is let go -/
theorem Rel.drop (R : Rel C (upF f n o) Γ σ H) (hf : Off f n) : Rel C f Γ σ H :=
  ⟨R.e.sub fun k u q => by
    rw [ent_up]
    have ne : k ≠ .inl n := fun z => by
      rw [z] at q
      have : f n = some u := q
      rw [hf n (Nat.le_refl _)] at this; cases this
    rw [upE_ne ne]; exact q, R.len, R.full, R.nb⟩
theorem WE.drop {o : Option (D × V)} (hf : Off f n) {a : Addr} (h : WE C (ent f Γ σ) a) : WE C (ent (upF f n o) Γ σ) a := by
  rcases h with h | ⟨k, d, h⟩
  · exact .inl h
  · refine .inr ⟨k, d, ?_⟩
    rw [ent_up]
    have ne : k ≠ .inl n := fun z => by
      rw [z] at h
      have : f n = some _ := h
      rw [hf n (Nat.le_refl _)] at this; cases this
    rw [upE_ne ne]; exact h
theorem Rel.heldV (R : Rel C (upF f n (some (.v d, x))) Γ σ H) : Ac C.K (WE C (ent (upF f n (some (.v d, x))) Γ σ)) H x d := by
  cases R.e.ok (.inl n) _ _ ent_held with
  | v h => exact h
theorem upF_upF {o o' : Option (D × V)} : upF (upF f n o) n o' = upF f n o' := by
  funext m; unfold upF; split <;> rfl
/-- what is held of one's own becomes data -/
theorem Rel.frzHeld (R : Rel C (upF f n (some (.own d, x))) Γ σ H) : Rel C (upF f n (some (.v d, x))) Γ σ H := by
  have := R.e.frz (k := .inl n) ent_held
  rw [← ent_up, upF_upF] at this
  exact ⟨this, R.len, R.full, R.nb⟩
theorem set_full {Γ : Env} {σ : SS} {i : Nat} {d : D} {x : V} (l : Γ.length = σ.length) (hf : ∀ (i : Nat) d, Γ[i]? = some (some d) → ∃ x, σ[i]? = some (some x)) (j : Nat) (d' : D) (h : (Γ.set i (some d))[j]? = some (some d')) : ∃ x', (σ.set i (some x))[j]? = some (some x') := by
  by_cases q : i = j
  · subst q
    have hl : i < Γ.length := by
      rcases Nat.lt_or_ge i Γ.length with h' | h'
      · exact h'
      · rw [List.getElem?_eq_none (by simpa using h')] at h; cases h
    exact ⟨x, by rw [List.getElem?_set_self (by omega)]⟩
  · rw [List.getElem?_set_ne q] at h ⊢
    exact hf j d' h
theorem tell_full {Γ : Env} {σ : SS} {i : Nat} {d : D} {x : V} (hx : σ[i]? = some (some x)) (hf : ∀ (i : Nat) d, Γ[i]? = some (some d) → ∃ x, σ[i]? = some (some x)) (j : Nat) (d' : D) (h : (Γ.set i (some d))[j]? = some (some d')) : ∃ x', σ[j]? = some (some x') := by
  by_cases q : i = j
  · subst q; exact ⟨x, hx⟩
  · rw [List.getElem?_set_ne q] at h
    exact hf j d' h
theorem set_nb {Γ : Env} {i : Nat} {d : D} (hd : ∀ j, d ≠ .bor j) (h : ∀ i j : Nat, Γ[i]? ≠ some (some (.bor j))) (k j : Nat) : (Γ.set i (some d))[k]? ≠ some (some (.bor j)) := by
  by_cases q : i = k
  · subst q
    intro z
    have hl : i < Γ.length := by
      rcases Nat.lt_or_ge i Γ.length with h' | h'
      · exact h'
      · rw [List.getElem?_eq_none (by simpa using h')] at z; cases z
    rw [List.getElem?_set_self hl] at z
    exact hd j (Option.some.inj (Option.some.inj z))
  · rw [List.getElem?_set_ne q]; exact h k j
/-- the object of a slot becomes data -/
theorem Rel.frzSlot (R : Rel C f Γ σ H) {i : Nat} (h : Γ[i]? = some (some (.own d))) : Rel C f (Γ.set i (some (.v d))) σ H := by
  obtain ⟨x, hx, he⟩ := R.at h
  have hl : i < Γ.length := (List.getElem?_eq_some_iff.mp h).1
  exact ⟨by rw [ent_tell hl hx]; exact R.e.frz he, by rw [List.length_set]; exact R.len, tell_full hx R.full, set_nb (fun _ z => by cases z) R.nb⟩
/-- the object of a slot is changed -/
theorem Rel.put (R : Rel C f Γ σ H) {i : Nat} {a : Addr} {d d' : PyData} {o : HO} (h : Γ[i]? = some (some (.own d))) (hx : σ[i]? = some (some (.ref a))) (k : ∀ W H', Tr (WE C (ent f Γ σ)) H W H' → H' a = some o → Ow C.K W H' a d') :
    Rel C f (Γ.set i (some (.own d'))) σ (upd H a o) := by
  have hl : i < Γ.length := (List.getElem?_eq_some_iff.mp h).1
  have he : ent f Γ σ (.inr i) = some (.own d, .ref a) := by
    show slotE Γ[i]? σ[i]? = _
    rw [h, hx]; rfl
  exact ⟨by rw [ent_tell hl hx]; exact R.e.put he k, by rw [List.length_set]; exact R.len, tell_full hx R.full, set_nb (fun _ z => by cases z) R.nb⟩
def NoBor (f : Fr) : Prop := ∀ m i x, f m ≠ some (.bor i, x)
/-- what is held goes into a slot -/
theorem Rel.toSlot {d : D} (R : Rel C (upF f n (some (d, x))) Γ σ H) (hf : Off f n) (nb : NoBor f) (hd : ∀ j, d ≠ .bor j) {i : Nat} (hi : i < Γ.length) : Rel C f (Γ.set i (some d)) (σ.set i (some x)) H := by
  refine ⟨?_, by rw [List.length_set, List.length_set]; exact R.len, set_full R.len R.full, set_nb hd R.nb⟩
  rw [ent_set R.len hi]
  have R1 : RelE C (upE (ent f Γ σ) (.inr i) (some (d, x))) σ H := by
    refine R.e.re (fun k => if k = .inr i then .inl n else k) (fun k o q => ?_) (fun k j q q' z => ?_)
    · by_cases h : k = .inr i
      · subst h
        rw [upE_same] at q
        rw [if_pos rfl, ent_held]; exact q
      · rw [upE_ne h] at q
        rw [if_neg h, ent_up]
        have ne : k ≠ .inl n := fun z => by
          rw [z] at q
          have : f n = some o := q
          rw [hf n (Nat.le_refl _)] at this; cases this
        rw [upE_ne ne]; exact q
    · have ne : ∀ k, (upE (ent f Γ σ) (.inr i) (some (d, x)) k).isSome = true → k ≠ .inl n := by
        intro k q z
        subst z
        rw [upE_ne (fun z => by cases z)] at q
        have : (f n).isSome = true := q
        rw [hf n (Nat.le_refl _)] at this; cases this
      by_cases h : k = .inr i
      · by_cases h' : j = .inr i
        · rw [h, h']
        · rw [if_pos h, if_neg h'] at z
          exact absurd z.symm (ne j q')
      · by_cases h' : j = .inr i
        · rw [if_neg h, if_pos h'] at z
          exact absurd z (ne k q)
        · rwa [if_neg h, if_neg h'] at z
  refine R1.sig fun k j y q => ?_
  by_cases h : k = .inr i
  · subst h; rw [upE_same] at q
    exact hd j (Prod.mk.inj (Option.some.inj q)).1
  · rw [upE_ne h] at q
    cases k with
    | inl m => exact nb m j y q
    | inr m => exact R.nb m j (slotE_some q).1
/-- a slot is emptied -/
theorem Rel.wipe (R : Rel C f Γ σ H) (nb : NoBor f) (i : Nat) {o : Option V} : Rel C f (Γ.set i none) (σ.set i o) H := by
  refine ⟨?_, by rw [List.length_set, List.length_set]; exact R.len, fun j d' h => ?_, fun k j h => ?_⟩
  · refine RelE.sig (σ := σ) (R.e.sub fun k u q => ?_) fun k j y q => ?_
    · cases k with
      | inl m => exact q
      | inr j =>
        have q' : slotE (Γ.set i none)[j]? (σ.set i o)[j]? = some u := q
        by_cases h : i = j
        · subst h
          obtain ⟨d, x⟩ := u
          have := (slotE_some q').1
          by_cases hl : i < Γ.length
          · rw [List.getElem?_set_self hl] at this; cases this
          · rw [List.getElem?_eq_none (by simpa using hl)] at this; cases this
        · rw [List.getElem?_set_ne h, List.getElem?_set_ne h] at q'
          exact q'
    · cases k with
      | inl m => exact nb m j y q
      | inr m =>
        have := (slotE_some q).1
        by_cases h : i = m
        · subst h
          by_cases hl : i < Γ.length
          · rw [List.getElem?_set_self hl] at this; cases this
          · rw [List.getElem?_eq_none (by simpa using hl)] at this; cases this
        · rw [List.getElem?_set_ne h] at this
          exact R.nb m j this
  · by_cases q : i = j
    · subst q
      by_cases hl : i < Γ.length
      · rw [List.getElem?_set_self hl] at h; cases h
      · rw [List.getElem?_eq_none (by simpa using hl)] at h; cases h
    · rw [List.getElem?_set_ne q] at h ⊢
      exact R.full j d' h
  · by_cases q : i = k
    · subst q
      by_cases hl : i < Γ.length
      · rw [List.getElem?_set_self hl] at h; cases h
      · rw [List.getElem?_eq_none (by simpa using hl)] at h; cases h
    · rw [List.getElem?_set_ne q] at h
      exact R.nb k j h
/-- what a value stands for -/
def res (Γ : Env) : D → Option PyData
  | .v d => some d
  | .own d => some d
  | .ro d => some d
  | .bor i => match Γ[i]? with
    | some (some (.own d)) => some d
    | some (some (.v d)) => some d
    | _ => none
  | _ => none
theorem Rel.rv (R : Rel C f Γ σ H) {k : Id} {r : D} {x : V} {d : PyData} (h : ent f Γ σ k = some (r, x)) (hr : res Γ r = some d) : Rv C.K (WE C (ent f Γ σ)) H x d := by
  cases R.e.ok _ _ _ h with
  | v z => cases hr; exact .inl z
  | own z => cases hr; exact .inr ⟨_, rfl, z⟩
  | ro z m n => cases hr; exact .inr ⟨_, rfl, z⟩
  | deck => cases hr
  | raw => cases hr
  | @bor i _ z =>
    unfold res at hr
    simp only at hr
    split at hr
    · rename_i d' hg
      cases hr
      obtain ⟨y, hy, he⟩ := R.at hg
      rw [z] at hy; cases hy
      cases R.e.ok _ _ _ he with
      | own w => exact .inr ⟨_, rfl, w⟩
    · rename_i d' hg
      cases hr
      obtain ⟨y, hy, he⟩ := R.at hg
      rw [z] at hy; cases hy
      cases R.e.ok _ _ _ he with
      | v w => exact .inl w
    · cases hr
end
end Px
end

/-! Px3 -/
section
set_option Elab.async false
set_option linter.all false
set_option maxRecDepth 100000
set_option maxHeartbeats 2000000
set_option autoImplicit false
namespace Px
open PySem PySem.Spec PyProof.Rows L2

/-! ### readings over data -/
abbrev PX := Env → (D → Env → Prop) → Prop
abbrev PXT := Env → (Bool → Env → Prop) → Prop
abbrev PXR := Env → (List PyData → Env → Prop) → Prop
abbrev PXP := Env → (List D → Env → Prop) → Prop
structure PEnds where
  nx : Env → Prop
  rt : D → Prop
  bk : Env → Prop := fun _ => False
  ct : Env → Prop := fun _ => False
abbrev PXS := Env → PEnds → Prop

def DE (C : Cc) (t : TE) (w : PX) : Prop := ∀ (n : Nat) (f : Fr) (Γ : Env) (σ : SS) (H : Hp) (Q : VK) (Φ : D → Env → Prop), Off f n → Rel C f Γ σ H → w Γ Φ →
  (∀ r x Γ' H', Φ r Γ' → Rel C (upF f n (some (r, x))) Γ' σ H' → Q x H') → t σ H Q
def DT (C : Cc) (t : TT) (w : PXT) : Prop := ∀ (n : Nat) (f : Fr) (Γ : Env) (σ : SS) (H : Hp) (Q : Bool → Hp → Prop) (Φ : Bool → Env → Prop), Off f n → Rel C f Γ σ H → w Γ Φ →
  (∀ b Γ' H', Φ b Γ' → Rel C f Γ' σ H' → Q b H') → t σ H Q
inductive RvL (K : PySem.W.Frag) (W : AS) (H : Hp) : List V → List PyData → Prop
  | nil : RvL K W H [] []
  | cons {x : V} {xs : List V} {d : PyData} {ds : List PyData} : Rv K W H x d → RvL K W H xs ds → RvL K W H (x :: xs) (d :: ds)
/-- arguments that are read -/
def DR (C : Cc) (t : TA) (w : PXR) : Prop := ∀ (n : Nat) (f : Fr) (Γ : Env) (σ : SS) (H : Hp) (Q : List V → Hp → Prop) (Φ : List PyData → Env → Prop), Off f n → Rel C f Γ σ H → w Γ Φ →
  (∀ ds xs Γ' H', Φ ds Γ' → Rel C f Γ' σ H' → RvL C.K (WE C (ent f Γ' σ)) H' xs ds → Q xs H') → t σ H Q
/-- arguments that are kept as data -/
def DV (C : Cc) (t : TA) (w : PXR) : Prop := ∀ (n : Nat) (f : Fr) (Γ : Env) (σ : SS) (H : Hp) (Q : List V → Hp → Prop) (Φ : List PyData → Env → Prop), Off f n → Rel C f Γ σ H → w Γ Φ →
  (∀ ds xs Γ' H', Φ ds Γ' → Rel C f Γ' σ H' → AcL C.K (WE C (ent f Γ' σ)) H' xs ds → Q xs H') → t σ H Q
/-- what a def of one's own is called with -/
inductive PassOk (K : PySem.W.Frag) (U : List Addr) (ik : List Key) (W : AS) (H : Hp) : D → V → Prop
  | v {d : PyData} {x : V} : Ac K W H x d → PassOk K U ik W H (.v d) x
  | ro {d : PyData} {a : Addr} : Ow K W H a d → W a → a ∉ U → PassOk K U ik W H (.ro d) (.ref a)
  | deck {a : Addr} : Dck ik U H a → PassOk K U ik W H .deck (.ref a)
  | raw {x : V} : PassOk K U ik W H (.raw x) x
inductive PassL (K : PySem.W.Frag) (U : List Addr) (ik : List Key) (W : AS) (H : Hp) : List D → List V → Prop
  | nil : PassL K U ik W H [] []
  | cons {d : D} {x : V} {ds : List D} {xs : List V} : PassOk K U ik W H d x → PassL K U ik W H ds xs → PassL K U ik W H (d :: ds) (x :: xs)
def DP (C : Cc) (t : TA) (w : PXP) : Prop := ∀ (n : Nat) (f : Fr) (Γ : Env) (σ : SS) (H : Hp) (Q : List V → Hp → Prop) (Φ : List D → Env → Prop), Off f n → Rel C f Γ σ H → w Γ Φ →
  (∀ ds xs Γ' H', Φ ds Γ' → Rel C f Γ' σ H' → PassL C.K C.U C.ik (WE C (ent f Γ' σ)) H' ds xs → Q xs H') → t σ H Q
structure Fits (C : Cc) (n : Nat) (f : Fr) (σ0 : SS) (Φ : PEnds) (D : Ends) : Prop where
  nx : ∀ Γ σ H, Φ.nx Γ → Rel C f Γ σ H → D.nx σ H
  rt : ∀ r x Γ σ H, Φ.rt r → Rel C (upF f n (some (r, x))) Γ σ H → D.rt x H
  bk : ∀ Γ σ H, Φ.bk Γ → Rel C f Γ σ H → D.bk σ H
  ct : ∀ Γ σ H, Φ.ct Γ → Rel C f Γ σ H → D.ct σ H
def DS (C : Cc) (t : TS) (w : PXS) : Prop := ∀ (n : Nat) (f : Fr) (Γ : Env) (σ : SS) (H : Hp) (D : Ends) (Φ : PEnds), Off f n → NoBor f → Rel C f Γ σ H → w Γ Φ → Fits C n f σ Φ D → t D σ H

structure Cok [IK] (C : Cc) (X : Cx) : Prop where
  k : C.K = X.K
  i : C.ik = IK.ks
section
variable {X : Cx} [IK]
def XE (X : Cx) (e : Expr) (t : TE) (w : PX) : Prop := PE X e t ∧ ∀ C : Cc, Cok C X → DE C t w
def XT (X : Cx) (e : Expr) (t : TT) (w : PXT) : Prop := PT X e t ∧ ∀ C : Cc, Cok C X → DT C t w
def XW (X : Cx) (e : Expr) (t : TT) (w : PXT) : Prop := PW X e t ∧ ∀ C : Cc, Cok C X → DT C t w
def XR (X : Cx) (es : List Expr) (t : TA) (w : PXR) : Prop := PA X es t ∧ ∀ C : Cc, Cok C X → DR C t w
def XV (X : Cx) (es : List Expr) (t : TA) (w : PXR) : Prop := PA X es t ∧ ∀ C : Cc, Cok C X → DV C t w
def XP (X : Cx) (es : List Expr) (t : TA) (w : PXP) : Prop := PA X es t ∧ ∀ C : Cc, Cok C X → DP C t w
def XS (X : Cx) (st : Stmt) (t : TS) (w : PXS) : Prop := PS X st t ∧ ∀ C : Cc, Cok C X → DS C t w
def XSs (X : Cx) (st : List Stmt) (t : TS) (w : PXS) : Prop := PSs X st t ∧ ∀ C : Cc, Cok C X → DS C t w

/-! ### names, constants -/
def rdS (Γ : Env) (i : Nat) : Option D := match Γ[i]? with
  | some (some (.own _)) => some (.bor i)
  | some (some d) => some d
  | _ => none
def wVar (i : Nat) : PX := fun Γ Φ => ∃ r, rdS Γ i = some r ∧ Φ r Γ
theorem xe_var {e : Expr} {i : Nat} (h : PE X e (tVar i)) : XE X e (tVar i) (wVar i) := by
  refine ⟨h, fun C hK n f Γ σ H Q Φ off R w k => ?_⟩
  obtain ⟨r, hr, φ⟩ := w
  unfold rdS at hr
  split at hr
  · rename_i d hg
    cases hr
    obtain ⟨x, hx, _⟩ := R.at hg
    exact ⟨x, hx, k _ x _ _ φ (R.hold off (fun _ z => by cases z) (.bor hx))⟩
  · rename_i d hno hg
    cases hr
    obtain ⟨x, hx, he⟩ := R.at hg
    refine ⟨x, hx, k _ x _ _ φ (R.hold off (fun d' z => ?_) (R.e.ok _ _ _ he))⟩
    subst z; exact hno _ rfl
  · cases hr
def wC (d : PyData) : PX := fun Γ Φ => Φ (.v d) Γ
theorem xe_c {e : Expr} {v : V} {d : PyData} (h : PE X e (tC v)) (hv : ∀ W H, Ac X.K W H v d) : XE X e (tC v) (wC d) :=
  ⟨h, fun C hK n f Γ σ H Q Φ off R w k => k _ v _ _ w (R.holdV off (by rw [hK.k]; exact hv _ _))⟩
theorem xe_int {i : Int} {j pos} : XE X (.Constant (.int i) j pos) (tC (.int i)) (wC (.int i)) := xe_c pe_int fun _ _ => .int i
theorem xe_bl {i : Bool} {j pos} : XE X (.Constant (.bool i) j pos) (tC (.bl i)) (wC (.bool i)) := xe_c pe_bl fun _ _ => .bl i
theorem xe_str {i : Str} {j pos} : XE X (.Constant (.str i) j pos) (tC (.str i)) (wC (.str i)) := xe_c pe_str fun _ _ => .str i
theorem xe_non {j pos} : XE X (.Constant .none j pos) (tC .non) (wC .none) := xe_c pe_non fun _ _ => .non
def wRaw (v : V) : PX := fun Γ Φ => Φ (.raw v) Γ
theorem xe_raw {e : Expr} {v : V} (h : PE X e (tC v)) : XE X e (tC v) (wRaw v) :=
  ⟨h, fun C hK n f Γ σ H Q Φ off R w k => k _ v _ _ w (R.hold off (fun _ z => by cases z) .raw)⟩

/-! ### what is held becomes data -/
def frz (Γ : Env) : D → Option (PyData × Env)
  | .v d => some (d, Γ)
  | .own d => some (d, Γ)
  | .bor i => match Γ[i]? with
    | some (some (.own d)) => some (d, Γ.set i (some (.v d)))
    | some (some (.v d)) => some (d, Γ)
    | _ => none
  | _ => none
section
variable {C : Cc} {f : Fr} {Γ Γ' : Env} {σ : SS} {H : Hp} {n : Nat}
theorem Rel.retell {r r' : D} {x : V} (R : Rel C (upF f n (some (r, x))) Γ σ H) (hf : Off f n) (hn : ∀ d', r' ≠ .own d') (h : VOk C (WE C (ent f Γ σ)) σ H r' x) : Rel C (upF f n (some (r', x))) Γ σ H :=
  (R.drop hf).hold hf hn h
theorem Rel.frzR {r : D} {x : V} {d : PyData} (R : Rel C (upF f n (some (r, x))) Γ σ H) (hf : Off f n) (h : frz Γ r = some (d, Γ')) : Rel C (upF f n (some (.v d, x))) Γ' σ H := by
  cases r with
  | v d' => cases h; exact R
  | own d' => cases h; exact R.frzHeld
  | bor i =>
    have hx : σ[i]? = some (some x) := by
      cases R.e.ok (.inl n) _ _ ent_held with
      | bor z => exact z
    unfold frz at h
    simp only at h
    have R0 := R.drop hf
    split at h
    · rename_i d' hg
      cases h
      have R1 := R0.frzSlot hg
      have hl : i < Γ.length := (List.getElem?_eq_some_iff.mp hg).1
      obtain ⟨y, hy, he⟩ := R1.at (i := i) (d := .v d) (by rw [List.getElem?_set_self hl])
      rw [hx] at hy; cases hy
      exact R1.hold hf (fun _ z => by cases z) (R1.e.ok _ _ _ he)
    · rename_i d' hg
      cases h
      obtain ⟨y, hy, he⟩ := R0.at hg
      rw [hx] at hy; cases hy
      exact R0.hold hf (fun _ z => by cases z) (R0.e.ok _ _ _ he)
    · cases h
  | ro d' => cases h
  | deck => cases h
  | raw => cases h
theorem NoBor.up {d : PyData} {x : V} (h : NoBor f) : NoBor (upF f n (some (.v d, x))) := fun m i y => by
  unfold upF; split
  · intro z; cases z
  · exact h m i y
end
/-- an expression whose value is kept as data -/
def wFrz (w : PX) : PX := fun Γ Φ => w Γ fun r Γ1 => ∃ d Γ2, frz Γ1 r = some (d, Γ2) ∧ Φ (.v d) Γ2
theorem xe_frz {e : Expr} {t : TE} {w : PX} (h : XE X e t w) : XE X e t (wFrz w) := by
  obtain ⟨p, g⟩ := h
  refine ⟨p, fun C hK n f Γ σ H Q Φ off R w k => g C hK n f Γ σ H Q _ off R w ?_⟩
  rintro r x Γ' H' ⟨d, Γ2, hz, φ⟩ R'
  exact k _ x _ _ φ (R'.frzR off hz)

/-! ### arguments -/
def wRn : PXR := fun Γ Φ => Φ [] Γ
def wRc (wa : PX) (wr : PXR) : PXR := fun Γ Φ => wa Γ fun r Γ1 => wr Γ1 fun ds Γ2 => ∃ d, res Γ2 r = some d ∧ Φ (d :: ds) Γ2
theorem xr_nil : XR X [] tNil wRn := ⟨pa_nil, fun C hK n f Γ σ H Q Φ off R w k => k [] [] _ _ w R .nil⟩
section
variable {C : Cc} {f : Fr} {Γ Γ' : Env} {σ : SS} {H H' : Hp} {n : Nat}
theorem Tr.drop {o : Option (D × V)} (hf : Off f n) : Tr (WE C (ent (upF f n o) Γ σ)) H (WE C (ent f Γ σ)) H := Tr.less fun _ z => WE.drop hf z
theorem Rv.tr {K : PySem.W.Frag} {W W' : AS} {x : V} {d : PyData} (t : Tr W H W' H) (h : Rv K W H x d) : Rv K W' H x d := by
  rcases h with h | ⟨a, e, h⟩
  · exact .inl (Ac.tr t _ h)
  · exact .inr ⟨a, e, h.tr t rfl⟩
theorem RvL.tr {K : PySem.W.Frag} {W W' : AS} (t : Tr W H W' H) : ∀ {xs : List V} {ds : List PyData}, RvL K W H xs ds → RvL K W' H xs ds
  | _, _, .nil => .nil
  | _, _, .cons a b => .cons (a.tr t) (RvL.tr t b)
end
theorem xr_cons {e : Expr} {es : List Expr} {ta : TE} {tr : TA} {wa : PX} {wr : PXR} (ha : XE X e ta wa) (hr : XR X es tr wr) (hs : starEach (e :: es) X.env = (false, eval e X.env) :: starEach es X.env := by rfl) : XR X (e :: es) (tCons ta tr) (wRc wa wr) := by
  obtain ⟨pa, ga⟩ := ha
  obtain ⟨pr, gr⟩ := hr
  refine ⟨pa_cons pa pr hs, fun C hK n f Γ σ H Q Φ off R w k => ga C hK n f Γ σ H _ _ off R w ?_⟩
  intro r x Γ1 H1 φ R1
  refine gr C hK (n + 1) _ Γ1 σ H1 _ _ off.up R1 φ ?_
  rintro ds xs Γ2 H2 ⟨d, hd, φ2⟩ R2 rv
  refine k _ _ _ _ φ2 (R2.drop off) (.cons ?_ (rv.tr (Tr.drop off)))
  exact (R2.rv ent_held hd).tr (Tr.drop off)
def wVc (wa : PX) (wr : PXR) : PXR := fun Γ Φ => wa Γ fun r Γ1 => ∃ d Γ2, frz Γ1 r = some (d, Γ2) ∧ wr Γ2 fun ds Γ3 => Φ (d :: ds) Γ3
theorem xv_nil : XV X [] tNil wRn := ⟨pa_nil, fun C hK n f Γ σ H Q Φ off R w k => k [] [] _ _ w R .nil⟩
theorem xv_cons {e : Expr} {es : List Expr} {ta : TE} {tr : TA} {wa : PX} {wr : PXR} (ha : XE X e ta wa) (hr : XV X es tr wr) (hs : starEach (e :: es) X.env = (false, eval e X.env) :: starEach es X.env := by rfl) : XV X (e :: es) (tCons ta tr) (wVc wa wr) := by
  obtain ⟨pa, ga⟩ := ha
  obtain ⟨pr, gr⟩ := hr
  refine ⟨pa_cons pa pr hs, fun C hK n f Γ σ H Q Φ off R w k => ga C hK n f Γ σ H _ _ off R w ?_⟩
  rintro r x Γ1 H1 ⟨d, Γ2, hz, φ⟩ R1
  refine gr C hK (n + 1) _ Γ2 σ H1 _ _ off.up (R1.frzR off hz) φ ?_
  intro ds xs Γ3 H2 φ2 R2 rv
  exact k _ _ _ _ φ2 (R2.drop off) (.cons (Ac.tr (Tr.drop off) _ R2.heldV) (AcL.tr (Tr.drop off) _ rv))
def hld : D → D
  | .own d => .v d
  | r => r
def pass (Γ : Env) : D → Option D
  | .v d => some (.v d)
  | .bor i => match Γ[i]? with
    | some (some (.own d)) => some (.ro d)
    | some (some (.v d)) => some (.v d)
    | _ => none
  | .ro d => some (.ro d)
  | .deck => some .deck
  | .raw x => some (.raw x)
  | .own _ => none
def wPn : PXP := fun Γ Φ => Φ [] Γ
def wPc (wa : PX) (wr : PXP) : PXP := fun Γ Φ => wa Γ fun r Γ1 => wr Γ1 fun ds Γ2 => ∃ p, pass Γ2 (hld r) = some p ∧ Φ (p :: ds) Γ2
theorem xp_nil : XP X [] tNil wPn := ⟨pa_nil, fun C hK n f Γ σ H Q Φ off R w k => k [] [] _ _ w R .nil⟩
section
variable {C : Cc} {f : Fr} {Γ Γ' : Env} {σ : SS} {H H' : Hp} {n : Nat}
theorem PassOk.tr {K : PySem.W.Frag} {U : List Addr} {ik : List Key} {W W' : AS} {d : D} {x : V} (t : Tr W H W' H) (hw : ∀ a d', d = .ro d' → x = .ref a → W a → W' a) (h : PassOk K U ik W H d x) : PassOk K U ik W' H d x := by
  cases h with
  | v h => exact .v (Ac.tr t _ h)
  | ro h m n => exact .ro (h.tr t rfl) (hw _ _ rfl rfl m) n
  | deck h => exact .deck h
  | raw => exact .raw
theorem PassL.tr {K : PySem.W.Frag} {U : List Addr} {ik : List Key} {W W' : AS} (t : Tr W H W' H) (hw : ∀ a, W a → W' a) : ∀ {ds : List D} {xs : List V}, PassL K U ik W H ds xs → PassL K U ik W' H ds xs
  | _, _, .nil => .nil
  | _, _, .cons a b => .cons (a.tr t fun _ _ _ _ z => hw _ z) (PassL.tr t hw b)
/-- what is not one's own is let go: the same is one's own -/
theorem WE.keep {d : D} {x : V} (hf : Off f n) (hn : ∀ d', d ≠ .own d') (a : Addr) (h : WE C (ent (upF f n (some (d, x))) Γ σ) a) : WE C (ent f Γ σ) a := by
  rw [ent_up] at h
  exact (WE.up_val (hf n (Nat.le_refl _)) hn a).mp h
theorem Rel.pass {r p : D} {x : V} (R : Rel C (upF f n (some (r, x))) Γ σ H) (hf : Off f n) (h : pass Γ r = some p) : PassOk C.K C.U C.ik (WE C (ent f Γ σ)) H p x := by
  have ok := R.e.ok (.inl n) _ _ ent_held
  have R0 := R.drop hf
  cases r with
  | v d => cases h; cases ok with | v z => exact .v (Ac.tr (Tr.drop hf) _ z)
  | own d => cases h
  | ro d => cases h; cases ok with | ro z m u => exact .ro (z.tr (Tr.drop hf) rfl) (.inl m) u
  | deck => cases h; cases ok with | deck z => exact .deck z
  | raw y => cases h; cases ok; exact .raw
  | bor i =>
    have hx : σ[i]? = some (some x) := by cases ok with | bor z => exact z
    unfold Px.pass at h
    simp only at h
    split at h
    · rename_i d' hg
      cases h
      obtain ⟨y, hy, he⟩ := R0.at hg
      rw [hx] at hy; cases hy
      cases R0.e.ok _ _ _ he with
      | own w => exact .ro w (.inr ⟨_, _, he⟩) fun z => (R0.e.ap _ _ _ he).1 (R0.e.uM _ z)
    · rename_i d' hg
      cases h
      obtain ⟨y, hy, he⟩ := R0.at hg
      rw [hx] at hy; cases hy
      cases R0.e.ok _ _ _ he with
      | v w => exact .v w
    · cases h
theorem Rel.hld {r : D} {x : V} (R : Rel C (upF f n (some (r, x))) Γ σ H) : Rel C (upF f n (some (hld r, x))) Γ σ H := by
  cases r with
  | own d => exact R.frzHeld
  | v d => exact R
  | ro d => exact R
  | deck => exact R
  | raw y => exact R
  | bor i => exact R
theorem hld_own (r : D) : ∀ d', Px.hld r ≠ .own d' := by
  intro d' z; cases r <;> cases z
end
theorem xp_cons {e : Expr} {es : List Expr} {ta : TE} {tr : TA} {wa : PX} {wr : PXP} (ha : XE X e ta wa) (hr : XP X es tr wr) (hs : starEach (e :: es) X.env = (false, eval e X.env) :: starEach es X.env := by rfl) : XP X (e :: es) (tCons ta tr) (wPc wa wr) := by
  obtain ⟨pa, ga⟩ := ha
  obtain ⟨pr, gr⟩ := hr
  refine ⟨pa_cons pa pr hs, fun C hK n f Γ σ H Q Φ off R w k => ga C hK n f Γ σ H _ _ off R w ?_⟩
  intro r x Γ1 H1 φ R1
  refine gr C hK (n + 1) _ Γ1 σ H1 _ _ off.up R1.hld φ ?_
  rintro ds xs Γ2 H2 ⟨p, hp, φ2⟩ R2 rv
  exact k _ _ _ _ φ2 (R2.drop off) (.cons (R2.pass off hp) (rv.tr (Tr.drop off) fun a z => WE.keep off (hld_own r) a z))

/-! ### operations upon what can be read -/
structure Post (K : PySem.W.Frag) (W : AS) (H : Hp) (Q : VK) (Ψ : D → Prop) : Prop where
  val : ∀ z c, Ψ (.v c) → Ac K W H z c → Q z H
  tup : ∀ p vs cs, Ψ (.v (.tuple cs)) → H p = none → AcL K W H vs cs → Q (.ref p) (upd H p (.tup vs))
  lst : ∀ p vs cs, Ψ (.own (.list cs)) → H p = none → AcL K W H vs cs → Q (.ref p) (upd H p (.lst vs))
  dic : ∀ p kvs es, Ψ (.own (.dict es)) → H p = none → AcK K W H kvs es → Q (.ref p) (upd H p (.dK kvs))
  raw : ∀ z, Ψ (.raw z) → Q z H
abbrev PO' := List PyData → (D → Prop) → Prop
def PureR (K : PySem.W.Frag) (r : List V → Hp → VK → Prop) (φ : PO') : Prop := ∀ W H xs ds Q Ψ, RvL K W H xs ds → φ ds Ψ → Post K W H Q Ψ → r xs H Q
def PureR2 (K : PySem.W.Frag) (r : R2) (φ : PO') : Prop := ∀ W H x y d e Q Ψ, Rv K W H x d → Rv K W H y e → φ [d, e] Ψ → Post K W H Q Ψ → r x y H Q
section
variable {C : Cc} {f : Fr} {Γ Γ' : Env} {σ : SS} {H H' : Hp} {n : Nat}
theorem Rel.mineL {p : Addr} {vs : List V} {cs : List PyData} (R : Rel C f Γ σ H) (hf : Off f n) (hp : H p = none) (h : AcL C.K (WE C (ent f Γ σ)) H vs cs) : Rel C (upF f n (some (.own (.list cs), .ref p))) Γ σ (upd H p (.lst vs)) :=
  R.mine hf hp fun W H' t e => .lst e (AcL.tr t _ h)
theorem Tr.new {W : AS} {p : Addr} {o : HO} (hp : H p = none) : Tr W H W (upd H p o) := by
  intro a u r n
  have ne : a ≠ p := ne_of_none r hp
  exact ⟨by rw [upd_ne ne]; exact r, n⟩
theorem Rel.tupL {p : Addr} {vs : List V} {cs : List PyData} (R : Rel C f Γ σ H) (hf : Off f n) (hp : H p = none) (h : AcL C.K (WE C (ent f Γ σ)) H vs cs) : Rel C (upF f n (some (.v (.tuple cs), .ref p))) Γ σ (upd H p (.tup vs)) :=
  (R.alloc hp).holdV hf (.tup upd_same (R.e.fresh hp).1 (AcL.tr (Tr.new hp) _ h))
theorem Rel.post (R : Rel C f Γ σ H) (hf : Off f n) {Q : VK} {Φ : D → Env → Prop} (k : ∀ r x Γ' H', Φ r Γ' → Rel C (upF f n (some (r, x))) Γ' σ H' → Q x H') : Post C.K (WE C (ent f Γ σ)) H Q fun r => Φ r Γ where
  val z c φ a := k _ z _ _ φ (R.holdV hf a)
  tup p vs cs φ hp a := k _ _ _ _ φ (R.tupL hf hp a)
  lst p vs cs φ hp a := k _ _ _ _ φ (R.mineL hf hp a)
  dic p kvs es φ hp a := k _ _ _ _ φ (R.mine hf hp fun W H' t e => .dic e (AcK.tr t _ a))
  raw z φ := k _ z _ _ φ (R.hold hf (fun _ z => by cases z) .raw)
end
/-- a built-in of values that are read -/
def wCB (φ : PO') (wA : PXR) : PX := fun Γ Φ => wA Γ fun ds Γ1 => φ ds fun r => Φ r Γ1
theorem xe_CB {es : List Expr} {e : Expr} {r : List V → Hp → VK → Prop} {φ : PO'} {t : TA} {wA : PXR} (hA : XR X es t wA) (hp : ∀ t, PA X es t → PE X e (tCB r t)) (hr : PureR X.K r φ) : XE X e (tCB r t) (wCB φ wA) := by
  obtain ⟨p, g⟩ := hA
  refine ⟨hp t p, fun C hK n f Γ σ H Q Φ off R w k => g C hK n f Γ σ H _ _ off R w ?_⟩
  intro ds xs Γ1 H1 φ1 R1 rv
  refine hr _ _ _ _ _ _ (by rw [← hK.k]; exact rv) φ1 (by rw [← hK.k]; exact R1.post off k)
/-- an operator -/
def wO (φ : PO') (wa wb : PX) : PX := fun Γ Φ => wa Γ fun r Γ1 => wb Γ1 fun s Γ2 => ∃ d e, res Γ2 r = some d ∧ res Γ2 s = some e ∧ φ [d, e] fun c => Φ c Γ2
theorem de_O {C : Cc} {ta tb : TE} {wa wb : PX} {r : R2} {φ : PO'} (ha : DE C ta wa) (hb : DE C tb wb) (hr : PureR2 C.K r φ) : DE C (tOp r ta tb) (wO φ wa wb) := by
  intro n f Γ σ H Q Φ off R w k
  refine ha n f Γ σ H _ _ off R w ?_
  intro r1 x Γ1 H1 φ1 R1
  refine hb (n + 1) _ Γ1 σ H1 _ _ off.up R1 φ1 ?_
  rintro r2 y Γ2 H2 ⟨d, e, hd, he, φ2⟩ R2
  have h2 := (R2.rv ent_held he).tr (Tr.drop off.up)
  have R3 := R2.drop off.up
  have h1 := (R3.rv ent_held hd).tr (Tr.drop off)
  have h2 := h2.tr (Tr.drop off)
  exact hr _ _ _ _ _ _ _ _ h1 h2 φ2 ((R3.drop off).post off k)
theorem xe_O {a b e : Expr} {r : R2} {φ : PO'} {ta tb : TE} {wa wb : PX} (ha : XE X a ta wa) (hb : XE X b tb wb) (hp : ∀ ta tb, PE X a ta → PE X b tb → PE X e (tOp r ta tb)) (hr : PureR2 X.K r φ) : XE X e (tOp r ta tb) (wO φ wa wb) := by
  obtain ⟨pa, ga⟩ := ha
  obtain ⟨pb, gb⟩ := hb
  exact ⟨hp _ _ pa pb, fun C hK => de_O (ga C hK) (gb C hK) (by rw [hK.k]; exact hr)⟩
theorem xe_op {a b : Expr} {op : Operator} {pos : Pos} {r : R2} {φ : PO'} {ta tb : TE} {wa wb : PX} (ho : OpR X (binaryOp op) r) (hr : PureR2 X.K r φ) (ha : XE X a ta wa) (hb : XE X b tb wb) : XE X (.BinOp a op b pos) (tOp r ta tb) (wO φ wa wb) :=
  xe_O ha hb (fun _ _ pa pb => pe_op ho pa pb) hr
theorem xe_cmp {a b : Expr} {op : CmpOp} {pos : Pos} {r : R2} {φ : PO'} {ta tb : TE} {wa wb : PX} (ho : OpR X (compareOp op) r) (hr : PureR2 X.K r φ) (ha : XE X a ta wa) (hb : XE X b tb wb) (hm : behindInMarks op b = false) : XE X (.Compare a [op] [b] pos) (tOp r ta tb) (wO φ wa wb) :=
  xe_O ha hb (fun _ _ pa pb => pe_cmpR ho pa pb hm) hr
/-- a test from a value that is a bool -/
def wB (w : PX) : PXT := fun Γ Φ => w Γ fun r Γ1 => ∃ b, r = .v (.bool b) ∧ Φ b Γ1
theorem dt_B {C : Cc} {t : TE} {w : PX} (h : DE C t w) : DT C (tTest t) (wB w) := by
  intro n f Γ σ H Q Φ off R w k
  refine h n f Γ σ H _ _ off R w ?_
  rintro r x Γ1 H1 ⟨b, rfl, φ⟩ R1
  have := R1.heldV
  cases this
  exact ⟨b, rfl, k _ _ _ φ (R1.drop off)⟩
theorem xt_cmp {a b : Expr} {op : CmpOp} {pos : Pos} {r : R2} {φ : PO'} {ta tb : TE} {wa wb : PX} (ho : OpR X (compareOp op) r) (hr : PureR2 X.K r φ) (ha : XE X a ta wa) (hb : XE X b tb wb) (hm : behindInMarks op b = false) : XT X (.Compare a [op] [b] pos) (tTest (tOp r ta tb)) (wB (wO φ wa wb)) := by
  obtain ⟨pa, ga⟩ := ha
  obtain ⟨pb, gb⟩ := hb
  exact ⟨pt_cmpR ho pa pb hm, fun C hK => dt_B (de_O (ga C hK) (gb C hK) (by rw [hK.k]; exact hr))⟩
theorem xt_val {e : Expr} {t : TE} {w : PX} (h : XE X e t w) (he : ∀ whole, isTrue e X.env whole = (do let v ← whole; standAt e.pos; holding [v] (truthy v)) := by intro _; rfl) : XT X e (tB t) (wB w) := by
  obtain ⟨p, g⟩ := h
  refine ⟨pt_val p he, fun C hK n f Γ σ H Q Φ off R w k => ?_⟩
  exact dt_B (g C hK) n f Γ σ H Q Φ off R w k
def wN (w : PXT) : PXT := fun Γ Φ => w Γ fun b Γ1 => Φ (!b) Γ1
theorem xt_not {a : Expr} {pos : Pos} {t : TT} {w : PXT} (h : XT X a t w) : XT X (.UnaryOp .Not a pos) (tNot t) (wN w) := by
  obtain ⟨p, g⟩ := h
  refine ⟨pt_not p, fun C hK n f Γ σ H Q Φ off R w k => g C hK n f Γ σ H _ _ off R w ?_⟩
  intro b Γ1 H1 φ R1
  exact k _ _ _ φ R1
def wAnd (w u : PXT) : PXT := fun Γ Φ => w Γ fun b Γ1 => (b = true → u Γ1 Φ) ∧ (b = false → Φ false Γ1)
def wOr (w u : PXT) : PXT := fun Γ Φ => w Γ fun b Γ1 => (b = true → Φ true Γ1) ∧ (b = false → u Γ1 Φ)
theorem xt_w {e : Expr} {t : TT} {w : PXT} (h : XW X e t w) : XT X e t w := by
  obtain ⟨p, g⟩ := h
  exact ⟨p.pt, g⟩
theorem xw_and1 {a : Expr} {pos : Pos} {t : TT} {w : PXT} (h : XT X a t w) : XW X (.BoolOp .And [a] pos) t w := by
  obtain ⟨p, g⟩ := h
  exact ⟨pw_and1 p, g⟩
theorem xw_or1 {a : Expr} {pos : Pos} {t : TT} {w : PXT} (h : XT X a t w) : XW X (.BoolOp .Or [a] pos) t w := by
  obtain ⟨p, g⟩ := h
  exact ⟨pw_or1 p, g⟩
theorem xw_and {a b : Expr} {rest : List Expr} {pos : Pos} {t t2 : TT} {w u : PXT} (h : XT X a t w) (h2 : XW X (.BoolOp .And (b :: rest) pos) t2 u) : XW X (.BoolOp .And (a :: b :: rest) pos) (tAnd t t2) (wAnd w u) := by
  obtain ⟨p, g⟩ := h
  obtain ⟨p2, g2⟩ := h2
  refine ⟨pw_and p p2, fun C hK n f Γ σ H Q Φ off R w k => g C hK n f Γ σ H _ _ off R w ?_⟩
  rintro b Γ1 H1 ⟨φ1, φ2⟩ R1
  cases b with
  | true => show if (true = true) then _ else _; rw [if_pos rfl]; exact g2 C hK n f Γ1 σ H1 Q Φ off R1 (φ1 rfl) k
  | false => show if (false = true) then _ else _; rw [if_neg (by decide)]; exact k _ _ _ (φ2 rfl) R1
theorem xw_or {a b : Expr} {rest : List Expr} {pos : Pos} {t t2 : TT} {w u : PXT} (h : XT X a t w) (h2 : XW X (.BoolOp .Or (b :: rest) pos) t2 u) : XW X (.BoolOp .Or (a :: b :: rest) pos) (tOr t t2) (wOr w u) := by
  obtain ⟨p, g⟩ := h
  obtain ⟨p2, g2⟩ := h2
  refine ⟨pw_or p p2, fun C hK n f Γ σ H Q Φ off R w k => g C hK n f Γ σ H _ _ off R w ?_⟩
  rintro b Γ1 H1 ⟨φ1, φ2⟩ R1
  cases b with
  | true => show if (true = true) then _ else _; rw [if_pos rfl]; exact k _ _ _ (φ1 rfl) R1
  | false => show if (false = true) then _ else _; rw [if_neg (by decide)]; exact g2 C hK n f Γ1 σ H1 Q Φ off R1 (φ2 rfl) k
/-- .. as values -/
theorem xe_one {a : Expr} {op} {pos : Pos} {t : TE} {w : PX} (h : XE X a t w) : XE X (.BoolOp op [a] pos) t w := by
  obtain ⟨p, g⟩ := h
  exact ⟨pe_one p, g⟩
def wAndV (w u : PX) : PX := fun Γ Φ => w Γ fun r Γ1 => ∃ b, r = .v (.bool b) ∧ (b = true → u Γ1 Φ) ∧ (b = false → Φ (.v (.bool false)) Γ1)
def wOrV (w u : PX) : PX := fun Γ Φ => w Γ fun r Γ1 => ∃ b, r = .v (.bool b) ∧ (b = true → Φ (.v (.bool true)) Γ1) ∧ (b = false → u Γ1 Φ)
theorem xe_and {a b : Expr} {rest : List Expr} {pos : Pos} {t t2 : TE} {w u : PX} (h : XE X a t w) (h2 : XE X (.BoolOp .And (b :: rest) pos) t2 u) : XE X (.BoolOp .And (a :: b :: rest) pos) (tAndV t t2) (wAndV w u) := by
  obtain ⟨p, g⟩ := h
  obtain ⟨p2, g2⟩ := h2
  refine ⟨pe_and p p2, fun C hK n f Γ σ H Q Φ off R w k => g C hK n f Γ σ H _ _ off R w ?_⟩
  rintro r x Γ1 H1 ⟨b, rfl, φ1, φ2⟩ R1
  have := R1.heldV
  cases this
  refine ⟨b, rfl, ?_⟩
  cases b with
  | true => rw [if_pos rfl]; exact g2 C hK n f Γ1 σ H1 Q Φ off (R1.drop off) (φ1 rfl) k
  | false => rw [if_neg (by decide)]; exact k _ _ _ _ (φ2 rfl) R1
theorem xe_or {a b : Expr} {rest : List Expr} {pos : Pos} {t t2 : TE} {w u : PX} (h : XE X a t w) (h2 : XE X (.BoolOp .Or (b :: rest) pos) t2 u) : XE X (.BoolOp .Or (a :: b :: rest) pos) (tOrV t t2) (wOrV w u) := by
  obtain ⟨p, g⟩ := h
  obtain ⟨p2, g2⟩ := h2
  refine ⟨pe_or p p2, fun C hK n f Γ σ H Q Φ off R w k => g C hK n f Γ σ H _ _ off R w ?_⟩
  rintro r x Γ1 H1 ⟨b, rfl, φ1, φ2⟩ R1
  have := R1.heldV
  cases this
  refine ⟨b, rfl, ?_⟩
  cases b with
  | true => rw [if_pos rfl]; exact k _ _ _ _ (φ1 rfl) R1
  | false => rw [if_neg (by decide)]; exact g2 C hK n f Γ1 σ H1 Q Φ off (R1.drop off) (φ2 rfl) k
def wNotV (w : PX) : PX := fun Γ Φ => w Γ fun r Γ1 => ∃ b, r = .v (.bool b) ∧ Φ (.v (.bool (!b))) Γ1
theorem xe_not {a : Expr} {pos : Pos} {t : TE} {w : PX} (h : XE X a t w) : XE X (.UnaryOp .Not a pos) (tNotV t) (wNotV w) := by
  obtain ⟨p, g⟩ := h
  refine ⟨pe_not p, fun C hK n f Γ σ H Q Φ off R w k => g C hK n f Γ σ H _ _ off R w ?_⟩
  rintro r x Γ1 H1 ⟨b, rfl, φ⟩ R1
  have := R1.heldV
  cases this
  exact ⟨b, rfl, k _ _ _ _ φ ((R1.drop off).holdV off (.bl _))⟩
def wIfE (c : PXT) (wa wb : PX) : PX := fun Γ Φ => c Γ fun b Γ1 => (b = true → wa Γ1 Φ) ∧ (b = false → wb Γ1 Φ)
theorem xe_if {c a b : Expr} {pos : Pos} {t : TT} {ta tb : TE} {wc : PXT} {wa wb : PX} (hc : XT X c t wc) (ha : XE X a ta wa) (hb : XE X b tb wb) : XE X (.IfExp c a b pos) (tIf t ta tb) (wIfE wc wa wb) := by
  obtain ⟨p, g⟩ := hc
  obtain ⟨pa, ga⟩ := ha
  obtain ⟨pb, gb⟩ := hb
  refine ⟨pe_ifExp p pa pb, fun C hK n f Γ σ H Q Φ off R w k => g C hK n f Γ σ H _ _ off R w ?_⟩
  rintro b Γ1 H1 ⟨φ1, φ2⟩ R1
  cases b with
  | true => show if (true = true) then _ else _; rw [if_pos rfl]; exact ga C hK n f Γ1 σ H1 Q Φ off R1 (φ1 rfl) k
  | false => show if (false = true) then _ else _; rw [if_neg (by decide)]; exact gb C hK n f Γ1 σ H1 Q Φ off R1 (φ2 rfl) k
/-! ### displays -/
def wTup (wA : PXR) : PX := fun Γ Φ => wA Γ fun ds Γ1 => ds.length ≤ sizeLine ∧ Φ (.v (.tuple ds)) Γ1
def wLst (wA : PXR) : PX := fun Γ Φ => wA Γ fun ds Γ1 => ds.length ≤ sizeLine ∧ Φ (.own (.list ds)) Γ1
theorem xe_tup {es : List Expr} {x1} {pos : Pos} {t : TA} {wA : PXR} (h : XV X es t wA) : XE X (.Tuple es x1 pos) (tTup t) (wTup wA) := by
  obtain ⟨p, g⟩ := h
  refine ⟨pe_tup p, fun C hK n f Γ σ H Q Φ off R w k => g C hK n f Γ σ H _ _ off R w ?_⟩
  rintro ds xs Γ1 H1 ⟨hl, φ⟩ R1 a
  exact ⟨by rw [a.len]; exact hl, fun q hq => k _ _ _ _ φ (R1.tupL off hq a)⟩
theorem xe_lst {es : List Expr} {pos : Pos} {t : TA} {wA : PXR} (h : XV X es t wA) : XE X (.List es pos) (tLst t) (wLst wA) := by
  obtain ⟨p, g⟩ := h
  refine ⟨pe_lst p, fun C hK n f Γ σ H Q Φ off R w k => g C hK n f Γ σ H _ _ off R w ?_⟩
  rintro ds xs Γ1 H1 ⟨hl, φ⟩ R1 a
  exact ⟨by rw [a.len]; exact hl, fun q hq => k _ _ _ _ φ (R1.mineL off hq a)⟩

/-! ### statements -/
def wNext : PXS := fun Γ Φ => Φ.nx Γ
def wSeq (w u : PXS) : PXS := fun Γ Φ => w Γ { Φ with nx := fun Γ1 => u Γ1 Φ }
theorem xss_nil : XSs X [] tNext wNext := ⟨pss_nil, fun C hK n f Γ σ H D Φ off nb R w F => F.nx _ _ _ w R⟩
theorem xss_one {st : Stmt} {t : TS} {w : PXS} (h : XS X st t w) : XSs X [st] t w := by
  obtain ⟨p, g⟩ := h
  exact ⟨pss_one p, g⟩
theorem xss_cons {st : Stmt} {rest : List Stmt} {t t2 : TS} {w u : PXS} (h : XS X st t w) (h2 : XSs X rest t2 u) : XSs X (st :: rest) (tSeq t t2) (wSeq w u) := by
  obtain ⟨p, g⟩ := h
  obtain ⟨p2, g2⟩ := h2
  refine ⟨pss_cons p p2, fun C hK n f Γ σ H D Φ off nb R w F => g C hK n f Γ σ H _ _ off nb R w ⟨fun Γ1 σ1 H1 φ R1 => ?_, F.rt, F.bk, F.ct⟩⟩
  exact g2 C hK n f Γ1 σ1 H1 D Φ off nb R1 φ ⟨F.nx, F.rt, F.bk, F.ct⟩
def wDrop (w : PX) : PXS := fun Γ Φ => w Γ fun _ Γ1 => Φ.nx Γ1
theorem xs_expr {e : Expr} {pos : Pos} {t : TE} {w : PX} (h : XE X e t w) (hs : swapsWith e none pos.line X.env = pure false := by rfl) : XS X (.Expr e pos) (tDrop t) (wDrop w) := by
  obtain ⟨p, g⟩ := h
  refine ⟨ps_expr p hs, fun C hK n f Γ σ H D Φ off nb R w F => g C hK n f Γ σ H _ _ off R w ?_⟩
  intro r x Γ1 H1 φ R1
  exact F.nx _ _ _ φ (R1.drop off)
def mv (Γ : Env) : D → Option (D × Env)
  | .bor i => match Γ[i]? with
    | some (some (.own d)) => some (.own d, Γ.set i none)
    | some (some (.v d)) => some (.v d, Γ)
    | _ => none
  | r => some (r, Γ)
section
variable {C : Cc} {f : Fr} {Γ Γ' : Env} {σ : SS} {H H' : Hp} {n : Nat}
theorem Rel.mv {r r' : D} {x : V} (R : Rel C (upF f n (some (r, x))) Γ σ H) (hf : Off f n) (nb : NoBor f) (h : mv Γ r = some (r', Γ')) : Rel C (upF f n (some (r', x))) Γ' σ H ∧ ∀ i, r' ≠ .bor i := by
  cases r with
  | v d => cases h; exact ⟨R, fun _ z => by cases z⟩
  | own d => cases h; exact ⟨R, fun _ z => by cases z⟩
  | ro d => cases h; exact ⟨R, fun _ z => by cases z⟩
  | deck => cases h; exact ⟨R, fun _ z => by cases z⟩
  | raw y => cases h; exact ⟨R, fun _ z => by cases z⟩
  | bor i =>
    have hx : σ[i]? = some (some x) := by
      cases R.e.ok (.inl n) _ _ ent_held with
      | bor z => exact z
    unfold Px.mv at h
    simp only at h
    have R0 := R.drop hf
    split at h
    · rename_i d hg
      cases h
      refine ⟨?_, fun _ z => by cases z⟩
      have hl : i < Γ.length := (List.getElem?_eq_some_iff.mp hg).1
      have W := R0.wipe nb i (o := some x)
      have hσ : σ.set i (some x) = σ := by
        apply List.ext_getElem?
        intro j
        by_cases q : i = j
        · subst q
          rw [List.getElem?_set_self (by rw [← R0.len]; exact hl), hx]
        · rw [List.getElem?_set_ne q]
      rw [hσ] at W
      refine ⟨?_, W.len, W.full, W.nb⟩
      have he : ent f Γ σ (.inr i) = some (.own d, x) := by
        show slotE Γ[i]? σ[i]? = _
        rw [hg, hx]; rfl
      have gone : ent f (Γ.set i none) σ (.inr i) = none := by
        show slotE (Γ.set i none)[i]? σ[i]? = none
        rw [List.getElem?_set_self hl]; rfl
      have els : ∀ k, k ≠ .inr i → ent f (Γ.set i none) σ k = ent f Γ σ k := by
        intro k q
        cases k with
        | inl m => rfl
        | inr j =>
          have : i ≠ j := fun z => q (by rw [z])
          show slotE (Γ.set i none)[j]? σ[j]? = slotE Γ[j]? σ[j]?
          rw [List.getElem?_set_ne this]
      refine R0.e.re (fun k => if k = .inl n then .inr i else k) (fun k o q => ?_) (fun k j q q' z => ?_)
      · rw [ent_up] at q
        by_cases h : k = .inl n
        · subst h
          rw [upE_same] at q; cases q
          rw [if_pos rfl]; exact he
        · rw [upE_ne h] at q
          rw [if_neg h]
          have q2 : k ≠ .inr i := fun z => by rw [z, gone] at q; cases q
          rw [els k q2] at q; exact q
      · have ne : ∀ k, (ent (upF f n (some (.own d, x))) (Γ.set i none) σ k).isSome = true → k ≠ .inr i := by
          intro k q z
          subst z
          rw [ent_up, upE_ne (fun z => by cases z), gone] at q; cases q
        by_cases h : k = .inl n
        · by_cases h' : j = .inl n
          · rw [h, h']
          · rw [if_pos h, if_neg h'] at z
            exact absurd z.symm (ne j q')
        · by_cases h' : j = .inl n
          · rw [if_neg h, if_pos h'] at z
            exact absurd z (ne k q)
          · rwa [if_neg h, if_neg h'] at z
    · rename_i d hg
      cases h
      refine ⟨?_, fun _ z => by cases z⟩
      obtain ⟨y, hy, he⟩ := R0.at hg
      rw [hx] at hy; cases hy
      exact R0.hold hf (fun _ z => by cases z) (R0.e.ok _ _ _ he)
    · cases h
end
def wRet (w : PX) : PXS := fun Γ Φ => w Γ fun r Γ1 => ∃ r' Γ2, mv Γ1 r = some (r', Γ2) ∧ Φ.rt r'
theorem xs_ret {e : Expr} {pos : Pos} {t : TE} {w : PX} (h : XE X e t w) : XS X (.Return (some e) pos) (tRet t) (wRet w) := by
  obtain ⟨p, g⟩ := h
  refine ⟨ps_ret p, fun C hK n f Γ σ H D Φ off nb R w F => g C hK n f Γ σ H _ _ off R w ?_⟩
  rintro r x Γ1 H1 ⟨r', Γ2, hm, φ⟩ R1
  exact F.rt _ _ _ _ _ φ (R1.mv off nb hm).1
theorem xs_retN {pos : Pos} : XS X (.Return none pos) tRetN (fun Γ Φ => Φ.rt (.v .none)) :=
  ⟨ps_retN, fun C hK n f Γ σ H D Φ off nb R w F => F.rt _ _ _ _ _ w (R.holdV off .non)⟩
def wIf (c : PXT) (a b : PXS) : PXS := fun Γ Φ => c Γ fun k Γ1 => (k = true → a Γ1 Φ) ∧ (k = false → b Γ1 Φ)
theorem xs_if {c : Expr} {a b : List Stmt} {pos : Pos} {t : TT} {ta tb : TS} {wc : PXT} {wa wb : PXS} (hc : XT X c t wc) (ha : XSs X a ta wa) (hb : XSs X b tb wb) : XS X (.If c a b pos) (tIfS t ta tb) (wIf wc wa wb) := by
  obtain ⟨p, g⟩ := hc
  obtain ⟨pa, ga⟩ := ha
  obtain ⟨pb, gb⟩ := hb
  refine ⟨ps_if p pa pb, fun C hK n f Γ σ H D Φ off nb R w F => g C hK n f Γ σ H _ _ off R w ?_⟩
  rintro b Γ1 H1 ⟨φ1, φ2⟩ R1
  have F1 := F
  cases b with
  | true => show if (true = true) then _ else _; rw [if_pos rfl]; exact ga C hK n f Γ1 σ H1 D Φ off nb R1 (φ1 rfl) F
  | false => show if (false = true) then _ else _; rw [if_neg (by decide)]; exact gb C hK n f Γ1 σ H1 D Φ off nb R1 (φ2 rfl) F
/-- what a name is given: the object of another name becomes data -/
def sto (Γ : Env) : D → Option (D × Env)
  | .bor i => match Γ[i]? with
    | some (some (.own d)) => some (.v d, Γ.set i (some (.v d)))
    | some (some (.v d)) => some (.v d, Γ)
    | _ => none
  | r => some (r, Γ)
section
variable {C : Cc} {f : Fr} {Γ Γ' : Env} {σ : SS} {H H' : Hp} {n : Nat}
theorem Rel.sto {r r' : D} {x : V} (R : Rel C (upF f n (some (r, x))) Γ σ H) (hf : Off f n) (h : sto Γ r = some (r', Γ')) : Rel C (upF f n (some (r', x))) Γ' σ H ∧ ∀ i, r' ≠ .bor i := by
  cases r with
  | v d => cases h; exact ⟨R, fun _ z => by cases z⟩
  | own d => cases h; exact ⟨R, fun _ z => by cases z⟩
  | ro d => cases h; exact ⟨R, fun _ z => by cases z⟩
  | deck => cases h; exact ⟨R, fun _ z => by cases z⟩
  | raw y => cases h; exact ⟨R, fun _ z => by cases z⟩
  | bor i =>
    unfold Px.sto at h
    simp only at h
    split at h
    · rename_i d hg
      cases h
      exact ⟨R.frzR hf (by unfold frz; simp only; rw [hg]), fun _ z => by cases z⟩
    · rename_i d hg
      cases h
      exact ⟨R.frzR hf (by unfold frz; simp only; rw [hg]), fun _ z => by cases z⟩
    · cases h
theorem Rel.toSlot' {d : D} {x : V} (R : Rel C (upF f n (some (d, x))) Γ σ H) (hf : Off f n) (nb : NoBor f) (hd : ∀ j, d ≠ .bor j) (i : Nat) : Rel C f (Γ.set i (some d)) (σ.set i (some x)) H := by
  by_cases hi : i < Γ.length
  · exact R.toSlot hf nb hd hi
  · have R0 := R.drop hf
    rw [List.set_eq_of_length_le (by omega), List.set_eq_of_length_le (by have := R0.len; omega)]
    exact R0
end
def wSet (i : Nat) (w : PX) : PXS := fun Γ Φ => w Γ fun r Γ1 => ∃ r' Γ2, sto Γ1 r = some (r', Γ2) ∧ Φ.nx (Γ2.set i (some r'))
theorem ds_set {C : Cc} {i : Nat} {t : TE} {w : PX} (g : DE C t w) : DS C (tAsg t (gName i)) (wSet i w) := by
  intro n f Γ σ H D Φ off nb R w F
  refine g n f Γ σ H _ _ off R w ?_
  rintro r x Γ1 H1 ⟨r', Γ2, hm, φ⟩ R1
  obtain ⟨R2, nbr⟩ := R1.sto off hm
  exact F.nx _ _ _ φ (R2.toSlot' off nb nbr i)
theorem xs_set {i : Nat} {x : Str} {e : Expr} {t : TE} {w : PX} {pos pos' : Pos} (hN : X.N.Nodup) (hi : X.N[i]? = some x) (hx : Loc X.env.scope x) (he : XE X e t w) (hs : swapsWith e (some (.Name x pos')) pos.line X.env = pure false := by rfl) (hf : X.fn x = true ∨ X.env.scope.names.lookup x = some .local := by first | exact .inl rfl | exact .inr rfl | assumption) :
    XS X (.Assign [.Name x pos'] e pos) (tAsg t (gName i)) (wSet i w) := by
  obtain ⟨p, g⟩ := he
  exact ⟨ps_set hN hi hx p hs hf, fun C hK => ds_set (g C hK)⟩
end
end Px
end

/-! Px4 -/
section
set_option Elab.async false
set_option linter.all false
set_option maxRecDepth 100000
set_option maxHeartbeats 2000000
set_option autoImplicit false
namespace Px
open PySem PySem.Spec PyProof.Rows L2 Dh

/-! ### defs of one's own, over data -/
inductive ResOk (K : PySem.W.Frag) (M : AS) (H H' : Hp) : D → V → Prop
  | v {d : PyData} {x : V} : Ac K M H' x d → ResOk K M H H' (.v d) x
  | own {d : PyData} {a : Addr} : H a = none → Ow K (fun b => M b ∨ b = a) H' a d → ResOk K M H H' (.own d) (.ref a)
  | raw {x : V} : ResOk K M H H' (.raw x) x
structure Back (K : PySem.W.Frag) (ik : List Key) (M : AS) (U : List Addr) (H H' : Hp) (r : D) (x : V) : Prop where
  kp : Dh.Kp U H H'
  dk : ∀ a, Dck ik U H a → Dck ik U H' a
  tr : ∀ b ∈ U, ∃ o, H' b = some o
  ok : ResOk K M H H' r x
abbrev PF := List D → (D → Prop) → Prop
def spD (K : PySem.W.Frag) (ik : List Key) (φ : PF) : Sp := fun vs H Q _ =>
  ∃ (M : AS) (U : List Addr) (Δ : List D) (Ψ : D → Prop), (∀ b, M b → ∃ o, H b = some o) ∧ (∀ b ∈ U, M b) ∧ PassL K U ik M H Δ vs ∧ φ Δ Ψ ∧ ∀ r x H', Ψ r → Back K ik M U H H' r x → Q x H'
def Fine : D → Prop
  | .ro _ => False
  | .bor _ => False
  | .deck => False
  | _ => True
def startG (n : Nat) (Δ : List D) : Env := Δ.map some ++ List.replicate (n - Δ.length) none
theorem PassL.len {K : PySem.W.Frag} {U : List Addr} {ik : List Key} {W : AS} {H : Hp} : ∀ {ds : List D} {xs : List V}, PassL K U ik W H ds xs → ds.length = xs.length
  | _, _, .nil => rfl
  | _, _, .cons _ b => by simp [PassL.len b]
theorem PassL.at {K : PySem.W.Frag} {U : List Addr} {ik : List Key} {W : AS} {H : Hp} : ∀ {ds : List D} {xs : List V}, PassL K U ik W H ds xs → ∀ {i : Nat} {d : D} {x : V}, ds[i]? = some d → xs[i]? = some x → PassOk K U ik W H d x
  | _, _, .nil, _, _, _, e, _ => by simp at e
  | _, _, .cons a _, 0, _, _, e, e' => by simp at e e'; subst e e'; exact a
  | _, _, .cons _ b, i + 1, _, _, e, e' => PassL.at b (i := i) (by simpa using e) (by simpa using e')
def noFr : Fr := fun _ => none
theorem start_rel {K : PySem.W.Frag} {U : List Addr} {ik : List Key} {M : AS} {H : Hp} {Δ : List D} {vs : List V} {N : List Str} (hl : vs.length ≤ N.length) (tr : ∀ b, M b → ∃ o, H b = some o) (uM : ∀ b ∈ U, M b) (h : PassL K U ik M H Δ vs) :
    Rel ⟨K, M, U, H, ik⟩ noFr (startG N.length Δ) (L2.start N vs) H := by
  have hlen := h.len
  have inl : ∀ (i : Nat) d, (startG N.length Δ)[i]? = some (some d) → i < Δ.length ∧ Δ[i]? = some d := by
    intro i d e
    unfold startG at e
    by_cases q : i < Δ.length
    · refine ⟨q, ?_⟩
      rw [List.getElem?_append_left (by simpa using q), List.getElem?_map, List.getElem?_eq_getElem q] at e
      rw [List.getElem?_eq_getElem q]
      simpa using e
    · rw [List.getElem?_append_right (by simp; omega), List.getElem?_replicate] at e
      split at e <;> cases e
  have ins : ∀ (i : Nat), i < vs.length → (L2.start N vs)[i]? = some vs[i]? := by
    intro i q
    unfold L2.start
    rw [List.getElem?_append_left (by simpa using q), List.getElem?_map, List.getElem?_eq_getElem q]; rfl
  have entr : ∀ k d x, ent noFr (startG N.length Δ) (L2.start N vs) k = some (d, x) → PassOk K U ik M H d x := by
    intro k d x e
    cases k with
    | inl n => cases e
    | inr i =>
      obtain ⟨e1, e2⟩ := slotE_some e
      obtain ⟨q, e1⟩ := inl i d e1
      have q' : i < vs.length := by omega
      rw [ins i q'] at e2
      exact h.at e1 (Option.some.inj e2)
  have noOwn : ∀ k d a, ent noFr (startG N.length Δ) (L2.start N vs) k ≠ some (.own d, .ref a) := by
    intro k d a e
    cases entr _ _ _ e
  have W : ∀ a, WE ⟨K, M, U, H, ik⟩ (ent noFr (startG N.length Δ) (L2.start N vs)) a ↔ M a := fun a => ⟨fun z => by
    rcases z with z | ⟨k, d, z⟩
    · exact z
    · exact absurd z (noOwn _ _ _), fun z => .inl z⟩
  refine ⟨⟨fun k d x e => ?_, fun k _ d _ a e => absurd e (noOwn _ _ _), fun k d a e => absurd e (noOwn _ _ _), Dh.Kp.refl _ _, tr, uM, fun _ D => D⟩, ?_, fun i d e => ?_, fun i j e => ?_⟩
  · have t : Tr M H (WE ⟨K, M, U, H, ik⟩ (ent noFr (startG N.length Δ) (L2.start N vs))) H := Tr.less fun a z => (W a).mp z
    cases entr k d x e with
    | v z => exact .v (Ac.tr t _ z)
    | ro z m n => exact .ro (z.tr t rfl) m n
    | deck z => exact .deck z
    | raw => exact .raw
  · unfold startG L2.start
    simp [hlen]
  · obtain ⟨q, e1⟩ := inl i d e
    have q' : i < vs.length := by omega
    exact ⟨vs[i], by rw [ins i q', List.getElem?_eq_getElem q']⟩
  · obtain ⟨q, e1⟩ := inl i _ e
    have q' : i < vs.length := by omega
    cases h.at e1 (List.getElem?_eq_getElem q')
section
variable {P : Program} {w : World} {K : PySem.W.Frag} {mg : Str → Option Value} {base : Heap} [IK]
/-- a def by its body, over data -/
theorem FnG.data {x qual : Str} {st : Stmt} {f : Addr} {fd : FuncData} {N ps : List Str} {k : Nat} {φ : PF} (F : Fun K x qual st f fd) (S : FnScope N ps (defScope st)) (hN : ps.length ≤ N.length)
    (ln : ∀ Δ Ψ, φ Δ Ψ → Δ.length = ps.length)
    (run : ∀ (cdv : Value) (A : Around) (outer : List PySem.Env) (s : Shared) (H : Hp) (E : XK) (Δ : List D) (Ψ : D → Prop),
      (A.deeper (envOfC qual (defScope st) s.heap.objs.size f cdv)).guards = some [] → Room k (A.deeper (envOfC qual (defScope st) s.heap.objs.size f cdv)) → φ Δ Ψ →
      ∃ t w', XSs (cxOf CX0 P w K mg base N qual (defScope st) f cdv A outer s H E).nox (defBody st) t w' ∧ w' (startG N.length Δ) { nx := fun _ => Ψ (.v .none), rt := fun r => Fine r ∧ Ψ r }) :
    FnG P w K mg base CX0 (k + 1) f fd ps (spD K IK.ks φ) := by
  refine FnG.by0 F S (fun vs H Q E h => ?_) (fun cdv A outer s H vs Q E g r h => ?_)
  · obtain ⟨M, U, Δ, Ψ, _, _, hp, hφ, _⟩ := h
    rw [← hp.len]; exact ln _ _ hφ
  · obtain ⟨M, U, Δ, Ψ, tr, uM, hp, hφ, k⟩ := h
    obtain ⟨t, w', ⟨p, gd⟩, hw⟩ := run cdv A outer s H E Δ Ψ g r hφ
    refine ⟨t, p, ?_⟩
    have hl : vs.length ≤ N.length := by
      have := hp.len
      have := ln _ _ hφ
      omega
    have R := start_rel (N := N) hl tr uM hp
    refine gd ⟨K, M, U, H, IK.ks⟩ ⟨rfl, rfl⟩ 0 noFr _ _ H _ _ (fun _ _ => rfl) (fun _ _ _ z => by cases z) R hw ⟨fun Γ σ H' z R' => ?_, fun rr x Γ σ H' z R' => ?_, fun _ _ _ z => z.elim, fun _ _ _ z => z.elim⟩
    · exact k (.v .none) .non H' z ⟨R'.e.kp, R'.e.dk, fun b hb => R'.e.tr b (R'.e.uM b hb), .v .non⟩
    · have ok := R'.e.ok (.inl 0) _ _ ent_held
      obtain ⟨fine, z⟩ := z
      refine k rr x H' z ⟨R'.e.kp, R'.e.dk, fun b hb => R'.e.tr b (R'.e.uM b hb), ?_⟩
      have less : ∀ b, M b → WE ⟨K, M, U, H, IK.ks⟩ (ent (upF noFr 0 (some (rr, x))) Γ σ) b := fun b z => .inl z
      cases ok with
      | v z => exact .v (Ac.tr (Tr.less less) _ z)
      | @own d a z =>
        refine .own (R'.e.ap _ _ _ ent_held).2 (z.tr (Tr.less fun b hb => ?_) rfl)
        rcases hb with hb | hb
        · exact .inl hb
        · exact .inr ⟨.inl 0, d, by rw [hb]; exact ent_held⟩
      | raw => exact .raw
      | bor => exact fine.elim
      | ro => exact fine.elim
      | deck => exact fine.elim
end
end Px
end

/-! Px5 -/
section
set_option Elab.async false
set_option linter.all false
set_option maxRecDepth 100000
set_option maxHeartbeats 2000000
set_option autoImplicit false
namespace Px
open PySem PySem.Spec PyProof.Rows L2 Dh

section
variable {C : Cc} {f f' : Fr} {Γ Γ' : Env} {σ σ' : SS} {H H' : Hp} {n n' : Nat}
/-- behind a call: what is held and the slots stand -/
theorem Rel.back {K : PySem.W.Frag} {ik : List Key} {r : D} {x : V} (R : Rel C f Γ σ H) (hf : Off f n) (hK : C.K = K) (hi : C.ik = ik) (B : Back K ik (WE C (ent f Γ σ)) C.U H H' r x) : Rel C (upF f n (some (r, x))) Γ σ H' := by
  subst hK hi
  have R1 : Rel C f Γ σ H' := R.kept B.kp B.dk B.tr
  cases B.ok with
  | v z => exact R1.holdV hf z
  | raw => exact R1.hold hf (fun _ z => by cases z) .raw
  | @own d a hn ho =>
    obtain ⟨nW, n0⟩ := R.e.fresh hn
    refine ⟨?_, R1.len, R1.full, R1.nb⟩
    rw [ent_up]
    have hk : ent f Γ σ (.inl n) = none := hf n (Nat.le_refl _)
    have e1 := R1.e
    have wsub : ∀ b, WE C (upE (ent f Γ σ) (.inl n) (some (.own d, .ref a))) b → WE C (ent f Γ σ) b ∨ b = a := by
      rintro b (z | ⟨j, d', z⟩)
      · exact .inl (.inl z)
      · by_cases y : j = .inl n
        · subst y; rw [upE_same] at z; cases z; exact .inr rfl
        · rw [upE_ne y] at z; exact .inl (.inr ⟨_, _, z⟩)
    have t : Tr (WE C (ent f Γ σ)) H (WE C (upE (ent f Γ σ) (.inl n) (some (.own d, .ref a)))) H' := by
      intro b u rd nb
      have ne : b ≠ a := ne_of_none rd hn
      have nu : b ∉ C.U := fun z => nb (.inl (R.e.uM _ z))
      refine ⟨B.kp _ _ rd nu, fun z => ?_⟩
      · rcases wsub b z with z | z
        · exact nb z
        · exact ne z
    refine ⟨fun j d' y q => ?_, fun i j d1 d2 b q q' => ?_, fun j d' b q => ?_, e1.kp, e1.tr, e1.uM, e1.dk⟩
    · by_cases h : j = .inl n
      · subst h; rw [upE_same] at q; cases q
        exact .own (ho.tr (Tr.less wsub) rfl)
      · rw [upE_ne h] at q
        refine (R.e.ok _ _ _ q).tr t (fun b z => ?_) B.dk (fun _ _ z => z)
        have th : ∃ o, H b = some o := by
          rcases z with ⟨d', rfl, rfl⟩ | ⟨z, _⟩
          · cases R.e.ok _ _ _ q with | own h => exact h.there
          · exact R.e.tr _ z
        have nu : b ∉ C.U := by
          rcases z with ⟨d', rfl, rfl⟩ | ⟨_, z⟩
          · exact fun y => (R.e.ap _ _ _ q).1 (R.e.uM _ y)
          · exact z
        obtain ⟨o, ho'⟩ := th
        rw [ho']; exact B.kp _ _ ho' nu
    · have no : ∀ k d3, ent f Γ σ k ≠ some (.own d3, .ref a) := fun k d3 z => nW (.inr ⟨_, _, z⟩)
      by_cases h : i = .inl n
      · by_cases h' : j = .inl n
        · rw [h, h']
        · subst h; rw [upE_same] at q; cases q
          rw [upE_ne h'] at q'; exact absurd q' (no _ _)
      · rw [upE_ne h] at q
        by_cases h' : j = .inl n
        · subst h'; rw [upE_same] at q'; cases q'
          exact absurd q (no _ _)
        · rw [upE_ne h'] at q'
          exact R.e.inj _ _ _ _ _ q q'
    · by_cases h : j = .inl n
      · subst h; rw [upE_same] at q; cases q
        exact ⟨fun z => nW (.inl z), n0⟩
      · rw [upE_ne h] at q
        exact R.e.ap _ _ _ q
end
section
variable {X : Cx} [IK]
/-- f(e, ..), f a def of one's own -/
def wCall (φ : PF) (wA : PXP) : PX := fun Γ Φ => wA Γ fun Δ Γ1 => φ Δ fun r => Φ r Γ1
theorem de_call {C : Cc} {φ : PF} {ta : TA} {wA : PXP} (hK : Cok C X) (g : DP C ta wA) (E : XK) : DE C (fun σ H Q => ta σ H fun vs H1 => spD X.K IK.ks φ vs H1 Q E) (wCall φ wA) := by
  intro n f Γ σ H Q Φ off R w k
  refine g n f Γ σ H _ _ off R w ?_
  intro Δ xs Γ1 H1 φ1 R1 ps
  refine ⟨WE C (ent f Γ1 σ), C.U, Δ, fun r => Φ r Γ1, fun b hb => ?_, fun b hb => .inl (R1.e.uM b hb), by rw [← hK.k, ← hK.i]; exact ps, φ1, fun r x H' φ2 B => k _ _ _ _ φ2 (R1.back off hK.k hK.i B)⟩
  rcases hb with hb | ⟨j, d, hb⟩
  · exact R1.e.tr _ hb
  · cases R1.e.ok _ _ _ hb with
    | own h => exact h.there
theorem xe_call {e : Expr} {es : List Expr} {x : Str} {p pos : Pos} {k : Nat} {f : Addr} {fd : FuncData} {ps : List Str} {φ : PF} {t : TA} {wA : PXP} (F : FnG X.prog X.w X.K X.mg X.base CX0 k f fd ps (spD X.K IK.ks φ)) (noG : X.A.guards = some []) (room : Room k X.A) (hg : Gl X x) (hm : X.mg x = some (.ref f)) (hk : PySem.W.keepIn X.K (.ref f) = true)
    (hb : Binds X.K fd ps []) (hA : XP X (e :: es) t wA) (hdb : (x == ("__debug__" : Str)) = false := by decide)
    (he : starEach (e :: es) X.env = (false, eval e X.env) :: starEach es X.env := by rfl) (hpl : (backTo pos (starEach es X.env)).any (·.1) = false := by rfl) :
    XE X (.Call (.Name x p) (e :: es) [] pos) (tCall (spD X.K IK.ks φ) [] (fun _ _ _ => False) t) (wCall φ wA) := by
  obtain ⟨pt, g⟩ := hA
  refine ⟨Dh.pe_callG F noG room hg hm hk hb (E := fun _ _ _ => False) pass0 pt hdb he hpl, fun C hK => ?_⟩
  have e : tCall (spD X.K IK.ks φ) [] (fun _ _ _ => False) t = fun σ H Q => t σ H fun vs H1 => spD X.K IK.ks φ vs H1 Q fun _ _ _ => False := by
    funext σ H Q
    unfold tCall
    simp only [List.append_nil]
  rw [e]
  exact de_call (φ := φ) hK (g C hK) (fun _ _ _ => False)

/-! ### targets -/
abbrev PG' := PyData → Env → (Env → Prop) → Prop
abbrev PGs' := List PyData → Env → (Env → Prop) → Prop
def DG (C : Cc) (t : TG) (g : PG') (ts : List Nat) : Prop := ∀ (n : Nat) (f : Fr) (Γ : Env) (σ : SS) (H : Hp) (x : V) (d : PyData) (Q : SS → Hp → Prop) (Φ : Env → Prop), Off f n → NoBor f → Rel C f Γ σ H → Ac C.K (WE C (ent f Γ σ)) H x d → g d Γ Φ →
  (∀ Γ' σ' H', Φ Γ' → Rel C f Γ' σ' H' → Tr (WE C (ent f Γ σ)) H (WE C (ent f Γ' σ')) H' → (∀ vs : List Nat, (∀ i ∈ ts, i ∈ vs) → L2.wipe σ' vs = L2.wipe σ vs) → Q σ' H') → t x σ H Q
def DGs (C : Cc) (t : TGs) (g : PGs') (ts : List Nat) : Prop := ∀ (n : Nat) (f : Fr) (Γ : Env) (σ : SS) (H : Hp) (xs : List V) (ds : List PyData) (Q : SS → Hp → Prop) (Φ : Env → Prop), Off f n → NoBor f → Rel C f Γ σ H → AcL C.K (WE C (ent f Γ σ)) H xs ds → g ds Γ Φ →
  (∀ Γ' σ' H', Φ Γ' → Rel C f Γ' σ' H' → Tr (WE C (ent f Γ σ)) H (WE C (ent f Γ' σ')) H' → (∀ vs : List Nat, (∀ i ∈ ts, i ∈ vs) → L2.wipe σ' vs = L2.wipe σ vs) → Q σ' H') → t xs σ H Q
def XG (X : Cx) (e : Expr) (t : TG) (g : PG') (ts : List Nat) : Prop := PG X e t ∧ ∀ C : Cc, Cok C X → DG C t g ts
def XGs (X : Cx) (es : List Expr) (t : TGs) (g : PGs') (ts : List Nat) : Prop := PGs X es t ∧ ∀ C : Cc, Cok C X → DGs C t g ts
def gN (i : Nat) : PG' := fun d Γ Φ => Φ (Γ.set i (some (.v d)))
def gNil' : PGs' := fun ds Γ Φ => ds = [] ∧ Φ Γ
def gCons' (g : PG') (gs : PGs') : PGs' := fun ds Γ Φ => ∃ d r, ds = d :: r ∧ g d Γ fun Γ1 => gs r Γ1 Φ
def gT (n : Nat) (gs : PGs') : PG' := fun d Γ Φ => ∃ ds, d = .tuple ds ∧ ds.length = n ∧ gs ds Γ Φ
theorem set_own {f : Fr} {Γ : Env} {σ : SS} {i : Nat} {d : PyData} {x : V} {C : Cc} (l : Γ.length = σ.length) : ∀ a, WE C (ent f (Γ.set i (some (.v d))) (σ.set i (some x))) a → WE C (ent f Γ σ) a := by
  intro a z
  by_cases hi : i < Γ.length
  · rw [ent_set l hi] at z
    rcases z with z | ⟨k, d', z⟩
    · exact .inl z
    · by_cases q : k = .inr i
      · subst q; rw [upE_same] at z; cases z
      · rw [upE_ne q] at z; exact .inr ⟨_, _, z⟩
  · rwa [List.set_eq_of_length_le (by omega), List.set_eq_of_length_le (by omega)] at z
theorem wipe_in {σ : SS} {i : Nat} {o : Option V} : ∀ {vs : List Nat}, i ∈ vs → L2.wipe (σ.set i o) vs = L2.wipe σ vs
  | [], h => by cases h
  | v :: vs, h => by
    show (L2.wipe (σ.set i o) vs).set v none = (L2.wipe σ vs).set v none
    by_cases q : i ∈ vs
    · rw [wipe_in q]
    · have e : i = v := by
        rcases List.mem_cons.mp h with z | z
        · exact z
        · exact absurd z q
      subst e
      have go : ∀ ws : List Nat, L2.wipe (σ.set i o) ws = (L2.wipe σ ws).set i (if i ∈ ws then none else o) := by
        intro ws
        induction ws with
        | nil => simp [L2.wipe]
        | cons w ws ih =>
          show (L2.wipe (σ.set i o) ws).set w none = ((L2.wipe σ ws).set w none).set i _
          rw [ih]
          by_cases qw : i = w
          · subst qw
            simp [List.set_set]
          · rw [List.set_comm _ _ qw]
            have : (i ∈ w :: ws) = (i ∈ ws) := by simp [qw]
            simp only [this]
      rw [go vs, List.set_set]
theorem dg_name {C : Cc} {i : Nat} : DG C (gName i) (gN i) [i] := by
  intro n f Γ σ H x d Q Φ off nb R a φ k
  exact k _ _ _ φ ((R.holdV off a).toSlot' off nb (fun _ z => by cases z) i) (Tr.less (set_own R.len)) (fun vs h => wipe_in (h i (by simp)))
theorem xg_name {i : Nat} {x : Str} {pos : Pos} (hN : X.N.Nodup) (hi : X.N[i]? = some x) (hx : Loc X.env.scope x) (hf : X.fn x = true ∨ X.env.scope.names.lookup x = some .local := by first | exact .inl rfl | exact .inr rfl | assumption) : XG X (.Name x pos) (gName i) (gN i) [i] :=
  ⟨pg_name hN hi hx hf, fun C _ => dg_name⟩
theorem xgs_nil : XGs X [] gNil gNil' [] := ⟨pgs_nil, fun C hK n f Γ σ H xs ds Q Φ off nb R a φ k => by
  obtain ⟨rfl, φ⟩ := φ
  cases a
  exact ⟨rfl, k _ _ _ φ R (Tr.refl _ _) (fun _ _ => rfl)⟩⟩
theorem xgs_cons {e : Expr} {es : List Expr} {t : TG} {t2 : TGs} {g : PG'} {gs : PGs'} {ts ts2 : List Nat} (h1 : XG X e t g ts) (h2 : XGs X es t2 gs ts2) (hs : (assignEach (e :: es) X.env).map (·.2) = assign e X.env :: (assignEach es X.env).map (·.2) := by rfl) : XGs X (e :: es) (gCons t t2) (gCons' g gs) (ts ++ ts2) := by
  obtain ⟨p, g1⟩ := h1
  obtain ⟨p2, g2⟩ := h2
  refine ⟨pgs_cons p p2 hs, fun C hK n f Γ σ H xs ds Q Φ off nb R a φ k => ?_⟩
  obtain ⟨d, r, rfl, φ⟩ := φ
  cases a with
  | cons a b =>
    refine ⟨_, _, rfl, g1 C hK n f Γ σ H _ _ _ _ off nb R a φ ?_⟩
    intro Γ1 σ1 H1 φ1 R1 w1 v1
    refine g2 C hK n f Γ1 σ1 H1 _ _ _ _ off nb R1 (AcL.tr w1 _ b) φ1 ?_
    intro Γ2 σ2 H2 φ2 R2 w2 v2
    exact k _ _ _ φ2 R2 (w1.trans w2) fun vs h => (v2 vs fun i hi => h i (List.mem_append_right _ hi)).trans (v1 vs fun i hi => h i (List.mem_append_left _ hi))
theorem xg_tup {es : List Expr} {k : Nat} {t : TGs} {gs : PGs'} {ts : List Nat} {n : Nat} {pos : Pos} (hc : X.calm = true) (h : XGs X es t gs ts) (hn : (assignEach es X.env).length = n := by rfl) (hst : (assignEach es X.env).findIdx? (·.1) = none := by rfl) : XG X (.Tuple es k pos) (gTup X.K n t) (gT n gs) ts := by
  obtain ⟨p, g⟩ := h
  refine ⟨pg_tup hc p hn hst, fun C hK m f Γ σ H x d Q Φ off nb R a φ k => ?_⟩
  obtain ⟨ds, rfl, hl, φ⟩ := φ
  have ha := a
  cases a with
  | tup h1 h2 h3 => exact ⟨_, _, rfl, .inl (.inl h1), h3.len.trans hl, g C hK m f Γ σ H _ _ _ _ off nb R h3 φ k⟩
  | tupK h1 h3 =>
    refine ⟨_, _, rfl, .inr ?_, h3.len.trans hl, g C hK m f Γ σ H _ _ _ _ off nb R h3 φ k⟩
    rw [← hK.k]; exact h1
/-- targets = e: what e gives is kept as data -/
def wAsg (w : PX) (g : PG') : PXS := fun Γ Φ => w Γ fun r Γ1 => ∃ d Γ2, frz Γ1 r = some (d, Γ2) ∧ g d Γ2 Φ.nx
theorem xs_asg {tg e : Expr} {t : TE} {t2 : TG} {w : PX} {g : PG'} {ts : List Nat} {pos : Pos} (he : XE X e t w) (hg : XG X tg t2 g ts) (hs : swapsWithSole [tg] e pos.line X.env = pure false := by rfl) (hw : swappedStores [tg] e X.env = pure none := by rfl)
    (h1 : (assignEach [tg] X.env).map (·.2) = [assign tg X.env] := by rfl) : XS X (.Assign [tg] e pos) (tAsg t t2) (wAsg w g) := by
  obtain ⟨p, g1⟩ := he
  obtain ⟨p2, g2⟩ := hg
  refine ⟨ps_asg p p2 hs hw h1, fun C hK n f Γ σ H D Φ off nb R w F => g1 C hK n f Γ σ H _ _ off R w ?_⟩
  rintro r x Γ1 H1 ⟨d, Γ2, hz, φ⟩ R1
  have R2 := R1.frzR off hz
  have a := Ac.tr (Tr.drop off) _ R2.heldV
  exact g2 C hK n f Γ2 σ H1 x d _ _ off nb (R2.drop off) a φ fun Γ3 σ3 H3 φ3 R3 _ _ => F.nx _ _ _ φ3 R3

/-! ### what a for walks -/
abbrev PI' := Env → (List PyData → Env → Prop) → Prop
def Grow (H H' : Hp) : Prop := H' = H ∨ ∃ p o, H p = none ∧ H' = upd H p o
structure ItOk (C : Cc) (Hd : Fr → Prop) (G : Env → Prop) (J : It) (ds : List PyData) : Prop where
  go : ∀ (g : Fr) (Γ : Env) (σ : SS) (H : Hp) (i : Nat), Hd g → G Γ → Rel C g Γ σ H → i < ds.length → J.go i H
  stop : ∀ (g : Fr) (Γ : Env) (σ : SS) (H : Hp) (i : Nat), Hd g → G Γ → Rel C g Γ σ H → ds.length ≤ i → J.stop i H
  yld : ∀ (g : Fr) (Γ : Env) (σ : SS) (H : Hp) (i : Nat) (d : PyData) (x : V) (H' : Hp), Hd g → G Γ → Rel C g Γ σ H → ds[i]? = some d → J.yld i H x H' → Grow H H' ∧ Ac C.K (WE C (ent g Γ σ)) H' x d
def DI (C : Cc) (t : TI) (w : PI') : Prop := ∀ (n : Nat) (f : Fr) (Γ : Env) (σ : SS) (H : Hp) (R : It → Hp → Prop) (Φ : List PyData → Env → Prop), Off f n → Rel C f Γ σ H → w Γ Φ →
  (∀ ds J Γ' H' n' f' (Hd : Fr → Prop), Φ ds Γ' → n ≤ n' → Off f' n' → (∀ m, m < n → f' m = f m) → (∀ m i x, n ≤ m → f' m ≠ some (.bor i, x)) → Rel C f' Γ' σ H' → Hd f' → (∀ g g', (∀ m, n ≤ m → m < n' → g' m = g m) → Hd g → Hd g') → ItOk C Hd (fun _ => True) J ds → R J H') → t σ H R
def XI (X : Cx) (tg iter : Expr) (t : TI) (w : PI') : Prop := PI X tg iter t ∧ ∀ C : Cc, Cok C X → DI C t w
theorem Rel.less {C : Cc} {f f' : Fr} {Γ : Env} {σ : SS} {H : Hp} {n : Nat} (R : Rel C f' Γ σ H) (hf : Off f n) (h : ∀ m, m < n → f' m = f m) : Rel C f Γ σ H := by
  refine ⟨R.e.sub fun k o q => ?_, R.len, R.full, R.nb⟩
  · cases k with
    | inr i => exact q
    | inl m =>
      have q' : f m = some o := q
      by_cases hm : m < n
      · show f' m = some o
        rw [h m hm]; exact q'
      · rw [hf m (by omega)] at q'; cases q'
/-- what is held at n' is held at n -/
theorem Rel.down {C : Cc} {f f' : Fr} {Γ : Env} {σ : SS} {H : Hp} {n n' : Nat} {o : Option (D × V)} (R : Rel C (upF f' n' o) Γ σ H) (hf : Off f n) (hn : n ≤ n') (h : ∀ m, m < n → f' m = f m) : Rel C (upF f n o) Γ σ H := by
  refine ⟨?_, R.len, R.full, R.nb⟩
  have keep : ∀ m u, f m = some u → m < n := fun m u q => by
    rcases Nat.lt_or_ge m n with z | z
    · exact z
    · rw [hf m z] at q; cases q
  refine R.e.re (fun k => if k = .inl n then .inl n' else k) (fun k u q => ?_) (fun k j q q' z => ?_)
  · rw [ent_up] at q
    by_cases e : k = .inl n
    · subst e
      rw [upE_same] at q
      rw [if_pos rfl, ent_up, upE_same]; exact q
    · rw [upE_ne e] at q
      rw [if_neg e, ent_up]
      cases k with
      | inr i => rw [upE_ne (fun z => by cases z)]; exact q
      | inl m =>
        have lt := keep m u q
        rw [upE_ne (fun z => by cases z; omega)]
        show f' m = some u
        rw [h m lt]; exact q
  · have low : ∀ k, k ≠ .inl n → (ent (upF f n o) Γ σ k).isSome = true → k ≠ .inl n' := by
      intro k e q z
      rw [ent_up, upE_ne e] at q
      subst z
      have : (f n').isSome = true := q
      rw [hf n' hn] at this; cases this
    by_cases e : k = .inl n
    · by_cases e' : j = .inl n
      · rw [e, e']
      · rw [if_pos e, if_neg e'] at z
        exact absurd z.symm (low j e' q')
    · by_cases e' : j = .inl n
      · rw [if_neg e, if_pos e'] at z
        exact absurd z (low k e q)
      · rwa [if_neg e, if_neg e'] at z
theorem Rel.grow {C : Cc} {f : Fr} {Γ : Env} {σ : SS} {H H' : Hp} (R : Rel C f Γ σ H) (g : Grow H H') : Rel C f Γ σ H' := by
  rcases g with rfl | ⟨p, o, hp, rfl⟩
  · exact R
  · exact R.alloc hp
/-! ### for -/
def loopW (g : PG') (b : PXS) : List PyData → PXS
  | [], Γ, Φ => Φ.nx Γ
  | d :: ds, Γ, Φ => g d Γ fun Γ1 => b Γ1 { nx := fun Γ2 => loopW g b ds Γ2 Φ, rt := Φ.rt, bk := Φ.nx, ct := fun Γ2 => loopW g b ds Γ2 Φ }
def wFor (wi : PI') (g : PG') (b : PXS) : PXS := fun Γ Φ => wi Γ fun ds Γ1 => loopW g b ds Γ1 Φ
theorem xs_for {iter tg : Expr} {body : List Stmt} {t1 : TI} {t2 : TG} {t3 : TS} {wi : PI'} {g : PG'} {b : PXS} {ts : List Nat} {pos : Pos} (hp : PassesOwn (model X.prog X.w) X.A X.env X.xe) (hc : X.calm = true) (hi : XI X tg iter t1 wi) (hg : XG X tg t2 g ts) (hb : XSs X body t3 b)
    (hs : ∀ x, foldedSetIterable iter X.env x = pure x := by intro _; rfl) : XS X (.For tg iter body [] pos) (tFor t1 t2 t3) (wFor wi g b) := by
  obtain ⟨p1, g1⟩ := hi
  obtain ⟨p2, g2⟩ := hg
  obtain ⟨p3, g3⟩ := hb
  refine ⟨ps_for hp hc p1 p2 p3 hs, fun C hK n f Γ σ H D Φ off nb R w F => g1 C hK n f Γ σ H _ _ off R w ?_⟩
  intro ds J Γ1 H1 n' f' Hd φ hn off' low nbh R1 hd hst ok
  have nb' : NoBor f' := fun m i x => by
    by_cases hm : m < n
    · rw [low m hm]; exact nb m i x
    · exact nbh m i x (by omega)
  refine ⟨fun i m σ2 H2 => m = ds.length - i ∧ i ≤ ds.length ∧ ∃ Γ2, Rel C f' Γ2 σ2 H2 ∧ loopW g b (ds.drop i) Γ2 Φ, ⟨_, rfl, Nat.zero_le _, Γ1, R1, by simpa using φ⟩, ?_⟩
  rintro i m σ2 H2 ⟨rfl, hi, Γ2, R2, φ2⟩
  rcases Nat.lt_or_ge i ds.length with lt | ge
  · have hd' : ds[i]? = some ds[i] := List.getElem?_eq_getElem lt
    rw [List.drop_eq_getElem_cons lt] at φ2
    refine .inr ⟨ok.go f' Γ2 σ2 H2 i hd trivial R2 lt, fun σ3 H3 => ∃ Γ3, Rel C f' Γ3 σ3 H3 ∧ loopW g b (ds.drop (i + 1)) Γ3 Φ, fun σ3 H3 z => ⟨ds.length - (i + 1), by omega, rfl, lt, z⟩, fun x H3 y => ?_⟩
    obtain ⟨gr, a⟩ := ok.yld f' Γ2 σ2 H2 i _ x H3 hd trivial R2 hd' y
    have R3 := R2.grow gr
    refine g2 C hK n' f' Γ2 σ2 H3 x _ _ _ off' nb' R3 a φ2 ?_
    intro Γ4 σ4 H4 φ4 R4 _ _
    exact g3 C hK n' f' Γ4 σ4 H4 _ _ off' nb' R4 φ4 ⟨fun Γ5 σ5 H5 z R5 => ⟨Γ5, R5, z⟩, fun r x Γ5 σ5 H5 z R5 => F.rt r x Γ5 σ5 H5 z (R5.down off hn low), fun Γ5 σ5 H5 z R5 => F.nx _ _ _ z (R5.less off low), fun Γ5 σ5 H5 z R5 => ⟨Γ5, R5, z⟩⟩
  · refine .inl ⟨ok.stop f' Γ2 σ2 H2 i hd trivial R2 ge, ?_⟩
    rw [List.drop_eq_nil_of_le ge] at φ2
    exact F.nx _ _ _ φ2 (R2.less off low)
/-- while, by a word and a measure -/
def wWhile (c : PXT) (b : PXS) : PXS := fun Γ Φ => ∃ I : Nat → Env → Prop, (∃ m, I m Γ) ∧ ∀ m Γ1, I m Γ1 → c Γ1 fun k Γ2 => (k = true → b Γ2 { nx := fun Γ3 => ∃ m', m' < m ∧ I m' Γ3, rt := Φ.rt, bk := Φ.nx, ct := fun Γ3 => ∃ m', m' < m ∧ I m' Γ3 }) ∧ (k = false → Φ.nx Γ2)
theorem xs_while {c : Expr} {body : List Stmt} {t1 : TT} {t2 : TS} {wc : PXT} {b : PXS} {pos : Pos} (hp : PassesOwn (model X.prog X.w) X.A X.env X.xe) (hc : XT X c t1 wc) (hb : XSs X body t2 b) : XS X (.While c body [] pos) (tWhile t1 t2) (wWhile wc b) := by
  obtain ⟨p1, g1⟩ := hc
  obtain ⟨p2, g2⟩ := hb
  refine ⟨ps_while hp p1 p2, fun C hK n f Γ σ H D Φ off nb R w F => ?_⟩
  obtain ⟨I, ⟨m0, i0⟩, turn⟩ := w
  refine ⟨fun m σ1 H1 => ∃ Γ1, Rel C f Γ1 σ1 H1 ∧ I m Γ1, ⟨m0, Γ, R, i0⟩, ?_⟩
  rintro m σ1 H1 ⟨Γ1, R1, i1⟩
  refine g1 C hK n f Γ1 σ1 H1 _ _ off R1 (turn m Γ1 i1) ?_
  rintro k Γ2 H2 ⟨φ1, φ2⟩ R2
  cases k with
  | true =>
    rw [if_pos rfl]
    refine ⟨fun σ3 H3 => ∃ Γ3, Rel C f Γ3 σ3 H3 ∧ ∃ m', m' < m ∧ I m' Γ3, fun σ3 H3 ⟨Γ3, R3, m', lt, i3⟩ => ⟨m', lt, Γ3, R3, i3⟩, ?_⟩
    exact g2 C hK n f Γ2 σ1 H2 _ _ off nb R2 (φ1 rfl) ⟨fun Γ3 σ3 H3 z R3 => ⟨Γ3, R3, z⟩, F.rt, F.nx, fun Γ3 σ3 H3 z R3 => ⟨Γ3, R3, z⟩⟩
  | false =>
    rw [if_neg (by decide)]
    exact F.nx _ _ _ (φ2 rfl) R2
end
end Px
end

/-! Px6 -/
section
set_option Elab.async false
set_option linter.all false
set_option maxRecDepth 100000
set_option maxHeartbeats 2000000
set_option autoImplicit false
namespace Px
open PySem PySem.Spec PyProof.Rows L2 Dh

/-! ### iterators over what is held -/
section
variable {C : Cc} {Hd : Fr → Prop} {G : Env → Prop} [IK]
theorem AcL.get {K : PySem.W.Frag} {W : AS} {H : Hp} {xs : List V} {ds : List PyData} (h : AcL K W H xs ds) {i : Nat} {d : PyData} (e : ds[i]? = some d) : ∃ v, xs[i]? = some v ∧ Ac K W H v d := h.at e
theorem itok_list {a : Addr} {ds : List PyData} (h : ∀ g Γ σ H, Hd g → G Γ → Rel C g Γ σ H → ∃ xs, SqL C.K H a xs ∧ AcL C.K (WE C (ent g Γ σ)) H xs ds) : ItOk C Hd G (Itl C.K a) ds where
  go g Γ σ H i hg hG R lt := by
    obtain ⟨xs, hq, ha⟩ := h g Γ σ H hg hG R
    obtain ⟨v, hv, _⟩ := ha.at (List.getElem?_eq_getElem lt)
    exact ⟨xs, v, hq, hv⟩
  stop g Γ σ H i hg hG R ge := by
    obtain ⟨xs, hq, ha⟩ := h g Γ σ H hg hG R
    exact ⟨xs, hq, by rw [ha.len]; exact ge⟩
  yld g Γ σ H i d x H' hg hG R hd y := by
    obtain ⟨xs, hq, ha⟩ := h g Γ σ H hg hG R
    obtain ⟨v, hv, hd⟩ := ha.at hd
    obtain ⟨rfl, y⟩ := y
    have := y xs hq
    rw [hv] at this; cases this
    exact ⟨.inl rfl, hd⟩
theorem itok_tup {a : Addr} {ds : List PyData} (h : ∀ g Γ σ H, Hd g → G Γ → Rel C g Γ σ H → ∃ xs, SqT C.K H a xs ∧ AcL C.K (WE C (ent g Γ σ)) H xs ds) : ItOk C Hd G (Itt C.K a) ds where
  go g Γ σ H i hg hG R lt := by
    obtain ⟨xs, hq, ha⟩ := h g Γ σ H hg hG R
    obtain ⟨v, hv, _⟩ := ha.at (List.getElem?_eq_getElem lt)
    exact ⟨xs, v, hq, hv⟩
  stop g Γ σ H i hg hG R ge := by
    obtain ⟨xs, hq, ha⟩ := h g Γ σ H hg hG R
    exact ⟨xs, hq, by rw [ha.len]; exact ge⟩
  yld g Γ σ H i d x H' hg hG R hd y := by
    obtain ⟨xs, hq, ha⟩ := h g Γ σ H hg hG R
    obtain ⟨v, hv, hd⟩ := ha.at hd
    obtain ⟨rfl, y⟩ := y
    have := y xs hq
    rw [hv] at this; cases this
    exact ⟨.inl rfl, hd⟩
def rangeD (lo : Int) (n : Nat) : List PyData := (List.range n).map fun (i : Nat) => .int (lo + i)
theorem rangeD_len (lo : Int) (n : Nat) : (rangeD lo n).length = n := by unfold rangeD; rw [List.length_map, List.length_range]
theorem itok_range {lo : Int} {n : Nat} : ItOk C Hd G (Itr lo n) (rangeD lo n) where
  go g Γ σ H i hg hG R lt := by rw [rangeD_len] at lt; exact lt
  stop g Γ σ H i hg hG R ge := by rw [rangeD_len] at ge; exact ge
  yld g Γ σ H i d x H' hg hG R hd y := by
    obtain ⟨rfl, rfl⟩ := y
    unfold rangeD at hd
    rw [List.getElem?_map] at hd
    cases e : (List.range n)[i]? with
    | none => rw [e] at hd; cases hd
    | some j =>
      rw [e] at hd
      have : j = i := by
        have := List.getElem?_eq_some_iff.mp e
        obtain ⟨h1, h2⟩ := this
        rw [List.getElem_range] at h2; exact h2.symm
      subst this
      cases hd
      exact ⟨.inl rfl, .int _⟩
def enumFrom : Nat → List PyData → List PyData
  | _, [] => []
  | i, d :: ds => .tuple [.int (i : Int), d] :: enumFrom (i + 1) ds
theorem enum_len : ∀ (i : Nat) (ds : List PyData), (enumFrom i ds).length = ds.length
  | _, [] => rfl
  | i, d :: ds => by simp [enumFrom, enum_len]
theorem enum_get : ∀ (ds : List PyData) (j i : Nat), (enumFrom j ds)[i]? = ds[i]?.map fun d => .tuple [.int ((j + i : Nat) : Int), d]
  | [], _, _ => by simp [enumFrom]
  | d :: ds, j, 0 => by simp [enumFrom]
  | d :: ds, j, i + 1 => by
    simp only [enumFrom, List.getElem?_cons_succ]
    rw [enum_get ds (j + 1) i]
    have : j + 1 + i = j + (i + 1) := by omega
    rw [this]
theorem itok_enum {a : Addr} {ds : List PyData} (h : ∀ g Γ σ H, Hd g → G Γ → Rel C g Γ σ H → ∃ xs, SqL C.K H a xs ∧ AcL C.K (WE C (ent g Γ σ)) H xs ds) : ItOk C Hd G (Ite C.K a) (enumFrom 0 ds) where
  go g Γ σ H i hg hG R lt := by
    obtain ⟨xs, hq, ha⟩ := h g Γ σ H hg hG R
    rw [enum_len] at lt
    obtain ⟨v, hv, _⟩ := ha.at (List.getElem?_eq_getElem lt)
    exact ⟨xs, v, hq, hv⟩
  stop g Γ σ H i hg hG R ge := by
    obtain ⟨xs, hq, ha⟩ := h g Γ σ H hg hG R
    rw [enum_len] at ge
    exact ⟨xs, hq, by rw [ha.len]; exact ge⟩
  yld g Γ σ H i d x H' hg hG R hd y := by
    obtain ⟨xs, hq, ha⟩ := h g Γ σ H hg hG R
    rw [enum_get] at hd
    obtain ⟨T, z, rfl, hT, rfl, y⟩ := y
    cases e : ds[i]? with
    | none => rw [e] at hd; cases hd
    | some d0 =>
      rw [e] at hd; cases hd
      obtain ⟨v, hv, hd⟩ := ha.at e
      have := y xs hq
      rw [hv] at this; cases this
      refine ⟨.inr ⟨_, _, hT, rfl⟩, .tup upd_same (R.e.fresh hT).1 (.cons ?_ (.cons (Ac.tr (Tr.new hT) _ hd) .nil))⟩
      rw [Nat.zero_add]
      exact .int _
def zipD : List PyData → List PyData → List PyData
  | d :: ds, e :: es => .tuple [d, e] :: zipD ds es
  | _, _ => []
theorem zip_get : ∀ (ds es : List PyData) (i : Nat), (zipD ds es)[i]? = (ds[i]?).bind fun d => (es[i]?).map fun e => .tuple [d, e]
  | [], _, i => by simp [zipD]
  | d :: ds, [], i => by
    cases i with
    | zero => simp [zipD]
    | succ i => simp [zipD]
  | d :: ds, e :: es, 0 => by simp [zipD]
  | d :: ds, e :: es, i + 1 => by
    simp only [zipD, List.getElem?_cons_succ]
    exact zip_get ds es i
theorem zip_len : ∀ (ds es : List PyData), (zipD ds es).length = min ds.length es.length
  | [], _ => by simp [zipD]
  | d :: ds, [] => by simp [zipD]
  | d :: ds, e :: es => by simp [zipD, zip_len ds es]
theorem itok_zipT {a b : Addr} {ds es : List PyData} (h : ∀ g Γ σ H, Hd g → G Γ → Rel C g Γ σ H → (∃ xs, SqT C.K H a xs ∧ AcL C.K (WE C (ent g Γ σ)) H xs ds) ∧ ∃ xs, SqT C.K H b xs ∧ AcL C.K (WE C (ent g Γ σ)) H xs es) : ItOk C Hd G (RZ.ItzT C.K a b) (zipD ds es) where
  go g Γ σ H i hg hG R lt := by
    obtain ⟨⟨xs, hq, ha⟩, ys, hr, hb⟩ := h g Γ σ H hg hG R
    rw [zip_len] at lt
    obtain ⟨v, hv, _⟩ := ha.at (i := i) (List.getElem?_eq_getElem (by omega))
    obtain ⟨u, hu, _⟩ := hb.at (i := i) (List.getElem?_eq_getElem (by omega))
    exact ⟨xs, ys, v, u, hq, hr, hv, hu⟩
  stop g Γ σ H i hg hG R ge := by
    obtain ⟨⟨xs, hq, ha⟩, ys, hr, hb⟩ := h g Γ σ H hg hG R
    rw [zip_len] at ge
    refine ⟨xs, ys, hq, hr, ?_⟩
    rw [ha.len, hb.len]; omega
  yld g Γ σ H i d x H' hg hG R hd y := by
    obtain ⟨⟨xs, hq, ha⟩, ys, hr, hb⟩ := h g Γ σ H hg hG R
    rw [zip_get] at hd
    obtain ⟨T, z, z2, rfl, hT, rfl, y, y2⟩ := y
    cases e : ds[i]? with
    | none => rw [e] at hd; cases hd
    | some d0 =>
      cases e2 : es[i]? with
      | none => rw [e, e2] at hd; cases hd
      | some d1 =>
        rw [e, e2] at hd; cases hd
        obtain ⟨v, hv, h1⟩ := ha.at e
        obtain ⟨u, hu, h2⟩ := hb.at e2
        have := y xs hq
        rw [hv] at this; cases this
        have := y2 ys hr
        rw [hu] at this; cases this
        exact ⟨.inr ⟨_, _, hT, rfl⟩, .tup upd_same (R.e.fresh hT).1 (.cons (Ac.tr (Tr.new hT) _ h1) (.cons (Ac.tr (Tr.new hT) _ h2) .nil))⟩
theorem itok_zipL {a b : Addr} {ds es : List PyData} (h : ∀ g Γ σ H, Hd g → G Γ → Rel C g Γ σ H → (∃ xs, SqL C.K H a xs ∧ AcL C.K (WE C (ent g Γ σ)) H xs ds) ∧ ∃ xs, SqL C.K H b xs ∧ AcL C.K (WE C (ent g Γ σ)) H xs es) : ItOk C Hd G (Itz C.K a b) (zipD ds es) where
  go g Γ σ H i hg hG R lt := by
    obtain ⟨⟨xs, hq, ha⟩, ys, hr, hb⟩ := h g Γ σ H hg hG R
    rw [zip_len] at lt
    obtain ⟨v, hv, _⟩ := ha.at (i := i) (List.getElem?_eq_getElem (by omega))
    obtain ⟨u, hu, _⟩ := hb.at (i := i) (List.getElem?_eq_getElem (by omega))
    exact ⟨xs, ys, v, u, hq, hr, hv, hu⟩
  stop g Γ σ H i hg hG R ge := by
    obtain ⟨⟨xs, hq, ha⟩, ys, hr, hb⟩ := h g Γ σ H hg hG R
    rw [zip_len] at ge
    refine ⟨xs, ys, hq, hr, ?_⟩
    rw [ha.len, hb.len]; omega
  yld g Γ σ H i d x H' hg hG R hd y := by
    obtain ⟨⟨xs, hq, ha⟩, ys, hr, hb⟩ := h g Γ σ H hg hG R
    rw [zip_get] at hd
    obtain ⟨T, z, z2, rfl, hT, rfl, y, y2⟩ := y
    cases e : ds[i]? with
    | none => rw [e] at hd; cases hd
    | some d0 =>
      cases e2 : es[i]? with
      | none => rw [e, e2] at hd; cases hd
      | some d1 =>
        rw [e, e2] at hd; cases hd
        obtain ⟨v, hv, h1⟩ := ha.at e
        obtain ⟨u, hu, h2⟩ := hb.at e2
        have := y xs hq
        rw [hv] at this; cases this
        have := y2 ys hr
        rw [hu] at this; cases this
        exact ⟨.inr ⟨_, _, hT, rfl⟩, .tup upd_same (R.e.fresh hT).1 (.cons (Ac.tr (Tr.new hT) _ h1) (.cons (Ac.tr (Tr.new hT) _ h2) .nil))⟩
end
def strD (z : Str) : List PyData := z.cps.toList.map fun c => .str ⟨#[c]⟩
theorem itok_str [IK] {C : Cc} {Hd : Fr → Prop} {G : Env → Prop} {z : Str} : ItOk C Hd G (Its z) (strD z) where
  go g Γ σ H i hg hG R lt := by
    unfold strD at lt; rw [List.length_map, Array.length_toList] at lt; exact lt
  stop g Γ σ H i hg hG R ge := by
    unfold strD at ge; rw [List.length_map, Array.length_toList] at ge; exact ge
  yld g Γ σ H i d x H' hg hG R hd y := by
    obtain ⟨rfl, c, hc, rfl⟩ := y
    unfold strD at hd
    rw [List.getElem?_map] at hd
    have e : z.cps.toList[i]? = some c := by simpa using hc
    rw [e] at hd; cases hd
    exact ⟨.inl rfl, .str _⟩
/-- what is held at n, of that value, is read at any time -/
theorem held_rv [IK] {C : Cc} {n : Nat} {r : D} {x : V} {d : PyData} {g : Fr} {Γ : Env} {σ : SS} {H : Hp} (hg : g n = some (r, x)) (R : Rel C g Γ σ H) (hr : res Γ r = some d) : Rv C.K (WE C (ent g Γ σ)) H x d :=
  R.rv (k := .inl n) hg hr
section
variable {X : Cx} [IK]
/-! ### for over what becomes data -/
def wItS (k : List PyData → PyData) (w : PX) : PI' := fun Γ Φ => w Γ fun r Γ1 => ∃ ds Γ2, frz Γ1 r = some (k ds, Γ2) ∧ Φ ds Γ2
theorem held_nb {f : Fr} {n : Nat} {d : PyData} {x : V} (hf : Off f n) : ∀ m (i : Nat) (y : V), n ≤ m → upF f n (some (.v d, x)) m ≠ some (.bor i, y) := by
  intro m i y hm
  unfold upF
  split
  · intro z; cases z
  · rw [hf m hm]; intro z; cases z
theorem upF_low {f : Fr} {n : Nat} {o : Option (D × V)} : ∀ m, m < n → upF f n o m = f m := fun m hm => by unfold upF; rw [if_neg (by omega)]
theorem xi_listS {tg e : Expr} {t : TE} {w : PX} (h : XE X e t w) : XI X tg e (iList X.K t) (wItS .list w) := by
  obtain ⟨p, g⟩ := h
  refine ⟨pi_list p, fun C hK n f Γ σ H R Φ off Re w k => g C hK n f Γ σ H _ _ off Re w ?_⟩
  rintro r x Γ1 H1 ⟨ds, Γ2, hz, φ⟩ R1
  have R2 := R1.frzR off hz
  obtain ⟨a, xs, rfl, hq, _⟩ := (R2.rv (k := .inl n) (r := .v (.list ds)) ent_held rfl).lst
  refine ⟨a, rfl, ⟨xs, by rw [← hK.k]; exact hq⟩, ?_⟩
  rw [← hK.k]
  refine k ds _ _ _ (n + 1) _ (fun g => g n = some (.v (.list ds), .ref a)) φ (by omega) off.up upF_low (held_nb off) R2 upF_same (fun g g' e z => by rw [e n (Nat.le_refl _) (by omega)]; exact z) ?_
  refine itok_list fun g Γ3 σ3 H3 hg _ R3 => ?_
  obtain ⟨a', xs', e, hq', ha'⟩ := (held_rv hg R3 (d := .list ds) rfl).lst
  cases e
  exact ⟨xs', hq', ha'⟩
theorem xi_tupS {tg e : Expr} {t : TE} {w : PX} (h : XE X e t w) : XI X tg e (iTup X.K t) (wItS .tuple w) := by
  obtain ⟨p, g⟩ := h
  refine ⟨pi_tup p, fun C hK n f Γ σ H R Φ off Re w k => g C hK n f Γ σ H _ _ off Re w ?_⟩
  rintro r x Γ1 H1 ⟨ds, Γ2, hz, φ⟩ R1
  have R2 := R1.frzR off hz
  obtain ⟨a, xs, rfl, hq, _⟩ := (R2.rv (k := .inl n) (r := .v (.tuple ds)) ent_held rfl).tup
  refine ⟨a, rfl, ⟨xs, by rw [← hK.k]; exact hq⟩, ?_⟩
  rw [← hK.k]
  refine k ds _ _ _ (n + 1) _ (fun g => g n = some (.v (.tuple ds), .ref a)) φ (by omega) off.up upF_low (held_nb off) R2 upF_same (fun g g' e z => by rw [e n (Nat.le_refl _) (by omega)]; exact z) ?_
  refine itok_tup fun g Γ3 σ3 H3 hg _ R3 => ?_
  obtain ⟨a', xs', e, hq', ha'⟩ := (held_rv hg R3 (d := .tuple ds) rfl).tup
  cases e
  exact ⟨xs', hq', ha'⟩
def wItR1 (wA : PXR) : PI' := fun Γ Φ => wA Γ fun ds Γ1 => ∃ j : Int, ds = [.int j] ∧ -(2 ^ 62) ≤ j ∧ j < 2 ^ 62 ∧ Φ (rangeD 0 j.toNat) Γ1
def wItR2 (wA : PXR) : PI' := fun Γ Φ => wA Γ fun ds Γ1 => ∃ i j : Int, ds = [.int i, .int j] ∧ (-(2 ^ 62) ≤ i ∧ i < 2 ^ 62 ∧ -(2 ^ 62) ≤ j ∧ j < 2 ^ 62) ∧ Φ (rangeD i (j - i).toNat) Γ1
theorem RvL.one {K : PySem.W.Frag} {W : AS} {H : Hp} {xs : List V} {d : PyData} (h : RvL K W H xs [d]) : ∃ x, xs = [x] ∧ Rv K W H x d := by
  cases h with
  | cons a b => cases b; exact ⟨_, rfl, a⟩
theorem RvL.two {K : PySem.W.Frag} {W : AS} {H : Hp} {xs : List V} {d e : PyData} (h : RvL K W H xs [d, e]) : ∃ x y, xs = [x, y] ∧ Rv K W H x d ∧ Rv K W H y e := by
  cases h with
  | cons a b =>
    obtain ⟨y, rfl, b'⟩ := b.one
    exact ⟨_, y, rfl, a, b'⟩
theorem xi_range1S {tg a : Expr} {t : TA} {wA : PXR} {p pos : Pos} (hg : Gl X "range") (hm : X.mg "range" = none) (h : XR X [a] t wA) (hs : starEach [a] X.env = [(false, eval a X.env)] := by rfl) : XI X tg (.Call (.Name "range" p) [a] [] pos) (iRng1 t) (wItR1 wA) := by
  obtain ⟨pp, g⟩ := h
  refine ⟨pi_range1 hg hm pp hs, fun C hK n f Γ σ H R Φ off Re w k => g C hK n f Γ σ H _ _ off Re w ?_⟩
  rintro ds xs Γ1 H1 ⟨j, rfl, j1, j2, φ⟩ R1 rv
  obtain ⟨x, rfl, rv'⟩ := rv.one
  rw [rv'.int]
  exact ⟨j, rfl, j1, j2, k _ _ _ _ n f (fun _ => True) φ (Nat.le_refl _) off (fun _ _ => rfl) (fun m i y hm z => by rw [off m hm] at z; cases z) R1 trivial (fun _ _ _ _ => trivial) itok_range⟩
theorem xi_range2S {tg a b : Expr} {t : TA} {wA : PXR} {p pos : Pos} (hg : Gl X "range") (hm : X.mg "range" = none) (h : XR X [a, b] t wA) (hs : starEach [a, b] X.env = [(false, eval a X.env), (false, eval b X.env)] := by rfl) (hs2 : starEach [b] X.env = [(false, eval b X.env)] := by rfl) : XI X tg (.Call (.Name "range" p) [a, b] [] pos) (iRng2 t) (wItR2 wA) := by
  obtain ⟨pp, g⟩ := h
  refine ⟨pi_range2 hg hm pp hs hs2, fun C hK n f Γ σ H R Φ off Re w k => g C hK n f Γ σ H _ _ off Re w ?_⟩
  rintro ds xs Γ1 H1 ⟨i, j, rfl, j1, φ⟩ R1 rv
  obtain ⟨x, y, rfl, rv1, rv2⟩ := rv.two
  rw [rv1.int, rv2.int]
  exact ⟨i, j, rfl, j1, k _ _ _ _ n f (fun _ => True) φ (Nat.le_refl _) off (fun _ _ => rfl) (fun m i y hm z => by rw [off m hm] at z; cases z) R1 trivial (fun _ _ _ _ => trivial) itok_range⟩
/-! ### what a comprehension walks -/
abbrev PIc := Env → (List PyData → (Env → Prop) → Env → Prop) → Prop
def DIc (C : Cc) (t : TI) (w : PIc) : Prop := ∀ (n : Nat) (f : Fr) (Γ : Env) (σ : SS) (H : Hp) (R : It → Hp → Prop) (Φ : List PyData → (Env → Prop) → Env → Prop), Off f n → Rel C f Γ σ H → w Γ Φ →
  (∀ ds G J Γ' H' n' f' (Hd : Fr → Prop), Φ ds G Γ' → n ≤ n' → Off f' n' → (∀ m, m < n → f' m = f m) → Rel C f' Γ' σ H' → Hd f' → (∀ g g', (∀ m, n ≤ m → m < n' → g' m = g m) → Hd g → Hd g') → ItOk C Hd G J ds → R J H') → t σ H R
def XIc (X : Cx) (tg iter : Expr) (t : TI) (w : PIc) : Prop := PI X tg iter t ∧ ∀ C : Cc, Cok C X → DIc C t w
def wIt (k : List PyData → PyData) (w : PX) : PIc := fun Γ Φ => w Γ fun r Γ1 => ∃ ds, res Γ1 (hld r) = some (k ds) ∧ Φ ds (fun Γ2 => res Γ2 (hld r) = some (k ds)) Γ1
theorem xc_list {tg e : Expr} {t : TE} {w : PX} (h : XE X e t w) : XIc X tg e (iList X.K t) (wIt .list w) := by
  obtain ⟨p, g⟩ := h
  refine ⟨pi_list p, fun C hK n f Γ σ H R Φ off Re w k => g C hK n f Γ σ H _ _ off Re w ?_⟩
  rintro r x Γ1 H1 ⟨ds, hz, φ⟩ R1
  have R2 := R1.hld
  obtain ⟨a, xs, rfl, hq, _⟩ := (R2.rv (k := .inl n) ent_held hz).lst
  refine ⟨a, rfl, ⟨xs, by rw [← hK.k]; exact hq⟩, ?_⟩
  rw [← hK.k]
  refine k ds _ _ _ _ (n + 1) _ (fun g => g n = some (hld r, .ref a)) φ (by omega) off.up upF_low R2 upF_same (fun g g' e z => by rw [e n (Nat.le_refl _) (by omega)]; exact z) ?_
  refine itok_list fun g Γ3 σ3 H3 hg hG R3 => ?_
  obtain ⟨a', xs', e, hq', ha'⟩ := (held_rv hg R3 hG).lst
  cases e
  exact ⟨xs', hq', ha'⟩
theorem xc_tup {tg e : Expr} {t : TE} {w : PX} (h : XE X e t w) : XIc X tg e (iTup X.K t) (wIt .tuple w) := by
  obtain ⟨p, g⟩ := h
  refine ⟨pi_tup p, fun C hK n f Γ σ H R Φ off Re w k => g C hK n f Γ σ H _ _ off Re w ?_⟩
  rintro r x Γ1 H1 ⟨ds, hz, φ⟩ R1
  have R2 := R1.hld
  obtain ⟨a, xs, rfl, hq, _⟩ := (R2.rv (k := .inl n) ent_held hz).tup
  refine ⟨a, rfl, ⟨xs, by rw [← hK.k]; exact hq⟩, ?_⟩
  rw [← hK.k]
  refine k ds _ _ _ _ (n + 1) _ (fun g => g n = some (hld r, .ref a)) φ (by omega) off.up upF_low R2 upF_same (fun g g' e z => by rw [e n (Nat.le_refl _) (by omega)]; exact z) ?_
  refine itok_tup fun g Γ3 σ3 H3 hg hG R3 => ?_
  obtain ⟨a', xs', e, hq', ha'⟩ := (held_rv hg R3 hG).tup
  cases e
  exact ⟨xs', hq', ha'⟩
theorem xc_of {tg iter : Expr} {t : TI} {w : PI'} (h : XI X tg iter t w) : XIc X tg iter t (fun Γ Φ => w Γ fun ds Γ1 => Φ ds (fun _ => True) Γ1) := by
  obtain ⟨p, g⟩ := h
  refine ⟨p, fun C hK n f Γ σ H R Φ off Re w k => g C hK n f Γ σ H _ _ off Re w ?_⟩
  intro ds J Γ1 H1 n' f' Hd φ hn off' low _ R1 hd st ok
  exact k ds _ J Γ1 H1 n' f' Hd φ hn off' low R1 hd st ok
theorem xc_str {tg e : Expr} {t : TE} {w : PX} (h : XE X e t w) : XIc X tg e (iStr t) (fun Γ Φ => w Γ fun r Γ1 => ∃ z, res Γ1 r = some (.str z) ∧ Φ (strD z) (fun _ => True) Γ1) := by
  obtain ⟨p, g⟩ := h
  refine ⟨pi_str p, fun C hK n f Γ σ H R Φ off Re w k => g C hK n f Γ σ H _ _ off Re w ?_⟩
  rintro r x Γ1 H1 ⟨z, hz, φ⟩ R1
  have e := (R1.rv (k := .inl n) ent_held hz).str
  refine ⟨z, e, ?_⟩
  exact k _ _ _ _ _ n f (fun _ => True) φ (Nat.le_refl _) off (fun _ _ => rfl) (R1.drop off) trivial (fun _ _ _ _ => trivial) itok_str
def wItE (w : PX) : PIc := fun Γ Φ => w Γ fun r Γ1 => ∃ ds, res Γ1 (hld r) = some (.list ds) ∧ Φ (enumFrom 0 ds) (fun Γ2 => res Γ2 (hld r) = some (.list ds)) Γ1
theorem xc_enum {e : Expr} {t : TE} {w : PX} {p pos tpos : Pos} {elts : List Expr} {kk : Nat} (hg : Gl X "enumerate") (hm : X.mg "enumerate" = none) (h : XE X e t w) (hs : starEach [e] X.env = [(false, eval e X.env)] := by rfl) :
    XIc X (.Tuple elts kk tpos) (.Call (.Name "enumerate" p) [e] [] pos) (iEnum X.K (tCons t tNil)) (wItE w) := by
  obtain ⟨pp, g⟩ := h
  refine ⟨pi_enum hg hm (pa_cons pp pa_nil (hs.trans rfl)) hs, fun C hK n f Γ σ H R Φ off Re w k => g C hK n f Γ σ H _ _ off Re w ?_⟩
  rintro r x Γ1 H1 ⟨ds, hz, φ⟩ R1
  have R2 := R1.hld
  obtain ⟨a, xs, rfl, hq, _⟩ := (R2.rv (k := .inl n) ent_held hz).lst
  refine ⟨a, xs, rfl, by rw [← hK.k]; exact hq, ?_⟩
  rw [← hK.k]
  refine k _ _ _ _ _ (n + 1) _ (fun g => g n = some (hld r, .ref a)) φ (by omega) off.up upF_low R2 upF_same (fun g g' e z => by rw [e n (Nat.le_refl _) (by omega)]; exact z) ?_
  refine itok_enum fun g Γ3 σ3 H3 hg hG R3 => ?_
  obtain ⟨a', xs', e, hq', ha'⟩ := (held_rv hg R3 hG).lst
  cases e
  exact ⟨xs', hq', ha'⟩
def wItZ (k : List PyData → PyData) (w u : PX) : PIc := fun Γ Φ => w Γ fun r Γ1 => u Γ1 fun s Γ2 => ∃ ds es, res Γ2 (hld r) = some (k ds) ∧ res Γ2 (hld s) = some (k es) ∧ Φ (zipD ds es) (fun Γ3 => res Γ3 (hld r) = some (k ds) ∧ res Γ3 (hld s) = some (k es)) Γ2
theorem xc_zipT {e e2 : Expr} {t t2 : TE} {w u : PX} {p pos tpos : Pos} {elts : List Expr} {kk : Nat} (hg : Gl X "zip") (hm : X.mg "zip" = none) (h : XE X e t w) (h2 : XE X e2 t2 u)
    (hs : starEach [e, e2] X.env = (false, eval e X.env) :: starEach [e2] X.env := by rfl) (hs2 : starEach [e2] X.env = (false, eval e2 X.env) :: starEach [] X.env := by rfl) (hpl : (backTo pos (starEach [e2] X.env)).any (·.1) = false := by rfl) :
    XIc X (.Tuple elts kk tpos) (.Call (.Name "zip" p) [e, e2] [] pos) (RZ.iZipA X.K (tCons t (tCons t2 tNil))) (wItZ .tuple w u) := by
  obtain ⟨pp, g⟩ := h
  obtain ⟨pp2, g2⟩ := h2
  refine ⟨RZ.pi_zipA hg hm (pa_cons pp (pa_cons pp2 pa_nil hs2) hs) hs hpl, fun C hK n f Γ σ H R Φ off Re w k => g C hK n f Γ σ H _ _ off Re w ?_⟩
  intro r x Γ1 H1 φ1 R1
  refine g2 C hK (n + 1) _ Γ1 σ H1 _ _ off.up R1.hld φ1 ?_
  rintro s y Γ2 H2 ⟨ds, es, hz, hz2, φ⟩ R2
  have R3 := R2.hld
  have e1 : upF (upF f n (some (hld r, x))) (n + 1) (some (hld s, y)) n = some (hld r, x) := by
    unfold upF; rw [if_neg (by omega), if_pos rfl]
  obtain ⟨a, xs, rfl, hq, _⟩ := (held_rv e1 R3 hz).tup
  obtain ⟨b, ys, rfl, hq2, _⟩ := (R3.rv (k := .inl (n + 1)) ent_held hz2).tup
  refine ⟨a, b, xs, ys, rfl, .inr ⟨by rw [← hK.k]; exact hq, by rw [← hK.k]; exact hq2, ?_⟩⟩
  rw [← hK.k]
  refine k _ _ _ _ _ (n + 2) _ (fun g => g n = some (hld r, .ref a) ∧ g (n + 1) = some (hld s, .ref b)) φ (by omega) off.up.up (fun m hm => by unfold upF; rw [if_neg (by omega), if_neg (by omega)]) R3 ⟨e1, upF_same⟩ (fun g g' e z => ⟨by rw [e n (Nat.le_refl _) (by omega)]; exact z.1, by rw [e (n + 1) (by omega) (by omega)]; exact z.2⟩) ?_
  refine itok_zipT fun g Γ3 σ3 H3 hg hG R3 => ?_
  obtain ⟨a', xs', e, hq', ha'⟩ := (held_rv hg.1 R3 hG.1).tup
  obtain ⟨b', ys', e2, hq2', hb'⟩ := (held_rv hg.2 R3 hG.2).tup
  cases e; cases e2
  exact ⟨⟨xs', hq', ha'⟩, ys', hq2', hb'⟩
theorem xc_zipL {e e2 : Expr} {t t2 : TE} {w u : PX} {p pos tpos : Pos} {elts : List Expr} {kk : Nat} (hg : Gl X "zip") (hm : X.mg "zip" = none) (h : XE X e t w) (h2 : XE X e2 t2 u)
    (hs : starEach [e, e2] X.env = (false, eval e X.env) :: starEach [e2] X.env := by rfl) (hs2 : starEach [e2] X.env = (false, eval e2 X.env) :: starEach [] X.env := by rfl) (hpl : (backTo pos (starEach [e2] X.env)).any (·.1) = false := by rfl) :
    XIc X (.Tuple elts kk tpos) (.Call (.Name "zip" p) [e, e2] [] pos) (RZ.iZipA X.K (tCons t (tCons t2 tNil))) (wItZ .list w u) := by
  obtain ⟨pp, g⟩ := h
  obtain ⟨pp2, g2⟩ := h2
  refine ⟨RZ.pi_zipA hg hm (pa_cons pp (pa_cons pp2 pa_nil hs2) hs) hs hpl, fun C hK n f Γ σ H R Φ off Re w k => g C hK n f Γ σ H _ _ off Re w ?_⟩
  intro r x Γ1 H1 φ1 R1
  refine g2 C hK (n + 1) _ Γ1 σ H1 _ _ off.up R1.hld φ1 ?_
  rintro s y Γ2 H2 ⟨ds, es, hz, hz2, φ⟩ R2
  have R3 := R2.hld
  have e1 : upF (upF f n (some (hld r, x))) (n + 1) (some (hld s, y)) n = some (hld r, x) := by
    unfold upF; rw [if_neg (by omega), if_pos rfl]
  obtain ⟨a, xs, rfl, hq, _⟩ := (held_rv e1 R3 hz).lst
  obtain ⟨b, ys, rfl, hq2, _⟩ := (R3.rv (k := .inl (n + 1)) ent_held hz2).lst
  refine ⟨a, b, xs, ys, rfl, .inl ⟨by rw [← hK.k]; exact hq, by rw [← hK.k]; exact hq2, ?_⟩⟩
  rw [← hK.k]
  refine k _ _ _ _ _ (n + 2) _ (fun g => g n = some (hld r, .ref a) ∧ g (n + 1) = some (hld s, .ref b)) φ (by omega) off.up.up (fun m hm => by unfold upF; rw [if_neg (by omega), if_neg (by omega)]) R3 ⟨e1, upF_same⟩ (fun g g' e z => ⟨by rw [e n (Nat.le_refl _) (by omega)]; exact z.1, by rw [e (n + 1) (by omega) (by omega)]; exact z.2⟩) ?_
  refine itok_zipL fun g Γ3 σ3 H3 hg hG R3 => ?_
  obtain ⟨a', xs', e, hq', ha'⟩ := (held_rv hg.1 R3 hG.1).lst
  obtain ⟨b', ys', e2, hq2', hb'⟩ := (held_rv hg.2 R3 hG.2).lst
  cases e; cases e2
  exact ⟨⟨xs', hq', ha'⟩, ys', hq2', hb'⟩
end
end Px
end

/-! Px7 -/
section
set_option Elab.async false
set_option linter.all false
set_option maxRecDepth 100000
set_option maxHeartbeats 2000000
set_option autoImplicit false
namespace Px
open PySem PySem.Spec PyProof.Rows L2 Dh

/-! ### comprehensions -/
def wipeG (Γ : Env) : List Nat → Env
  | [] => Γ
  | v :: vs => (wipeG Γ vs).set v none
def hide (f : Fr) : Fr := fun m => match f m with
  | some (.bor _, _) => none
  | o => o
section
variable {C : Cc} {f f' : Fr} {Γ Γ' : Env} {σ σ' : SS} {H H' : Hp} {n n' : Nat}
theorem hide_nb (f : Fr) : NoBor (hide f) := by
  intro m i x h
  unfold hide at h
  split at h
  · cases h
  · rename_i o hno
    exact hno _ _ h
theorem hide_some {m : Nat} {o : D × V} (h : hide f m = some o) : f m = some o := by
  unfold hide at h
  split at h
  · cases h
  · exact h
theorem hide_keep {m : Nat} {d : D} {x : V} (hd : ∀ i, d ≠ .bor i) (h : f m = some (d, x)) : hide f m = some (d, x) := by
  unfold hide
  split
  · rename_i i y hb
    rw [h] at hb
    exact absurd (Prod.mk.inj (Option.some.inj hb)).1 (hd i)
  · exact h
theorem hide_off (h : Off f n) : Off (hide f) n := fun m hm => by
  unfold hide; rw [h m hm]
theorem Rel.hide (R : Rel C f Γ σ H) : Rel C (hide f) Γ σ H :=
  ⟨R.e.sub fun k o q => by
    cases k with
    | inl m => exact hide_some q
    | inr i => exact q, R.len, R.full, R.nb⟩
theorem Rel.wipes (R : Rel C f Γ σ H) (nb : NoBor f) : ∀ vs : List Nat, Rel C f (wipeG Γ vs) (L2.wipe σ vs) H
  | [] => R
  | v :: vs => (Rel.wipes R nb vs).wipe nb v
theorem wipeG_out {i : Nat} : ∀ {vs : List Nat}, i ∉ vs → (wipeG Γ vs)[i]? = Γ[i]?
  | [], _ => rfl
  | v :: vs, h => by
    have h1 : v ≠ i := fun e => h (by rw [e]; exact List.mem_cons_self)
    have h2 : i ∉ vs := fun e => h (List.mem_cons_of_mem _ e)
    show ((wipeG Γ vs).set v none)[i]? = _
    rw [List.getElem?_set_ne h1, wipeG_out h2]
theorem wipeG_len : ∀ {vs : List Nat}, (wipeG Γ vs).length = Γ.length
  | [] => rfl
  | v :: vs => by
    show ((wipeG Γ vs).set v none).length = _
    rw [List.length_set, wipeG_len]
theorem wipeG_some {i : Nat} {d : D} : ∀ {vs : List Nat}, (wipeG Γ vs)[i]? = some (some d) → Γ[i]? = some (some d) ∧ i ∉ vs
  | [], h => ⟨h, by simp⟩
  | v :: vs, h => by
    have h' : ((wipeG Γ vs).set v none)[i]? = some (some d) := h
    by_cases e : v = i
    · subst e
      by_cases hl : v < (wipeG Γ vs).length
      · rw [List.getElem?_set_self hl] at h'; cases h'
      · rw [List.getElem?_eq_none (by simpa using hl)] at h'; cases h'
    · rw [List.getElem?_set_ne e] at h'
      obtain ⟨a, b⟩ := wipeG_some h'
      exact ⟨a, fun z => by
        rcases List.mem_cons.mp z with z | z
        · exact e z.symm
        · exact b z⟩
theorem out_same {vs : List Nat} (hw : L2.wipe σ' vs = L2.wipe σ vs) {i : Nat} (hi : i ∉ vs) : σ'[i]? = σ[i]? := by
  rw [← wipe_out (σ := σ') hi, hw, wipe_out hi]
/-- names of slots' values come to what is held -/
theorem RelE.bors {e e' : Ent} (R : RelE C e σ H) (h : ∀ k d x, e' k = some (d, x) → e k = some (d, x) ∨ ∃ i, d = .bor i ∧ σ[i]? = some (some x)) : RelE C e' σ H := by
  have own : ∀ k d a, e' k = some (.own d, .ref a) → e k = some (.own d, .ref a) := by
    intro k d a q
    rcases h _ _ _ q with z | ⟨i, z, _⟩
    · exact z
    · cases z
  have w : ∀ a, WE C e' a → WE C e a := by
    rintro a (z | ⟨k, d, z⟩)
    · exact .inl z
    · exact .inr ⟨_, _, own _ _ _ z⟩
  refine ⟨fun k d x q => ?_, fun _ _ _ _ _ q q' => R.inj _ _ _ _ _ (own _ _ _ q) (own _ _ _ q'), fun _ _ _ q => R.ap _ _ _ (own _ _ _ q), R.kp, R.tr, R.uM, R.dk⟩
  rcases h _ _ _ q with z | ⟨i, rfl, z⟩
  · exact (R.ok _ _ _ z).tr (Tr.less w) (fun _ _ => rfl) (fun _ z => z) (fun _ _ z => z)
  · exact .bor z
/-- behind a turn of a comprehension: its names are gone, the slots are what they were -/
theorem Rel.unhide {vs : List Nat} (R : Rel C (Px.hide f) Γ σ' H) (R0 : Rel C f' Γ' σ H') (hb : ∀ m i x, f m = some (.bor i, x) → f' m = some (.bor i, x)) (hw : L2.wipe σ' vs = L2.wipe σ vs) : Rel C f (wipeG Γ vs) σ H := by
  have hlen : σ'.length = σ.length := by
    have := congrArg List.length hw
    rwa [wipe_length, wipe_length] at this
  refine ⟨?_, by rw [wipeG_len, ← hlen]; exact R.len, fun i d h => ?_, fun i j h => R.nb i j (wipeG_some h).1⟩
  · have R1 : RelE C (fun k => match k with
        | .inl m => Px.hide f m
        | .inr i => slotE (wipeG Γ vs)[i]? σ'[i]?) σ H := by
      refine RelE.sig (σ := σ') (R.e.sub fun k o q => ?_) fun k i x q => ?_
      · cases k with
        | inl m => exact q
        | inr i =>
          obtain ⟨d, x⟩ := o
          obtain ⟨q1, q2⟩ := slotE_some q
          show slotE Γ[i]? σ'[i]? = _
          rw [(wipeG_some q1).1, q2]; rfl
      · cases k with
        | inl m => exact hide_nb f m i x q
        | inr m => exact R.nb m i (wipeG_some (slotE_some q).1).1
    refine R1.bors fun k d x q => ?_
    cases k with
    | inr i =>
      obtain ⟨q1, q2⟩ := slotE_some q
      refine .inl ?_
      show slotE (wipeG Γ vs)[i]? σ'[i]? = _
      rw [q1, out_same hw (wipeG_some q1).2, q2]; rfl
    | inl m =>
      have q' : f m = some (d, x) := q
      by_cases hd : ∃ i, d = .bor i
      · obtain ⟨i, rfl⟩ := hd
        refine .inr ⟨i, rfl, ?_⟩
        cases R0.e.ok (.inl m) _ _ (hb m i x q') with
        | bor z => exact z
      · exact .inl (hide_keep (fun i z => hd ⟨i, z⟩) q')
  · obtain ⟨h1, h2⟩ := wipeG_some h
    obtain ⟨x, hx⟩ := R.full i d h1
    exact ⟨x, by rw [← out_same hw h2]; exact hx⟩
/-- what is held of one's own is changed -/
theorem Rel.putHeld {m : Nat} {a : Addr} {d d' : PyData} {o : HO} (R : Rel C f Γ σ H) (h : f m = some (.own d, .ref a)) (k : ∀ W H', Tr (WE C (ent f Γ σ)) H W H' → H' a = some o → Ow C.K W H' a d') : Rel C (upF f m (some (.own d', .ref a))) Γ σ (upd H a o) :=
  ⟨by rw [ent_up]; exact R.e.put (k := .inl m) h k, R.len, R.full, R.nb⟩
end
def compW (vs : List Nat) (g : PG') (tt : PXT) (te : PX) (G : Env → Prop) : List PyData → List PyData → Env → (List PyData → Env → Prop) → Prop
  | [], acc, Γ, Φ => G Γ ∧ Φ acc Γ
  | d :: ds, acc, Γ, Φ => G Γ ∧ acc.length < sizeLine ∧ g d (wipeG Γ vs) fun Γ1 => tt Γ1 fun b Γ2 =>
      (b = true → te Γ2 fun r Γ3 => ∃ y Γ4, frz Γ3 r = some (y, Γ4) ∧ compW vs g tt te G ds (acc ++ [y]) (wipeG Γ4 vs) Φ) ∧ (b = false → compW vs g tt te G ds acc (wipeG Γ2 vs) Φ)
def wLc (vs : List Nat) (wi : PIc) (g : PG') (tt : PXT) (te : PX) : PX := fun Γ Φ => wi Γ fun ds G Γ1 => compW vs g tt te G ds [] Γ1 fun acc Γ2 => Φ (.own (.list acc)) Γ2
def wYes : PXT := fun Γ Φ => Φ true Γ
section
variable {X : Cx} [IK]
def XTs (X : Cx) (ifs : List Expr) (t : L2.TT) (w : PXT) : Prop := PTs X ifs t ∧ ∀ C : Cc, Cok C X → DT C t w
theorem xts_nil : XTs X [] tYes wYes := ⟨pts_nil, fun C hK n f Γ σ H Q Φ off R w k => k _ _ _ w R⟩
theorem xts_one {c : Expr} {t : L2.TT} {w : PXT} (h : XT X c t w) : XTs X [c] t w := ⟨pts_one h.1, h.2⟩
theorem xe_lc {elt tg iter : Expr} {ifs : List Expr} {scope : Scope} {own : List (Str × Nat)} {pos : Pos} {wi : TI} {g : TG} {tt : L2.TT} {te : TE} {wI : PIc} {wG : PG'} {wT : PXT} {wE : PX} {ts : List Nat} (hc : X.calm = true) (hN : X.N.Nodup) (hi : XIc X tg iter wi wI) (ok : BlkOk X.N X.env.scope scope own)
    (hg : ∀ (s : Shared) (H : Hp) (C : Addr) (cl : List (Str × Addr)) (fp : List Addr), XG (X.blk s H scope (compEnvC scope cl C X.env) fp) tg g wG ts) (ht : ∀ (s : Shared) (H : Hp) (C : Addr) (cl : List (Str × Addr)) (fp : List Addr), XTs (X.blk s H scope (compEnvC scope cl C X.env) fp) ifs tt wT)
    (he : ∀ (s : Shared) (H : Hp) (C : Addr) (cl : List (Str × Addr)) (fp : List Addr), XE (X.blk s H scope (compEnvC scope cl C X.env) fp) elt te wE) (hts : ∀ i ∈ ts, i ∈ own.map (·.2) := by decide) (hs : ∀ x, foldedSetIterable iter X.env x = pure x := by intro _; rfl) :
    XE X (.ListComp elt [⟨tg, iter, ifs, 0⟩] scope pos) (tLc wi g tt te (own.map (·.2))) (wLc (own.map (·.2)) wI wG wT wE) := by
  refine ⟨pe_lc hc hN hi.1 ok (fun s H C cl fp => (hg s H C cl fp).1) (fun s H C cl fp => (ht s H C cl fp).1) (fun s H C cl fp => (he s H C cl fp).1) hs, fun C hK n f Γ σ H Q Φ off R w k => ?_⟩
  generalize own.map (·.2) = vs at hts w ⊢
  have dG := (hg X.s_0 (fun _ => none) 0 [] []).2 C ⟨hK.k, hK.i⟩
  have dT := (ht X.s_0 (fun _ => none) 0 [] []).2 C ⟨hK.k, hK.i⟩
  have dE := (he X.s_0 (fun _ => none) 0 [] []).2 C ⟨hK.k, hK.i⟩
  refine hi.2 C hK n f Γ σ H _ _ off R w ?_
  intro ds G J Γ1 H1 n' f' Hd φ hn off' low R1 hd st okJ D hD
  have hdl : ∀ o, Hd (upF f' n' o) := fun o => st f' _ (fun m _ hm => upF_low m hm) hd
  refine ⟨fun i m H2 => m = ds.length - i ∧ i ≤ ds.length ∧ ∃ acc Γ2, Rel C (upF f' n' (some (.own (.list acc), .ref D))) Γ2 σ H2 ∧ compW vs wG wT wE G (ds.drop i) acc Γ2 fun acc Γ2 => Φ (.own (.list acc)) Γ2,
    ⟨_, rfl, Nat.zero_le _, [], Γ1, R1.mineL off' hD .nil, by simpa using φ⟩, ?_⟩
  rintro i m H2 ⟨rfl, hi2, acc, Γ2, R2, φ2⟩
  rcases Nat.lt_or_ge i ds.length with lt | ge
  · have hd' : ds[i]? = some ds[i] := List.getElem?_eq_getElem lt
    rw [List.drop_eq_getElem_cons lt] at φ2
    obtain ⟨hG, hz, φ2⟩ := φ2
    refine .inr ⟨okJ.go _ Γ2 σ H2 i (hdl _) hG R2 lt, fun H3 => ∃ acc Γ3, Rel C (upF f' n' (some (.own (.list acc), .ref D))) Γ3 σ H3 ∧ compW vs wG wT wE G (ds.drop (i + 1)) acc Γ3 fun acc Γ2 => Φ (.own (.list acc)) Γ2, fun H3 z => ⟨ds.length - (i + 1), by omega, rfl, lt, z⟩, fun x H3 y => ?_⟩
    obtain ⟨gr, a⟩ := okJ.yld _ Γ2 σ H2 i _ x H3 (hdl _) hG R2 hd' y
    have R3 := R2.grow gr
    have R4 := R3.hide.wipes (hide_nb _) vs
    have offh : Off (hide (upF f' n' (some (.own (.list acc), .ref D)))) (n' + 1) := hide_off off'.up
    have fn : hide (upF f' n' (some (.own (.list acc), .ref D))) n' = some (.own (.list acc), .ref D) := hide_keep (fun i z => by cases z) upF_same
    have bors : ∀ (acc' : List PyData) m i x, upF f' n' (some (.own (.list acc'), .ref D)) m = some (.bor i, x) → upF f' n' (some (.own (.list acc), .ref D)) m = some (.bor i, x) := by
      intro acc' m i x z
      unfold upF at z ⊢
      by_cases e : m = n'
      · rw [if_pos e] at z; cases z
      · rw [if_neg e] at z ⊢; exact z
    have aw : Ac C.K (WE C (ent (hide (upF f' n' (some (.own (.list acc), .ref D)))) (wipeG Γ2 vs) (L2.wipe σ vs))) H3 x ds[i] := by
      refine Ac.tr (Tr.less ?_) _ a
      rintro b (z | ⟨k, d, z⟩)
      · exact .inl z
      · cases k with
        | inl m => exact .inr ⟨.inl m, d, hide_some z⟩
        | inr j =>
          obtain ⟨z1, z2⟩ := slotE_some z
          obtain ⟨z1, zo⟩ := wipeG_some z1
          refine .inr ⟨.inr j, d, ?_⟩
          show slotE Γ2[j]? σ[j]? = _
          rw [z1, (wipe_some z2).1]; rfl
    refine dG (n' + 1) _ _ _ H3 x _ _ _ offh (hide_nb _) R4 aw φ2 ?_
    intro Γ5 σ5 H5 φ5 R5 _ hw5
    have hw : L2.wipe σ5 vs = L2.wipe σ vs := by
      rw [hw5 vs hts]
      have : ∀ us : List Nat, (∀ u ∈ us, u ∈ vs) → L2.wipe (L2.wipe σ us) vs = L2.wipe σ vs := by
        intro us
        induction us with
        | nil => intro _; rfl
        | cons u us ih =>
          intro h
          show L2.wipe ((L2.wipe σ us).set u none) vs = _
          rw [wipe_in (h u (by simp))]
          exact ih fun v hv => h v (List.mem_cons_of_mem _ hv)
      exact this vs fun _ z => z
    have hw' : L2.wipe σ5 vs = L2.wipe (L2.wipe σ vs) vs := by rw [hw5 vs hts]
    refine ⟨by rw [hw5 vs hts]; exact (hw5 vs hts).symm.trans hw, ?_⟩
    refine dT (n' + 1) _ Γ5 σ5 H5 _ _ offh R5 φ5 ?_
    rintro b Γ6 H6 ⟨φt, φf⟩ R6
    cases b with
    | false =>
      rw [if_neg (by decide)]
      exact ⟨acc, _, R6.unhide R3 (bors acc) hw, φf rfl⟩
    | true =>
      rw [if_pos rfl]
      refine dE (n' + 1) _ Γ6 σ5 H6 _ _ offh R6 (φt rfl) ?_
      rintro r y Γ7 H7 ⟨yd, Γ8, hz8, φ8⟩ R7
      have R8 := R7.frzR offh hz8
      have fn8 : upF (hide (upF f' n' (some (.own (.list acc), .ref D)))) (n' + 1) (some (.v yd, y)) n' = some (.own (.list acc), .ref D) := by
        unfold upF
        rw [if_neg (by omega)]
        exact fn
      have ay := R8.heldV
      cases R8.e.ok (.inl n') _ _ fn8 with
      | own ow =>
        cases ow with
        | @lst xs _ h1 h2 =>
          refine ⟨xs, h1, by rw [h2.len]; exact hz, ?_⟩
          have R9 := R8.putHeld (d' := .list (acc ++ [yd])) (o := .lst (xs ++ [y])) fn8 fun W H' t e => .lst e (AcL.tr t _ (h2.snoc ay))
          have e9 : upF (upF (hide (upF f' n' (some (.own (.list acc), .ref D)))) (n' + 1) (some (.v yd, y))) n' (some (.own (.list (acc ++ [yd])), .ref D)) = upF (hide (upF f' n' (some (.own (.list (acc ++ [yd])), .ref D)))) (n' + 1) (some (.v yd, y)) := by
            funext m
            by_cases q : m = n'
            · subst q
              rw [upF_same]
              unfold upF
              rw [if_neg (by omega)]
              exact (hide_keep (fun i z => by cases z) upF_same).symm
            · by_cases q2 : m = n' + 1
              · subst q2
                unfold upF
                rw [if_neg (by omega), if_pos rfl, if_pos rfl]
              · unfold upF hide
                rw [if_neg q, if_neg q2, if_neg q2]
                simp only [if_neg q]
          rw [e9] at R9
          have R10 := R9.drop (hide_off off'.up)
          exact ⟨acc ++ [yd], _, R10.unhide R3 (bors _) hw, φ8⟩
  · refine .inl ⟨okJ.stop _ Γ2 σ H2 i (hdl _) ?_ R2 ge, ?_⟩
    · rw [List.drop_eq_nil_of_le ge] at φ2
      exact φ2.1
    · rw [List.drop_eq_nil_of_le ge] at φ2
      exact k _ _ _ _ φ2.2 (R2.down off hn low)
/-- name = [..] -/
theorem xs_setLc {i : Nat} {y : Str} {py : Pos} {elt tg iter : Expr} {ifs : List Expr} {scope : Scope} {own : List (Str × Nat)} {pos spos : Pos} {wi : TI} {g : TG} {tt : L2.TT} {te : TE} {wI : PIc} {wG : PG'} {wT : PXT} {wE : PX} {ts : List Nat} (hc : X.calm = true) (hN : X.N.Nodup) (hy : X.N[i]? = some y) (hyl : X.env.scope.names.lookup y = some .local)
    (hsw : swapsWith (.ListComp elt [⟨tg, iter, ifs, 0⟩] scope pos) (some (.Name y py)) spos.line X.env = pure true) (hi : XIc X tg iter wi wI) (ok : BlkOk X.N X.env.scope scope own)
    (hg : ∀ (s : Shared) (H : Hp) (C : Addr) (cl : List (Str × Addr)) (fp : List Addr), XG (X.blk s H scope (compEnvC scope cl C X.env) fp) tg g wG ts) (ht : ∀ (s : Shared) (H : Hp) (C : Addr) (cl : List (Str × Addr)) (fp : List Addr), XTs (X.blk s H scope (compEnvC scope cl C X.env) fp) ifs tt wT)
    (he : ∀ (s : Shared) (H : Hp) (C : Addr) (cl : List (Str × Addr)) (fp : List Addr), XE (X.blk s H scope (compEnvC scope cl C X.env) fp) elt te wE) (hts : ∀ i ∈ ts, i ∈ own.map (·.2) := by decide) (hs : ∀ x, foldedSetIterable iter X.env x = pure x := by intro _; rfl) :
    XS X (.Assign [.Name y py] (.ListComp elt [⟨tg, iter, ifs, 0⟩] scope pos) spos) (tAsg (tLc wi g tt te (own.map (·.2))) (gName i)) (wSet i (wLc (own.map (·.2)) wI wG wT wE)) :=
  ⟨ps_setLc hc hN hy hyl hsw hi.1 ok (fun s H C cl fp => (hg s H C cl fp).1) (fun s H C cl fp => (ht s H C cl fp).1) (fun s H C cl fp => (he s H C cl fp).1) hs,
    fun C hK => ds_set ((xe_lc (pos := pos) hc hN hi ok hg ht he hts hs).2 C hK)⟩
end
end Px
end

/-! Px8 -/
section
set_option Elab.async false
set_option linter.all false
set_option maxRecDepth 100000
set_option maxHeartbeats 2000000
set_option autoImplicit false
namespace Px
open PySem PySem.Spec PyProof.Rows L2 Dh

/-! ### operators -/
section
variable {K : PySem.W.Frag} {W : AS} {H : Hp}
theorem PureR2.ints {C : Int → Int → Prop} {g : Int → Int → Int} (φ : PO') (h : ∀ d e Ψ, φ [d, e] Ψ → ∃ i j, d = .int i ∧ e = .int j ∧ C i j ∧ Ψ (.v (.int (g i j)))) : PureR2 K (rI C fun i j => .int (g i j)) φ := by
  intro W H x y d e Q Ψ hx hy hφ P
  obtain ⟨i, j, rfl, rfl, c, q⟩ := h _ _ _ hφ
  exact ⟨i, j, hx.int, hy.int, c, P.val _ _ q (.int _)⟩
theorem PureR2.ints0 {g : Int → Int → Int} (φ : PO') (h : ∀ d e Ψ, φ [d, e] Ψ → ∃ i j, d = .int i ∧ e = .int j ∧ Ψ (.v (.int (g i j)))) : PureR2 K (rI0 fun i j => .int (g i j)) φ := by
  intro W H x y d e Q Ψ hx hy hφ P
  obtain ⟨i, j, rfl, rfl, q⟩ := h _ _ _ hφ
  exact ⟨i, j, hx.int, hy.int, P.val _ _ q (.int _)⟩
theorem PureR2.cmps {g : Int → Int → Bool} (φ : PO') (h : ∀ d e Ψ, φ [d, e] Ψ → ∃ i j, d = .int i ∧ e = .int j ∧ Ψ (.v (.bool (g i j)))) : PureR2 K (rI0 fun i j => .bl (g i j)) φ := by
  intro W H x y d e Q Ψ hx hy hφ P
  obtain ⟨i, j, rfl, rfl, q⟩ := h _ _ _ hφ
  exact ⟨i, j, hx.int, hy.int, P.val _ _ q (.bl _)⟩
end
def pAdd : PO' | [.int i, .int j], Ψ => Ψ (.v (.int (i + j))) | _, _ => False
def pSub : PO' | [.int i, .int j], Ψ => Ψ (.v (.int (i - j))) | _, _ => False
def pMul : PO' | [.int i, .int j], Ψ => CMul i j ∧ Ψ (.v (.int (i * j))) | _, _ => False
def pMod : PO' | [.int i, .int j], Ψ => 0 < j ∧ Ψ (.v (.int (i % j))) | _, _ => False
def pFdiv : PO' | [.int i, .int j], Ψ => CDiv i j ∧ Ψ (.v (.int (i / j))) | _, _ => False
def pPow : PO' | [.int i, .int j], Ψ => CPow i j ∧ Ψ (.v (.int (i ^ j.toNat))) | _, _ => False
def pLt : PO' | [.int i, .int j], Ψ => Ψ (.v (.bool (decide (i < j)))) | _, _ => False
def pLe : PO' | [.int i, .int j], Ψ => Ψ (.v (.bool (decide (i ≤ j)))) | _, _ => False
def pGt : PO' | [.int i, .int j], Ψ => Ψ (.v (.bool (decide (j < i)))) | _, _ => False
def pGe : PO' | [.int i, .int j], Ψ => Ψ (.v (.bool (decide (j ≤ i)))) | _, _ => False
theorem two_ints {φ : Int → Int → (D → Prop) → Prop} {p : PO'} (hp : ∀ i j Ψ, p [.int i, .int j] Ψ = φ i j Ψ) (h0 : ∀ d e Ψ, p [d, e] Ψ → ∃ i j, d = .int i ∧ e = .int j) : ∀ d e Ψ, p [d, e] Ψ → ∃ i j, d = .int i ∧ e = .int j ∧ φ i j Ψ := by
  intro d e Ψ h
  obtain ⟨i, j, rfl, rfl⟩ := h0 _ _ _ h
  exact ⟨i, j, rfl, rfl, by rw [← hp]; exact h⟩
theorem PAdd {K} : PureR2 K (rI0 fun i j => .int (i + j)) pAdd := PureR2.ints0 pAdd fun d e Ψ h => by cases d <;> cases e <;> first | exact ⟨_, _, rfl, rfl, h⟩ | exact h.elim
theorem PSub {K} : PureR2 K (rI0 fun i j => .int (i - j)) pSub := PureR2.ints0 pSub fun d e Ψ h => by cases d <;> cases e <;> first | exact ⟨_, _, rfl, rfl, h⟩ | exact h.elim
theorem PMul {K} : PureR2 K (rI CMul fun i j => .int (i * j)) pMul := PureR2.ints pMul fun d e Ψ h => by cases d <;> cases e <;> first | exact ⟨_, _, rfl, rfl, h.1, h.2⟩ | exact h.elim
theorem PMod {K} : PureR2 K (rI (fun _ j => 0 < j) fun i j => .int (i % j)) pMod := PureR2.ints pMod fun d e Ψ h => by cases d <;> cases e <;> first | exact ⟨_, _, rfl, rfl, h.1, h.2⟩ | exact h.elim
theorem PFdiv {K} : PureR2 K (rI CDiv fun i j => .int (i / j)) pFdiv := PureR2.ints pFdiv fun d e Ψ h => by cases d <;> cases e <;> first | exact ⟨_, _, rfl, rfl, h.1, h.2⟩ | exact h.elim
theorem PPow {K} : PureR2 K (rI CPow fun i j => .int (i ^ j.toNat)) pPow := PureR2.ints pPow fun d e Ψ h => by cases d <;> cases e <;> first | exact ⟨_, _, rfl, rfl, h.1, h.2⟩ | exact h.elim
theorem PLt {K} : PureR2 K (rI0 fun i j => .bl (decide (i < j))) pLt := PureR2.cmps pLt fun d e Ψ h => by cases d <;> cases e <;> first | exact ⟨_, _, rfl, rfl, h⟩ | exact h.elim
theorem PLe {K} : PureR2 K (rI0 fun i j => .bl (decide (i ≤ j))) pLe := PureR2.cmps pLe fun d e Ψ h => by cases d <;> cases e <;> first | exact ⟨_, _, rfl, rfl, h⟩ | exact h.elim
theorem PGt {K} : PureR2 K (rI0 fun i j => .bl (decide (j < i))) pGt := PureR2.cmps pGt fun d e Ψ h => by cases d <;> cases e <;> first | exact ⟨_, _, rfl, rfl, h⟩ | exact h.elim
theorem PGe {K} : PureR2 K (rI0 fun i j => .bl (decide (j ≤ i))) pGe := PureR2.cmps pGe fun d e Ψ h => by cases d <;> cases e <;> first | exact ⟨_, _, rfl, rfl, h⟩ | exact h.elim
/-- texts, lists, tuples put together -/
def pAddS : PO' | [.str i, .str j], Ψ => i.length + j.length ≤ sizeLine ∧ Ψ (.v (.str (i ++ j))) | _, _ => False
theorem PAddS {K} : PureR2 K (fun x y H Q => ∃ i j, x = .str i ∧ y = .str j ∧ i.length + j.length ≤ sizeLine ∧ Q (.str (i ++ j)) H) pAddS := by
  intro W H x y d e Q Ψ hx hy hφ P
  cases d <;> cases e <;> first | exact hφ.elim | skip
  exact ⟨_, _, hx.str, hy.str, hφ.1, P.val _ _ hφ.2 (.str _)⟩
def pCat : PO' | [.list ds, .list es], Ψ => ds.length + es.length ≤ sizeLine ∧ Ψ (.own (.list (ds ++ es))) | _, _ => False
theorem PCat {K} : PureR2 K rCat pCat := by
  intro W H x y d e Q Ψ hx hy hφ P
  cases d <;> cases e <;> first | exact hφ.elim | skip
  obtain ⟨a, xs, rfl, ha, h1⟩ := hx.lst0
  obtain ⟨b, ys, rfl, hb, h2⟩ := hy.lst0
  exact ⟨a, b, xs, ys, rfl, rfl, ha, hb, by rw [h1.len, h2.len]; exact hφ.1, fun p hp => P.lst _ _ _ hφ.2 hp (h1.app h2)⟩
theorem Rv.tupAc {K : PySem.W.Frag} {W : AS} {H : Hp} {x : V} {ds : List PyData} (h : Rv K W H x (.tuple ds)) : Ac K W H x (.tuple ds) := by
  rcases h with h | ⟨a, rfl, h⟩
  · exact h
  · cases h
def pCatT : PO' | [.tuple ds, .tuple es], Ψ => ds.length + es.length ≤ sizeLine ∧ Ψ (.v (.tuple (ds ++ es))) | _, _ => False
theorem PCatT {K} : PureR2 K (rCatA K) pCatT := by
  intro W H x y d e Q Ψ hx hy hφ P
  cases d <;> cases e <;> first | exact hφ.elim | skip
  rename_i ds es
  have ax := hx.tupAc
  have ay := hy.tupAc
  obtain ⟨a, xs, rfl, ha, h1⟩ := hx.tup
  obtain ⟨b, ys, rfl, hb, h2⟩ := hy.tup
  refine ⟨a, b, xs, ys, rfl, rfl, ha, hb, by rw [h1.len, h2.len]; exact hφ.1, fun e => ?_, fun _ e => ?_, fun _ _ p hp => P.tup _ _ _ hφ.2 hp (h1.app h2)⟩
  · subst e
    cases h1
    exact P.val _ _ hφ.2 ay
  · subst e
    cases h2
    have e : ds ++ [] = ds := List.append_nil _
    exact P.val _ _ hφ.2 (by rw [e]; exact ax)
/-- [..] * k -/
def repD (ds : List PyData) : Nat → List PyData
  | 0 => []
  | k + 1 => ds ++ repD ds k
/-! ### items -/
def pIx : PO'
  | [.list ds, .int i], Ψ => ∃ c, atI ds i = some c ∧ Ψ (.v c)
  | [.tuple ds, .int i], Ψ => ∃ c, atI ds i = some c ∧ Ψ (.v c)
  | [.str z, .int i], Ψ => z.length ≤ sizeLine ∧ ∃ c, atI z.cps.toList i = some c ∧ Ψ (.v (.str ⟨#[c]⟩))
  | _, _ => False
theorem AcL.atI' {K : PySem.W.Frag} {W : AS} {H : Hp} {vs : List V} {ds : List PyData} (h : AcL K W H vs ds) {i : Int} {c : PyData} (e : atI ds i = some c) : ∃ v, atI vs i = some v ∧ Ac K W H v c := by
  unfold atI at e ⊢
  rw [h.len]
  cases q : ixN ds.length i with
  | none => rw [q] at e; cases e
  | some j =>
    rw [q] at e
    exact h.at e
theorem PIx {K} : PureR2 K (rIx K) pIx := by
  intro W H x y d e Q Ψ hx hy hφ P
  cases d <;> cases e <;> first | exact hφ.elim | skip
  · obtain ⟨hz, c, hc, q⟩ := hφ
    exact .inr (.inr ⟨_, _, c, hx.str, hy.int, hz, hc, P.val _ _ q (.str _)⟩)
  · obtain ⟨c, hc, q⟩ := hφ
    obtain ⟨a, xs, rfl, ha, h1⟩ := hx.lst
    obtain ⟨v, hv, av⟩ := h1.atI' hc
    exact .inl ⟨a, xs, _, v, rfl, hy.int, ha, hv, P.val _ _ q av⟩
  · obtain ⟨c, hc, q⟩ := hφ
    obtain ⟨a, xs, rfl, ha, h1⟩ := hx.tup
    obtain ⟨v, hv, av⟩ := h1.atI' hc
    exact .inr (.inl ⟨a, xs, _, v, rfl, hy.int, ha, hv, P.val _ _ q av⟩)
section
variable {X : Cx} [IK]
theorem xe_ix {a b : Expr} {pos : Pos} {ta tb : TE} {wa wb : PX} (ha : XE X a ta wa) (hb : XE X b tb wb) (hs : PlainIx b) : XE X (.Subscript a b pos) (tOp (rIx X.K) ta tb) (wO pIx wa wb) :=
  xe_O ha hb (fun _ _ pa pb => pe_ix ix_seq pa pb hs) PIx
/-! ### slices -/
def cutD (ds : List PyData) (lo hi : Option Int) : List PyData := (ds.drop (HT.sIx ds.length 0 lo)).take (HT.sIx ds.length ds.length hi - HT.sIx ds.length 0 lo)
abbrev PXO := Env → (Option Int → Env → Prop) → Prop
def DO (C : Cc) (t : TO) (w : PXO) : Prop := ∀ (n : Nat) (f : Fr) (Γ : Env) (σ : SS) (H : Hp) (Q : Option Int → Hp → Prop) (Φ : Option Int → Env → Prop), Off f n → Rel C f Γ σ H → w Γ Φ → (∀ i Γ' H', Φ i Γ' → Rel C f Γ' σ H' → Q i H') → t σ H Q
def XO (X : Cx) (e : Option Expr) (t : TO) (w : PXO) : Prop := L2.PO X e t ∧ ∀ C : Cc, Cok C X → DO C t w
theorem xo_none : XO X none tNoPart (fun Γ Φ => Φ none Γ) := ⟨po_none, fun C hK n f Γ σ H Q Φ off R w k => k _ _ _ w R⟩
theorem xo_some {e : Expr} {t : TE} {w : PX} (h : XE X e t w) : XO X (some e) (tPart t) (fun Γ Φ => w Γ fun r Γ1 => ∃ i, r = .v (.int i) ∧ Φ (some i) Γ1) := by
  refine ⟨po_some h.1, fun C hK n f Γ σ H Q Φ off R w k => h.2 C hK n f Γ σ H _ _ off R w ?_⟩
  rintro r x Γ1 H1 ⟨i, rfl, φ⟩ R1
  have := R1.heldV
  cases this
  exact ⟨i, rfl, k _ _ _ φ (R1.drop off)⟩
abbrev PS' := PyData → Option Int → Option Int → (D → Prop) → Prop
def PureS (K : PySem.W.Frag) (r : V → Option Int → Option Int → Hp → VK → Prop) (φ : PS') : Prop := ∀ W H x d lo hi Q Ψ, Rv K W H x d → φ d lo hi Ψ → Post K W H Q Ψ → r x lo hi H Q
def wSl (φ : PS') (w : PX) (wl wh : PXO) : PX := fun Γ Φ => w Γ fun r Γ1 => wl Γ1 fun lo Γ2 => wh Γ2 fun hi Γ3 => ∃ d, res Γ3 r = some d ∧ φ d lo hi fun c => Φ c Γ3
theorem xe_slice {e : Expr} {lo hi : Option Expr} {p2 pos : Pos} {r : V → Option Int → Option Int → Hp → VK → Prop} {φ : PS'} {t : TE} {tl th : TO} {w : PX} {wl wh : PXO} (hr : SlR X r) (hp : PureS X.K r φ) (he : XE X e t w) (hl : XO X lo tl wl) (hh : XO X hi th wh) :
    XE X (.Subscript e (.Slice lo hi none p2) pos) (tSl r t tl th) (wSl φ w wl wh) := by
  refine ⟨pe_slice hr he.1 hl.1 hh.1, fun C hK n f Γ σ H Q Φ off R w k => he.2 C hK n f Γ σ H _ _ off R w ?_⟩
  intro r x Γ1 H1 φ1 R1
  refine hl.2 C hK (n + 1) _ Γ1 σ H1 _ _ off.up R1 φ1 ?_
  intro lo Γ2 H2 φ2 R2
  refine hh.2 C hK (n + 1) _ Γ2 σ H2 _ _ off.up R2 φ2 ?_
  rintro hi Γ3 H3 ⟨d, hd, φ3⟩ R3
  refine hp _ _ _ _ _ _ _ _ (by rw [← hK.k]; exact (R3.rv ent_held hd).tr (Tr.drop off)) φ3 (by rw [← hK.k]; exact (R3.drop off).post off k)
def pSlT : PS' | .tuple ds, lo, hi, Ψ => Ψ (.v (.tuple (cutD ds lo hi))) | _, _, _, _ => False
theorem AcL.cut {K : PySem.W.Frag} {W : AS} {H : Hp} {xs : List V} {ds : List PyData} (h : AcL K W H xs ds) (lo hi : Option Int) : AcL K W H (cutV xs lo hi) (cutD ds lo hi) := by
  unfold cutV cutD
  rw [h.len]
  exact AcL.tk _ (AcL.dr _ h)
theorem PSlT {K} : PureS K (rSlA K) pSlT := by
  intro W H x d lo hi Q Ψ hx hφ P
  cases d <;> first | exact hφ.elim | skip
  rename_i ds
  have ax := hx.tupAc
  obtain ⟨a, xs, rfl, ha, h1⟩ := hx.tup
  refine ⟨a, xs, rfl, ha, fun hw => ?_, fun _ p hp => P.tup _ _ _ hφ hp (h1.cut lo hi)⟩
  have e : cutD ds lo hi = ds := by
    unfold cutD
    rw [h1.len] at hw
    rw [hw.1, hw.2]
    simp
  exact P.val _ _ hφ (by rw [e]; exact ax)
def pSlL : PS' | .list ds, lo, hi, Ψ => Ψ (.own (.list (cutD ds lo hi))) | _, _, _, _ => False
theorem PSlL {K} : PureS K (rSlL K) pSlL := by
  intro W H x d lo hi Q Ψ hx hφ P
  cases d <;> first | exact hφ.elim | skip
  obtain ⟨a, xs, rfl, ha, h1⟩ := hx.lst
  exact ⟨a, xs, rfl, ha, fun p hp => P.lst _ _ _ hφ hp (h1.cut lo hi)⟩
/-! ### built-ins -/
def pLen : PO'
  | [.list ds], Ψ => Ψ (.v (.int ds.length))
  | [.tuple ds], Ψ => Ψ (.v (.int ds.length))
  | [.str z], Ψ => z.length ≤ sizeLine ∧ Ψ (.v (.int z.length))
  | _, _ => False
theorem PLen : PureR X.K (fun xs H Q => ∃ x n, xs = [x] ∧ LenV X.K x H n ∧ Q (.int n) H) pLen := by
  intro W H xs ds Q Ψ rv hφ P
  cases rv with
  | nil => exact hφ.elim
  | cons a b =>
    rename_i d _
    cases b with
    | cons _ _ => cases d <;> exact hφ.elim
    | nil =>
      cases d <;> first | exact hφ.elim | skip
      · rw [a.str]; exact ⟨_, _, rfl, ⟨hφ.1, rfl⟩, P.val _ _ hφ.2 (.int _)⟩
      · obtain ⟨a, xs, rfl, ha, h1⟩ := a.lst
        exact ⟨_, _, rfl, .inl ⟨xs, ha, rfl⟩, by rw [h1.len]; exact P.val _ _ hφ (.int _)⟩
      · obtain ⟨a, xs, rfl, ha, h1⟩ := a.tup
        exact ⟨_, _, rfl, .inr ⟨xs, ha, rfl⟩, by rw [h1.len]; exact P.val _ _ hφ (.int _)⟩
def pTupOf : PO'
  | [.list ds], Ψ => Ψ (.v (.tuple ds))
  | [.tuple ds], Ψ => Ψ (.v (.tuple ds))
  | _, _ => False
theorem PTupOf : PureR X.K (fun xs H Q => ∃ p ys, xs = [.ref p] ∧ ((SqL X.K H p ys ∧ ∀ l, H l = none → Q (.ref l) (upd H l (.tup ys))) ∨ (SqT X.K H p ys ∧ Q (.ref p) H))) pTupOf := by
  intro W H xs ds Q Ψ rv hφ P
  cases rv with
  | nil => exact hφ.elim
  | cons a b =>
    rename_i d _
    cases b with
    | cons _ _ => cases d <;> exact hφ.elim
    | nil =>
      cases d <;> first | exact hφ.elim | skip
      · obtain ⟨a, xs, rfl, ha, h1⟩ := a.lst
        exact ⟨_, _, rfl, .inl ⟨ha, fun l hl => P.tup _ _ _ hφ hl h1⟩⟩
      · have ax := a.tupAc
        obtain ⟨a, xs, rfl, ha, h1⟩ := a.tup
        exact ⟨_, _, rfl, .inr ⟨ha, P.val _ _ hφ ax⟩⟩
def pLstOf : PO'
  | [.list ds], Ψ => Ψ (.own (.list ds))
  | [.tuple ds], Ψ => Ψ (.own (.list ds))
  | _, _ => False
theorem PLstOf : PureR X.K (fun xs H Q => ∃ p ys, xs = [.ref p] ∧ (SqL X.K H p ys ∨ SqT X.K H p ys) ∧ ∀ l, H l = none → Q (.ref l) (upd H l (.lst ys))) pLstOf := by
  intro W H xs ds Q Ψ rv hφ P
  cases rv with
  | nil => exact hφ.elim
  | cons a b =>
    rename_i d _
    cases b with
    | cons _ _ => cases d <;> exact hφ.elim
    | nil =>
      cases d <;> first | exact hφ.elim | skip
      · obtain ⟨a, xs, rfl, ha, h1⟩ := a.lst
        exact ⟨_, _, rfl, .inl ha, fun l hl => P.lst _ _ _ hφ hl h1⟩
      · obtain ⟨a, xs, rfl, ha, h1⟩ := a.tup
        exact ⟨_, _, rfl, .inr ha, fun l hl => P.lst _ _ _ hφ hl h1⟩
/-- a list of bools -/
def boolsOf : List PyData → Option (List Bool)
  | [] => some []
  | .bool b :: r => (boolsOf r).map (b :: ·)
  | _ :: _ => none
theorem boolsOf_map : ∀ {ds : List PyData} {bs : List Bool}, boolsOf ds = some bs → ds = bs.map PyData.bool
  | [], _, h => by cases h; rfl
  | d :: r, bs, h => by
    cases d with
    | bool b =>
      simp only [boolsOf, Option.map_eq_some_iff] at h
      obtain ⟨cs, h1, rfl⟩ := h
      rw [boolsOf_map h1]; rfl
    | none => cases h
    | int _ => cases h
    | str _ => cases h
    | list _ => cases h
    | tuple _ => cases h
    | dict _ => cases h
def pAll : PO' | [.list ds], Ψ => ∃ bs, boolsOf ds = some bs ∧ Ψ (.v (.bool (bs.all id))) | _, _ => False
def pAny : PO' | [.list ds], Ψ => ∃ bs, boolsOf ds = some bs ∧ Ψ (.v (.bool (bs.any id))) | _, _ => False
theorem PAll : PureR X.K (rAll X.K) pAll := by
  intro W H xs ds Q Ψ rv hφ P
  cases rv with
  | nil => exact hφ.elim
  | cons a b =>
    rename_i d _
    cases b with
    | cons _ _ => cases d <;> exact hφ.elim
    | nil =>
      cases d <;> first | exact hφ.elim | skip
      obtain ⟨bs, hb, q⟩ := hφ
      obtain ⟨a, xs, rfl, ha, h1⟩ := a.lst
      rw [boolsOf_map hb] at h1
      rw [AcL.bools _ h1] at ha
      exact ⟨_, bs, rfl, ha, P.val _ _ q (.bl _)⟩
theorem PAny : PureR X.K (rAny X.K) pAny := by
  intro W H xs ds Q Ψ rv hφ P
  cases rv with
  | nil => exact hφ.elim
  | cons a b =>
    rename_i d _
    cases b with
    | cons _ _ => cases d <;> exact hφ.elim
    | nil =>
      cases d <;> first | exact hφ.elim | skip
      obtain ⟨bs, hb, q⟩ := hφ
      obtain ⟨a, xs, rfl, ha, h1⟩ := a.lst
      rw [boolsOf_map hb] at h1
      rw [AcL.bools _ h1] at ha
      exact ⟨_, bs, rfl, ha, P.val _ _ q (.bl _)⟩
/-! ### repr, isinstance, equality -/
mutual
theorem Ac.at0 {K : PySem.W.Frag} {W : AS} {H : Hp} : ∀ (d : PyData) {x : V}, Ac K W H x d → At K [] H x d
  | .none, _, h => by cases h; exact .non
  | .bool b, _, h => by cases h; exact .bl b
  | .int i, _, h => by cases h; exact .int i
  | .str x, _, h => by cases h; exact .str x
  | .list ds, _, h => by
    cases h with
    | lst h1 h2 h3 => exact .lst (.inl (.inl h1)) (by simp) (AcL.at0 ds h3)
  | .tuple ds, _, h => by
    cases h with
    | tup h1 h2 h3 => exact .tup (.inl (.inl h1)) (by simp) (AcL.at0 ds h3)
    | tupK h1 h3 => exact .tup (.inr h1) (by simp) (AcL.at0 ds h3)
  | .dict es, _, h => by
    cases h with
    | dic h1 h2 h3 => exact .dic h1 (by simp) (AcK.at0 es h3)
theorem AcL.at0 {K : PySem.W.Frag} {W : AS} {H : Hp} : ∀ (ds : List PyData) {xs : List V}, AcL K W H xs ds → AtL K [] H xs ds
  | [], _, h => by cases h; exact .nil
  | d :: ds, _, h => by
    cases h with
    | cons h1 h2 => exact .cons (Ac.at0 d h1) (AcL.at0 ds h2)
theorem AcK.at0 {K : PySem.W.Frag} {W : AS} {H : Hp} : ∀ (es : List (PyData × PyData)) {kvs : List (Key × V)}, AcK K W H kvs es → AtK K [] H kvs es
  | [], _, h => by cases h; exact .nil
  | (_, d) :: es, _, h => by
    cases h with
    | cons h1 h2 => exact .cons (Ac.at0 d h1) (AcK.at0 es h2)
end
theorem Rv.at0 {K : PySem.W.Frag} {W : AS} {H : Hp} {x : V} {d : PyData} (h : Rv K W H x d) : At K [] H x d := by
  rcases h with h | ⟨a, rfl, h⟩
  · exact Ac.at0 d h
  · cases h with
    | lst h1 h2 => exact .lst (.inl (.inl h1)) (by simp) (AcL.at0 _ h2)
    | dic h1 h2 => exact .dic h1 (by simp) (AcK.at0 _ h2)
def pRepr : PO' | [d], Ψ => d.showable = true ∧ d.depth ≤ 60 ∧ d.shown.length ≤ sizeLine ∧ Ψ (.v (.str d.shown)) | _, _ => False
theorem PRepr : PureR X.K (fun xs H Q => ∃ (M : List Addr) (v : V) (d : PyData), xs = [v] ∧ At X.K M H v d ∧ d.showable = true ∧ d.depth ≤ 60 ∧ d.shown.length ≤ sizeLine ∧ Q (.str d.shown) H) pRepr := by
  intro W H xs ds Q Ψ rv hφ P
  cases rv with
  | nil => exact hφ.elim
  | cons a b =>
    cases b with
    | cons _ _ => exact hφ.elim
    | nil => exact ⟨[], _, _, rfl, a.at0, hφ.1, hφ.2.1, hφ.2.2.1, P.val _ _ hφ.2.2.2 (.str _)⟩
mutual
theorem At.dp0 {K : PySem.W.Frag} {M : List Addr} {H : Hp} : ∀ (d : PyData) {x : V}, d.canLay0 = true → At K M H x d → Dp K H x d
  | .none, _, _, h => by cases h; exact .non
  | .bool b, _, _, h => by cases h; exact .bl b
  | .int i, _, _, h => by cases h; exact .int i
  | .str x, _, _, h => by cases h; exact .str x
  | .list ds, _, c, h => by
    cases h with
    | lst h1 h2 h3 => exact .lst h1 (AtL.dp0 ds (by simpa [PyData.canLay0] using c) h3)
  | .tuple ds, _, c, h => by
    cases h with
    | tup h1 h2 h3 => exact .tup h1 (AtL.dp0 ds (by simpa [PyData.canLay0] using c) h3)
  | .dict es, _, c, h => by simp [PyData.canLay0] at c
theorem AtL.dp0 {K : PySem.W.Frag} {M : List Addr} {H : Hp} : ∀ (ds : List PyData) {xs : List V}, PyData.canLayAll0 ds = true → AtL K M H xs ds → DpAll K H xs ds
  | [], _, _, h => by cases h; exact .nil
  | d :: ds, _, c, h => by
    have c' : d.canLay0 = true ∧ PyData.canLayAll0 ds = true := by simpa [PyData.canLayAll0] using c
    cases h with
    | cons h1 h2 => exact .cons (At.dp0 d c'.1 h1) (AtL.dp0 ds c'.2 h2)
end
def pEqD : PO' | [d, e], Ψ => SeqAt.shaped d = true ∧ SeqAt.shaped e = true ∧ Ψ (.v (.bool (PyData.eqv d e))) | _, _ => False
def pNeD : PO' | [d, e], Ψ => SeqAt.shaped d = true ∧ SeqAt.shaped e = true ∧ Ψ (.v (.bool (!PyData.eqv d e))) | _, _ => False
theorem PEqD {K} : PureR2 K (rEqD K) pEqD := by
  intro W H x y d e Q Ψ hx hy hφ P
  exact ⟨d, e, At.dp0 d (SeqAt.canLay_of_shaped hφ.1) hx.at0, At.dp0 e (SeqAt.canLay_of_shaped hφ.2.1) hy.at0, hφ.1, hφ.2.1, P.val _ _ hφ.2.2 (.bl _)⟩
theorem PNeD {K} : PureR2 K (rNeD K) pNeD := by
  intro W H x y d e Q Ψ hx hy hφ P
  exact ⟨d, e, At.dp0 d (SeqAt.canLay_of_shaped hφ.1) hx.at0, At.dp0 e (SeqAt.canLay_of_shaped hφ.2.1) hy.at0, hφ.1, hφ.2.1, P.val _ _ hφ.2.2 (.bl _)⟩
/-- of scalars -/
def eqS : PyData → PyData → Option Bool
  | .int i, .int j => some (decide (i = j))
  | .str i, .str j => some (decide (i = j))
  | .bool i, .bool j => some (decide (i = j))
  | .none, .none => some true
  | .none, .int _ => some false
  | .int _, .none => some false
  | .none, .str _ => some false
  | .str _, .none => some false
  | _, _ => none
def pEq : PO' | [d, e], Ψ => ∃ b, eqS d e = some b ∧ Ψ (.v (.bool b)) | _, _ => False
def pNe : PO' | [d, e], Ψ => ∃ b, eqS d e = some b ∧ Ψ (.v (.bool (!b))) | _, _ => False
theorem eqS_ok {K : PySem.W.Frag} {W : AS} {H : Hp} {x y : V} {d e : PyData} {b : Bool} (hx : Rv K W H x d) (hy : Rv K W H y e) (h : eqS d e = some b) : scal x y = true ∧ decide (x = y) = b := by
  cases d <;> cases e <;> first | (cases h; done) | skip
  · rw [hx.none, hy.none]; cases h; exact ⟨rfl, by simp⟩
  · rw [hx.none, hy.int]; cases h; exact ⟨rfl, by simp⟩
  · rw [hx.none, hy.str]; cases h; exact ⟨rfl, by simp⟩
  · rw [hx.bool, hy.bool]; cases h; exact ⟨rfl, by simp⟩
  · rw [hx.int, hy.none]; cases h; exact ⟨rfl, by simp⟩
  · rw [hx.int, hy.int]; cases h; exact ⟨rfl, by simp⟩
  · rw [hx.str, hy.none]; cases h; exact ⟨rfl, by simp⟩
  · rw [hx.str, hy.str]; cases h; exact ⟨rfl, by simp⟩
theorem PEq {K} : PureR2 K rEq pEq := by
  intro W H x y d e Q Ψ hx hy hφ P
  obtain ⟨b, hb, q⟩ := hφ
  obtain ⟨h1, h2⟩ := eqS_ok hx hy hb
  exact ⟨h1, by rw [h2]; exact P.val _ _ q (.bl _)⟩
theorem PNe {K} : PureR2 K rNe pNe := by
  intro W H x y d e Q Ψ hx hy hφ P
  obtain ⟨b, hb, q⟩ := hφ
  obtain ⟨h1, h2⟩ := eqS_ok hx hy hb
  exact ⟨h1, by rw [h2]; exact P.val _ _ q (.bl _)⟩
/-- is None -/
def isNone : PyData → Bool
  | .none => true
  | _ => false
def pIsN : PO' | [d, .none], Ψ => Ψ (.v (.bool (isNone d))) | _, _ => False
def pNotN : PO' | [d, .none], Ψ => Ψ (.v (.bool (!isNone d))) | _, _ => False
theorem isNone_ok {K : PySem.W.Frag} {W : AS} {H : Hp} {x : V} {d : PyData} (h : Rv K W H x d) : decide (x = .non) = isNone d := by
  rcases h with h | ⟨a, rfl, h⟩
  · cases h <;> simp [isNone]
  · cases h <;> simp [isNone]
theorem PIsN {K} : PureR2 K (fun x y H Q => y = .non ∧ Q (.bl (decide (x = .non))) H) pIsN := by
  intro W H x y d e Q Ψ hx hy hφ P
  cases e <;> first | exact hφ.elim | skip
  exact ⟨hy.none, by rw [isNone_ok hx]; exact P.val _ _ hφ (.bl _)⟩
theorem PNotN {K} : PureR2 K (fun x y H Q => y = .non ∧ Q (.bl (!decide (x = .non))) H) pNotN := by
  intro W H x y d e Q Ψ hx hy hφ P
  cases e <;> first | exact hφ.elim | skip
  exact ⟨hy.none, by rw [isNone_ok hx]; exact P.val _ _ hφ (.bl _)⟩
/-- in, of scalars in a row of scalars -/
def flatD : PyData → Bool
  | .list _ => false
  | .tuple _ => false
  | .dict _ => false
  | _ => true
def toV : PyData → V
  | .none => .non
  | .bool b => .bl b
  | .int i => .int i
  | .str x => .str x
  | _ => .non
theorem toV_ok {K : PySem.W.Frag} {W : AS} {H : Hp} {x : V} {d : PyData} (h : Ac K W H x d) (f : flatD d = true) : x = toV d := by
  cases h <;> first | rfl | cases f
theorem toV_all {K : PySem.W.Frag} {W : AS} {H : Hp} : ∀ {xs : List V} {ds : List PyData}, AcL K W H xs ds → ds.all flatD = true → xs = ds.map toV
  | [], [], .nil, _ => rfl
  | _ :: _, d :: ds, .cons a b, f => by
    have f' : flatD d = true ∧ ds.all flatD = true := by
      rw [List.all_cons] at f
      exact Bool.and_eq_true_iff.mp f
    rw [toV_ok a f'.1, toV_all b f'.2]; rfl
theorem toV_flat {d : PyData} (f : flatD d = true) : flatV (toV d) = true := by
  cases d <;> first | rfl | cases f
def seqOf : PyData → Option (List PyData)
  | .list ds => some ds
  | .tuple ds => some ds
  | _ => none
def pIn : PO' | [d, e], Ψ => flatD d = true ∧ ∃ es, seqOf e = some es ∧ es.all flatD = true ∧ Ψ (.v (.bool (inV (toV d) (es.map toV)))) | _, _ => False
def pNotIn : PO' | [d, e], Ψ => flatD d = true ∧ ∃ es, seqOf e = some es ∧ es.all flatD = true ∧ Ψ (.v (.bool (!inV (toV d) (es.map toV)))) | _, _ => False
theorem flat_all {es : List PyData} (f : es.all flatD = true) : (es.map toV).all flatV = true := by
  rw [List.all_map, List.all_eq_true]
  rw [List.all_eq_true] at f
  exact fun d hd => toV_flat (f d hd)
theorem Rv.flat {K : PySem.W.Frag} {W : AS} {H : Hp} {x : V} {d : PyData} (h : Rv K W H x d) (f : flatD d = true) : x = toV d := by
  rcases h with h | ⟨a, rfl, h⟩
  · exact toV_ok h f
  · cases h <;> cases f
theorem PIn {K} : PureR2 K (rIn K false) pIn := by
  intro W H x y d e Q Ψ hx hy hφ P
  obtain ⟨f, es, he, fs, q⟩ := hφ
  rw [hx.flat f]
  cases e <;> first | (cases he; done) | skip
  · cases he
    obtain ⟨a, xs, rfl, ha, h1⟩ := hy.lst
    rw [toV_all h1 fs] at ha
    exact ⟨a, _, rfl, .inl ha, toV_flat f, flat_all fs, by rw [if_neg (by decide)]; exact P.val _ _ q (.bl _)⟩
  · cases he
    obtain ⟨a, xs, rfl, ha, h1⟩ := hy.tup
    rw [toV_all h1 fs] at ha
    exact ⟨a, _, rfl, .inr ha, toV_flat f, flat_all fs, by rw [if_neg (by decide)]; exact P.val _ _ q (.bl _)⟩
theorem PNotIn {K} : PureR2 K (rIn K true) pNotIn := by
  intro W H x y d e Q Ψ hx hy hφ P
  obtain ⟨f, es, he, fs, q⟩ := hφ
  rw [hx.flat f]
  cases e <;> first | (cases he; done) | skip
  · cases he
    obtain ⟨a, xs, rfl, ha, h1⟩ := hy.lst
    rw [toV_all h1 fs] at ha
    exact ⟨a, _, rfl, .inl ha, toV_flat f, flat_all fs, by rw [if_pos rfl]; exact P.val _ _ q (.bl _)⟩
  · cases he
    obtain ⟨a, xs, rfl, ha, h1⟩ := hy.tup
    rw [toV_all h1 fs] at ha
    exact ⟨a, _, rfl, .inr ha, toV_flat f, flat_all fs, by rw [if_pos rfl]; exact P.val _ _ q (.bl _)⟩
/-- a sign in a text -/
def pInS : PO' | [.str s, .str z], Ψ => ∃ c, s = ⟨#[c]⟩ ∧ Ψ (.v (.bool (decide (c ∈ z.cps.toList)))) | _, _ => False
def pNotInS : PO' | [.str s, .str z], Ψ => ∃ c, s = ⟨#[c]⟩ ∧ Ψ (.v (.bool (!decide (c ∈ z.cps.toList)))) | _, _ => False
theorem PInS {K} : PureR2 K (fun x y H Q => ∃ (c : Nat) (z : Str), x = .str ⟨#[c]⟩ ∧ y = .str z ∧ Q (.bl (decide (c ∈ z.cps.toList))) H) pInS := by
  intro W H x y d e Q Ψ hx hy hφ P
  cases d <;> cases e <;> first | exact hφ.elim | skip
  obtain ⟨c, rfl, q⟩ := hφ
  exact ⟨c, _, hx.str, hy.str, P.val _ _ q (.bl _)⟩
theorem PNotInS {K} : PureR2 K (fun x y H Q => ∃ (c : Nat) (z : Str), x = .str ⟨#[c]⟩ ∧ y = .str z ∧ Q (.bl (!decide (c ∈ z.cps.toList))) H) pNotInS := by
  intro W H x y d e Q Ψ hx hy hφ P
  cases d <;> cases e <;> first | exact hφ.elim | skip
  obtain ⟨c, rfl, q⟩ := hφ
  exact ⟨c, _, hx.str, hy.str, P.val _ _ q (.bl _)⟩
/-- isinstance(v, T) -/
theorem Rv.tyx {K : PySem.W.Frag} {W : AS} {H : Hp} {x : V} {d : PyData} (h : Rv K W H x d) : TyX K H x (tyD d) := h.at0.tyx
def wIsi (T : String) (w : PX) : PX := fun Γ Φ => w Γ fun r Γ1 => ∃ d b, res Γ1 r = some d ∧ (∀ K : PySem.W.Frag, PySem.W.kitOne K (tyD d) (.type T) = some b) ∧ Φ (.v (.bool b)) Γ1
theorem xe_isi {a c : Expr} {T : String} {p pos : Pos} {t : TE} {w : PX} (hg : Gl X "isinstance") (hm : X.mg "isinstance" = none) (h : XE X a t w) (hc : PE X c (tC (.ty T)))
    (h1 : starEach [c] X.env = (false, eval c X.env) :: starEach [] X.env := by rfl) (h2 : starEach [a, c] X.env = (false, eval a X.env) :: starEach [c] X.env := by rfl) (hpl : (backTo pos (starEach [c] X.env)).any (·.1) = false := by rfl) :
    XE X (.Call (.Name "isinstance" p) [a, c] [] pos) (tCB (rIsi X.K) (tCons t (tCons (tC (.ty T)) tNil))) (wIsi T w) := by
  refine ⟨pe_callB call_isi hg hm (by decide +kernel) (pa_cons h.1 (pa_cons hc pa_nil h1) h2) (by decide) (by decide) h2 hpl, fun C hK n f Γ σ H Q Φ off R w k => h.2 C hK n f Γ σ H _ _ off R w ?_⟩
  rintro r x Γ1 H1 ⟨d, b, hd, hb, φ⟩ R1
  have rv := R1.rv (k := .inl n) ent_held hd
  refine ⟨x, .ty T, tyD d, .type T, b, rfl, .ty T, by rw [← hK.k]; exact rv.tyx, hb _, ?_⟩
  exact k _ _ _ _ φ ((R1.drop off).holdV off (.bl _))
/-! ### lists that are changed -/
def wAppend (i : Nat) (w : PX) : PX := fun Γ Φ => w Γ fun r Γ1 => ∃ d Γ2 ds, frz Γ1 r = some (d, Γ2) ∧ Γ2[i]? = some (some (.own (.list ds))) ∧ ds.length < sizeLine ∧ Φ (.v .none) (Γ2.set i (some (.own (.list (ds ++ [d])))))
section
variable {C : Cc} {f : Fr} {Γ : Env} {σ : SS} {H : Hp} {n : Nat}
/-- the list of a slot -/
theorem Rel.slotL {i : Nat} {ds : List PyData} (R : Rel C f Γ σ H) (h : Γ[i]? = some (some (.own (.list ds)))) : ∃ a xs, σ[i]? = some (some (.ref a)) ∧ H a = some (.lst xs) ∧ AcL C.K (WE C (ent f Γ σ)) H xs ds := by
  obtain ⟨x, hx, he⟩ := R.at h
  cases R.e.ok _ _ _ he with
  | own w =>
    cases w with
    | lst h1 h2 => exact ⟨_, _, hx, h1, h2⟩
end
theorem xe_append {e o : Expr} {t : TE} {i : Nat} {w : PX} (h : XE X e t w) (hp : ∀ t, PA X [e] t → PE X o (tBM X.K "list" rAppend (tVar i) t)) (h0 : starEach [e] X.env = (false, eval e X.env) :: starEach [] X.env := by rfl) :
    XE X o (tBM X.K "list" rAppend (tVar i) (tCons t tNil)) (fun Γ Φ => (∃ ds, Γ[i]? = some (some (.own (.list ds)))) ∧ wAppend i w Γ Φ) := by
  refine ⟨hp _ (pa_cons h.1 pa_nil h0), fun C hK n f Γ σ H Q Φ off R w k => ?_⟩
  obtain ⟨⟨ds0, hds0⟩, w⟩ := w
  obtain ⟨a, xs, hσ, hH, _⟩ := R.slotL hds0
  refine ⟨_, hσ, .inl ⟨rfl, xs, .inl (.inl hH)⟩, ?_⟩
  refine h.2 C hK n f Γ σ H _ _ off R w ?_
  rintro r x Γ1 H1 ⟨d, Γ2, ds, hz, hds, hl, φ⟩ R1
  have R2 := R1.frzR off hz
  obtain ⟨a', xs', hσ', hH', ha'⟩ := R2.slotL hds
  rw [hσ] at hσ'; cases hσ'
  refine ⟨a, xs', x, rfl, rfl, hH', by rw [ha'.len]; exact hl, ?_⟩
  have ax := R2.heldV
  have R3 := R2.put (d' := .list (ds ++ [d])) (o := .lst (xs' ++ [x])) hds hσ fun W H' t e => .lst e (AcL.tr t _ (ha'.snoc ax))
  exact k _ _ _ _ φ ((R3.drop off).holdV off .non)
def wExtend (i : Nat) (w : PX) : PX := fun Γ Φ => w Γ fun r Γ1 => ∃ es ds, res Γ1 r = some (.list es) ∧ Γ1[i]? = some (some (.own (.list ds))) ∧ ds.length + es.length ≤ sizeLine ∧ Φ (.v .none) (Γ1.set i (some (.own (.list (ds ++ es)))))
theorem xe_extend {e o : Expr} {t : TE} {i : Nat} {w : PX} (h : XE X e t w) (hp : ∀ t, PA X [e] t → PE X o (tBM X.K "list" rExtend (tVar i) t)) (h0 : starEach [e] X.env = (false, eval e X.env) :: starEach [] X.env := by rfl) :
    XE X o (tBM X.K "list" rExtend (tVar i) (tCons t tNil)) (fun Γ Φ => (∃ ds, Γ[i]? = some (some (.own (.list ds)))) ∧ wExtend i w Γ Φ) := by
  refine ⟨hp _ (pa_cons h.1 pa_nil h0), fun C hK n f Γ σ H Q Φ off R w k => ?_⟩
  obtain ⟨⟨ds0, hds0⟩, w⟩ := w
  obtain ⟨a, xs, hσ, hH, _⟩ := R.slotL hds0
  refine ⟨_, hσ, .inl ⟨rfl, xs, .inl (.inl hH)⟩, ?_⟩
  refine h.2 C hK n f Γ σ H _ _ off R w ?_
  rintro r x Γ1 H1 ⟨es, ds, hz, hds, hl, φ⟩ R1
  obtain ⟨b, ys, rfl, hB, hb⟩ := (R1.rv (k := .inl n) ent_held hz).lst0
  obtain ⟨a', xs', hσ', hH', ha'⟩ := R1.slotL hds
  rw [hσ] at hσ'; cases hσ'
  refine ⟨a, b, xs', ys, rfl, rfl, hH', hB, by rw [ha'.len, hb.len]; exact hl, ?_⟩
  have R3 := R1.put (d' := .list (ds ++ es)) (o := .lst (xs' ++ ys)) hds hσ fun W H' t e => .lst e (AcL.tr t _ (ha'.app hb))
  exact k _ _ _ _ φ ((R3.drop off).holdV off .non)
def wPop (i : Nat) : PX := fun Γ Φ => ∃ ds d, Γ[i]? = some (some (.own (.list (ds ++ [d])))) ∧ Φ (.v d) (Γ.set i (some (.own (.list ds))))
theorem xe_pop {o : Expr} {i : Nat} (hp : PE X o (tBM0 X.K "list" rPop (tVar i))) : XE X o (tBM0 X.K "list" rPop (tVar i)) (wPop i) := by
  refine ⟨hp, fun C hK n f Γ σ H Q Φ off R w k => ?_⟩
  obtain ⟨ds, d, hds, φ⟩ := w
  obtain ⟨a, xs, hσ, hH, ha⟩ := R.slotL hds
  have hl := ha.len
  have hl' : xs.length = ds.length + 1 := by rw [hl]; simp
  obtain ⟨v, hv, av⟩ := ha.at (i := ds.length) (d := d) (by simp)
  refine ⟨_, hσ, .inl ⟨rfl, xs, .inl (.inl hH)⟩, a, xs, v, rfl, rfl, hH, by rw [hl']; exact hv, ?_⟩
  have hd : AcL C.K (WE C (ent f Γ σ)) H xs.dropLast ds := by
    have := AcL.tk ds.length ha
    rw [List.take_left] at this
    rw [List.dropLast_eq_take, hl']
    exact this
  have R1 := R.holdV off av
  have R3 := R1.put (d' := .list ds) (o := .lst xs.dropLast) hds hσ fun W H' t e => .lst e (AcL.tr t _ (AcL.tr (Tr.less fun b hb => WE.keep off (fun _ z => by cases z) b hb) _ hd))
  exact k _ _ _ _ φ R3
end
end Px
end

/-! Px9 -/
section
set_option Elab.async false
set_option linter.all false
set_option maxRecDepth 100000
set_option maxHeartbeats 2000000
set_option autoImplicit false
namespace Px
open PySem PySem.Spec PyProof.Rows L2 Dh

/-! ### several values held -/
def upFs (f : Fr) (n : Nat) : List (PyData × V) → Fr
  | [] => f
  | p :: r => upFs (upF f n (some (.v p.1, p.2))) (n + 1) r
section
variable {C : Cc} {Γ : Env} {σ : SS} {H : Hp} [IK]
theorem Rel.holds : ∀ (ps : List (PyData × V)) {f : Fr} {n : Nat}, Rel C f Γ σ H → Off f n → (∀ p ∈ ps, Ac C.K (WE C (ent f Γ σ)) H p.2 p.1) → Rel C (upFs f n ps) Γ σ H ∧ Off (upFs f n ps) (n + ps.length)
  | [], _, _, R, off, _ => ⟨R, off⟩
  | p :: r, f, n, R, off, h => by
    have R1 := R.holdV off (h p List.mem_cons_self)
    have := Rel.holds r R1 off.up fun q hq => Ac.tr (Tr.less fun a z => WE.keep off (fun _ y => by cases y) a z) _ (h q (List.mem_cons_of_mem _ hq))
    refine ⟨this.1, ?_⟩
    have e : n + (p :: r).length = n + 1 + r.length := by simp; omega
    rw [e]; exact this.2
theorem Rel.unhold : ∀ (ps : List (PyData × V)) {f : Fr} {n : Nat}, Rel C (upFs f n ps) Γ σ H → Off f n → Rel C f Γ σ H ∧ ∀ p ∈ ps, Ac C.K (WE C (ent f Γ σ)) H p.2 p.1
  | [], _, _, R, _ => ⟨R, fun _ h => by cases h⟩
  | p :: r, f, n, R, off => by
    obtain ⟨R1, h⟩ := Rel.unhold r (f := upF f n (some (.v p.1, p.2))) (n := n + 1) R off.up
    refine ⟨R1.drop off, fun q hq => ?_⟩
    rcases List.mem_cons.mp hq with rfl | hq
    · exact Ac.tr (Tr.drop off) _ R1.heldV
    · exact Ac.tr (Tr.drop off) _ (h q hq)
end
theorem AcL.zips {K : PySem.W.Frag} {W : AS} {H : Hp} : ∀ {xs : List V} {ds : List PyData}, AcL K W H xs ds → ∃ ps : List (PyData × V), ps.map (·.1) = ds ∧ ps.map (·.2) = xs ∧ ∀ p ∈ ps, Ac K W H p.2 p.1
  | _, _, .nil => ⟨[], rfl, rfl, fun _ h => by cases h⟩
  | _, _, .cons a b => by
    obtain ⟨ps, h1, h2, h3⟩ := AcL.zips b
    exact ⟨(_, _) :: ps, by rw [List.map_cons, h1], by rw [List.map_cons, h2], fun p hp => by
      rcases List.mem_cons.mp hp with rfl | hp
      · exact a
      · exact h3 p hp⟩
theorem AcL.unzip {K : PySem.W.Frag} {W : AS} {H : Hp} : ∀ {ps : List (PyData × V)}, (∀ p ∈ ps, Ac K W H p.2 p.1) → AcL K W H (ps.map (·.2)) (ps.map (·.1))
  | [], _ => .nil
  | p :: r, h => .cons (h p List.mem_cons_self) (AcL.unzip fun q hq => h q (List.mem_cons_of_mem _ hq))
section
variable {X : Cx} [IK]
def wVs (wa : PX) (wr : PXR) : PXR := fun Γ Φ => wa Γ fun r Γ1 => ∃ d ds, res Γ1 r = some d ∧ seqOf d = some ds ∧ wr Γ1 fun es Γ2 => Φ (ds ++ es) Γ2
theorem xv_star {e : Expr} {es : List Expr} {p : Pos} {ta : TE} {tr : TA} {wa : PX} {wr : PXR} (ha : XE X e ta wa) (hr : XV X es tr wr) (hs : starEach (.Starred e p :: es) X.env = (true, eval e X.env) :: starEach es X.env := by rfl) :
    XV X (.Starred e p :: es) (StX.tStar X.K ta tr) (wVs wa wr) := by
  refine ⟨StX.pa_star ha.1 hr.1 hs, fun C hK n f Γ σ H Q Φ off R w k => ha.2 C hK n f Γ σ H _ _ off R w ?_⟩
  rintro r x Γ1 H1 ⟨d, ds, hd, hds, φ⟩ R1
  have rv := R1.rv (k := .inl n) ent_held hd
  have R0 := R1.drop off
  have go : ∀ a xs, x = V.ref a → (SqT X.K H1 a xs ∨ SqL X.K H1 a xs) → AcL C.K (WE C (ent f Γ1 σ)) H1 xs ds → ∃ p xs, x = V.ref p ∧ (SqT X.K H1 p xs ∨ SqL X.K H1 p xs) ∧ tr σ H1 fun ys H2 => Q (xs ++ ys) H2 := by
    intro a xs ex hq ha'
    refine ⟨a, xs, ex, hq, ?_⟩
    obtain ⟨ps, e1, e2, hps⟩ := ha'.zips
    obtain ⟨R2, off2⟩ := R0.holds ps off hps
    refine hr.2 C hK _ _ Γ1 σ H1 _ _ off2 R2 φ ?_
    intro es ys Γ2 H2 φ2 R3 ays
    obtain ⟨R4, hps2⟩ := R3.unhold ps off
    have a1 := AcL.unzip hps2
    rw [e1, e2] at a1
    refine k _ _ _ _ φ2 R4 (a1.app ?_)
    refine AcL.tr (Tr.less ?_) _ ays
    have : ∀ (ps : List (PyData × V)) (g : Fr) (m : Nat), Off g m → ∀ b, WE C (ent g Γ2 σ) b → WE C (ent (upFs g m ps) Γ2 σ) b := by
      intro ps
      induction ps with
      | nil => exact fun _ _ _ _ z => z
      | cons p r ih => exact fun g m hg b z => ih _ _ hg.up b (WE.drop hg z)
    exact this ps f n off
  cases d <;> first | (cases hds; done) | skip
  · cases hds
    obtain ⟨a, xs, ex, hq, hl⟩ := rv.lst
    exact go a xs ex (.inr (by rw [← hK.k]; exact hq)) (AcL.tr (Tr.drop off) _ hl)
  · cases hds
    obtain ⟨a, xs, ex, hq, hl⟩ := rv.tup
    exact go a xs ex (.inl (by rw [← hK.k]; exact hq)) (AcL.tr (Tr.drop off) _ hl)
/-- g(*y), g a name of one's own that holds a def -/
def tStarV (i : Nat) (f : Addr) (sp : Sp) (te : TE) : TE := fun σ H Q => σ[i]? = some (some (.ref f)) ∧ te σ H fun y H1 => ∃ a xs, y = V.ref a ∧ SqL X.K H1 a xs ∧ sp xs H1 Q fun _ _ _ => False
def wStarV (i : Nat) (f : Addr) (φ : PF) (w : PX) : PX := fun Γ Φ => Γ[i]? = some (some (.raw (.ref f))) ∧ w Γ fun r Γ1 => ∃ ds, res Γ1 (hld r) = some (.list ds) ∧ φ (ds.map D.v) fun r => Φ r Γ1
theorem xe_starV {e : Expr} {x : Str} {p sp_ pos : Pos} {i k : Nat} {f : Addr} {fd : FuncData} {ps : List Str} {φ : PF} {t : TE} {w : PX} (F : FnG X.prog X.w X.K X.mg X.base CX0 k f fd ps (spD X.K IK.ks φ)) (noG : X.A.guards = some []) (room : Room k X.A) (hk : PySem.W.keepIn X.K (.ref f) = true)
    (hb : Binds X.K fd ps []) (hN : X.N[i]? = some x) (hv : Vis X.env.scope x) (he : XE X e t w) (hd : (x == ("__debug__" : Str)) = false := by decide) (hcd : (x == ("__classdict__" : Str)) = false := by decide)
    (hst : starEach [.Starred e sp_] X.env = [(true, eval e X.env)] := by rfl) : XE X (.Call (.Name x p) [.Starred e sp_] [] pos) (tStarV (X := X) i f (spD X.K IK.ks φ) t) (wStarV i f φ w) := by
  refine ⟨⟨fun pins s σ H Q I h => ?_⟩, fun C hK n f' Γ σ H Q Φ off R w k => ?_⟩
  · obtain ⟨hs, h⟩ := h
    refine wpAny_Call_Name_kw (thn ((pe_var (pos := p) (i := i) hN hv hd hcd).run pins s σ H (fun v H1 => v = .ref f ∧ H1 = H) I ⟨.ref f, hs, rfl, rfl⟩) fun u s1 ⟨v, H1, I1, r1, ev, eH⟩ => ?_)
    subst ev
    rw [eH] at I1
    cases r1
    refine PySem.W.callWith_S (h₀ := X.base) I.ok.mod.kin hk (thn (he.1.run pins s1 σ H _ I1 h) fun v s2 ⟨y, H2, I2, ry, a, xs, ey, hxs, q⟩ => ?_) hst
    subst ey
    obtain rfl : v = Value.ref a := ry
    refine StX.star_any I2 (.inr hxs) fun us s3 I3 rv => ⟨I3.kIn, wpAny_call ?_⟩
    have hl : (us ++ []).length = ps.length := by rw [List.append_nil, ← rv.length]; exact F.ln _ _ _ _ q
    have bd := hb s3 us I3.kIn hl
    rw [List.append_nil] at bd
    refine codeAny_mono (F.go X.A X.stack s3 H2 ⟨us, []⟩ us xs _ _ noG room I3.env0 bd rv q) ?_
    intro z s' hz
    cases z with
    | error err => exact hz.elim
    | ok fl =>
      cases fl with
      | ret u => exact I3.after hz
      | next => exact hz.elim
      | brk => exact hz.elim
      | cont => exact hz.elim
  · obtain ⟨hi, w⟩ := w
    obtain ⟨x', hx', he'⟩ := R.at hi
    have : x' = .ref f := by cases R.e.ok _ _ _ he'; rfl
    subst this
    refine ⟨hx', he.2 C hK n f' Γ σ H _ _ off R w ?_⟩
    rintro r y Γ1 H1 ⟨ds, hr, φ1⟩ R1
    obtain ⟨a, xs, ey, hq, ha⟩ := (R1.hld.rv (k := .inl n) ent_held hr).lst
    have R0 := R1.drop off
    have ha' : AcL C.K (WE C (ent f' Γ1 σ)) H1 xs ds := AcL.tr (Tr.less fun b z => WE.drop off z) _ ha
    refine ⟨a, xs, ey, by rw [← hK.k]; exact hq, ?_⟩
    have pl : ∀ {xs : List V} {ds : List PyData}, AcL C.K (WE C (ent f' Γ1 σ)) H1 xs ds → PassL C.K C.U C.ik (WE C (ent f' Γ1 σ)) H1 (ds.map D.v) xs := by
      intro xs ds h
      induction ds generalizing xs with
      | nil => cases h; exact .nil
      | cons d ds ih =>
        cases h with
        | cons a b => exact .cons (.v a) (ih b)
    refine ⟨WE C (ent f' Γ1 σ), C.U, ds.map D.v, fun r => Φ r Γ1, fun b hb => ?_, fun b hb => .inl (R0.e.uM b hb), by rw [← hK.k, ← hK.i]; exact pl ha', φ1, fun r x H' φ2 B => k _ _ _ _ φ2 (R0.back off hK.k hK.i B)⟩
    rcases hb with hb | ⟨j, d, hb⟩
    · exact R0.e.tr _ hb
    · cases R0.e.ok _ _ _ hb with
      | own h => exact h.there
/-! ### a dict of the module, with text keys -/
def wKd (T : Str → Option D) (w : PX) : PX := fun Γ Φ => w Γ fun r Γ1 => ∃ z c, res Γ1 r = some (.str z) ∧ T z = some c ∧ Φ c Γ1
structure Tab (K : PySem.W.Frag) (w : World) (da : Addr) (T : Str → Option D) : Prop where
  get : ∀ z c, T z = some c → ∃ v, KDct K w da z v ∧ ((∃ d, c = .v d ∧ ∀ W H, Ac K W H v d) ∨ c = .raw v)
theorem xe_kd {a b : Expr} {pos : Pos} {da : Addr} {T : Str → Option D} {t : TE} {w : PX} (h : Tab X.K X.w da T) (ha : PE X a (tC (.ref da))) (hb : XE X b t w) (hs : PlainIx b) : XE X (.Subscript a b pos) (tOp (rIxD X.K X.w) (tC (.ref da)) t) (wKd T w) := by
  refine ⟨pe_ix ix_kdict ha hb.1 hs, fun C hK n f Γ σ H Q Φ off R w k => hb.2 C hK n f Γ σ H _ _ off R w ?_⟩
  rintro r x Γ1 H1 ⟨z, c, hz, hc, φ⟩ R1
  have e := (R1.rv (k := .inl n) ent_held hz).str
  subst e
  obtain ⟨v, kd, hv⟩ := h.get z c hc
  refine ⟨da, z, v, rfl, rfl, kd, ?_⟩
  rcases hv with ⟨d, rfl, hd⟩ | rfl
  · exact k _ _ _ _ φ ((R1.drop off).holdV off (by rw [hK.k]; exact hd _ _))
  · exact k _ _ _ _ φ ((R1.drop off).hold off (fun _ z => by cases z) .raw)
structure TabIn (K : PySem.W.Frag) (w : World) (da : Addr) (es : Array DictEntry) (n : Nat) (B : Str → Option Bool) : Prop where
  kd : KDict K w da es n
  ns : ∀ z b, B z = some b → ∃ r, PySem.W.nsIn K da z = some r ∧ r.isSome = b
def wInD (B : Str → Option Bool) (neg : Bool) (w : PX) : PX := fun Γ Φ => w Γ fun r Γ1 => ∃ z b, res Γ1 r = some (.str z) ∧ B z = some b ∧ Φ (.v (.bool (if neg then !b else b))) Γ1
def rNK (K : PySem.W.Frag) (da : Addr) (neg : Bool) : R2 := fun x y H Q => ∃ (z : Str) (r : Option Value), x = .str z ∧ y = .ref da ∧ PySem.W.nsIn K da z = some r ∧ Q (.bl (if neg then !r.isSome else r.isSome)) H
theorem de_inD {C : Cc} {da : Addr} {B : Str → Option Bool} {neg : Bool} {t : TE} {w : PX} {K : PySem.W.Frag} (h : ∀ z b, B z = some b → ∃ r : Option Value, PySem.W.nsIn K da z = some r ∧ r.isSome = b) (hb : DE C t w) :
    DE C (tOp (rNK K da neg) t (tC (.ref da))) (wInD B neg w) := by
  intro n f Γ σ H Q Φ off R w k
  refine hb n f Γ σ H _ _ off R w ?_
  rintro r x Γ1 H1 ⟨z, b, hz, hb', φ⟩ R1
  have e := (R1.rv (k := .inl n) ent_held hz).str
  obtain ⟨ro, h1, h2⟩ := h z b hb'
  refine ⟨z, ro, e, rfl, h1, k _ _ _ _ φ ((R1.drop off).holdV off ?_)⟩
  rw [h2]; exact .bl _
theorem op_nk {da : Addr} {es : Array DictEntry} {n : Nat} (h : KDict X.K X.w da es n) : OpR X (compareOp .NotIn) (rNK X.K da true) := op_notIn_kd h
theorem op_ik {da : Addr} {es : Array DictEntry} {n : Nat} (h : KDict X.K X.w da es n) : OpR X (compareOp .In) (rNK X.K da false) := op_in_kd h
theorem xt_notInKd {a b : Expr} {pos : Pos} {da : Addr} {es : Array DictEntry} {n : Nat} {B : Str → Option Bool} {t : TE} {w : PX} (h : TabIn X.K X.w da es n B) (hb : PE X b (tC (.ref da))) (ha : XE X a t w) (hm : behindInMarks .NotIn b = false) :
    XT X (.Compare a [.NotIn] [b] pos) (tTest (tOp (rNK X.K da true) t (tC (.ref da)))) (wB (wInD B true w)) :=
  ⟨pt_cmpR (op_nk h.kd) ha.1 hb hm, fun C hK => dt_B (de_inD (C := C) (neg := true) (K := X.K) h.ns (ha.2 C hK))⟩
end
end Px
end

/-! Px10 -/
section
set_option Elab.async false
set_option linter.all false
set_option maxRecDepth 100000
set_option maxHeartbeats 2000000
set_option autoImplicit false
namespace Px
open PySem PySem.Spec PyProof.Rows L2 Dh

theorem yT {A B : Prop} (h : A) : (true = true → A) ∧ (true = false → B) := ⟨fun _ => h, fun e => (nomatch e)⟩
theorem yF {A B : Prop} (h : B) : (false = true → A) ∧ (false = false → B) := ⟨fun e => (nomatch e), fun _ => h⟩
theorem isi {T : String} {d : PyData} {b : Bool} (h : IsT T d b) : ∀ K : PySem.W.Frag, PySem.W.kitOne K (tyD d) (.type T) = some b := fun K => h.kit
/-! ### dicts with int and text keys -/
abbrev KD := List (Key × PyData)
def dkD (kds : KD) : PyData := .dict (kds.map fun p => (keyD p.1, p.2))
def valD (kds : KD) (k : Key) : Option PyData := (kds.find? fun p => decide (p.1 = k)).map (·.2)
def putD (kds : KD) (k : Key) (d : PyData) : KD := if (kds.any fun p => decide (p.1 = k)) = true then kds.map (fun p => if p.1 = k then (p.1, d) else p) else kds ++ [(k, d)]
inductive AcP (K : PySem.W.Frag) (W : AS) (H : Hp) : List (Key × V) → KD → Prop
  | nil : AcP K W H [] []
  | cons {k : Key} {v : V} {d : PyData} {kvs : List (Key × V)} {kds : KD} : Ac K W H v d → AcP K W H kvs kds → AcP K W H ((k, v) :: kvs) ((k, d) :: kds)
theorem keyD_inj {a b : Key} (h : keyD a = keyD b) : a = b := by
  cases a <;> cases b <;> cases h <;> rfl
section
variable {K : PySem.W.Frag} {W W' : AS} {H H' : Hp}
theorem AcP.of : ∀ {kds : KD} {kvs : List (Key × V)}, AcK K W H kvs (kds.map fun p => (keyD p.1, p.2)) → AcP K W H kvs kds
  | [], _, h => by cases h; exact .nil
  | (k, d) :: r, kvs, h => by
    have h' : AcK K W H kvs ((keyD k, d) :: r.map fun p => (keyD p.1, p.2)) := h
    generalize e : keyD k = kk at h'
    cases h' with
    | cons a b =>
      rw [keyD_inj e]
      exact .cons a (AcP.of b)
theorem AcP.ack : ∀ {kds : KD} {kvs : List (Key × V)}, AcP K W H kvs kds → AcK K W H kvs (kds.map fun p => (keyD p.1, p.2))
  | _, _, .nil => .nil
  | _, _, .cons a b => .cons a (AcP.ack b)
theorem AcP.tr (t : Tr W H W' H') {kds : KD} {kvs : List (Key × V)} (h : AcP K W H kvs kds) : AcP K W' H' kvs kds := AcP.of (AcK.tr t _ h.ack)
theorem AcP.len : ∀ {kds : KD} {kvs : List (Key × V)}, AcP K W H kvs kds → kvs.length = kds.length
  | _, _, .nil => rfl
  | _, _, .cons _ b => by simp [AcP.len b]
theorem AcP.keys : ∀ {kds : KD} {kvs : List (Key × V)}, AcP K W H kvs kds → kvs.map (·.1) = kds.map (·.1)
  | _, _, .nil => rfl
  | _, _, .cons _ b => by simp [AcP.keys b]
theorem AcP.val : ∀ {kds : KD} {kvs : List (Key × V)}, AcP K W H kvs kds → ∀ (k : Key) (d : PyData), valD kds k = some d → ∃ v, valV kvs k = some v ∧ Ac K W H v d
  | _, _, .nil, _, _, e => by cases e
  | _, _, @AcP.cons _ _ _ j v d0 kvs kds a b, k, d, e => by
    unfold valD at e
    unfold valV
    by_cases q : j = k
    · simp [List.find?_cons, q] at e ⊢
      subst e; exact a
    · simp only [List.find?_cons, q, decide_false] at e ⊢
      exact AcP.val b k d e
theorem AcP.valN : ∀ {kds : KD} {kvs : List (Key × V)}, AcP K W H kvs kds → ∀ (k : Key), valD kds k = none → valV kvs k = none
  | _, _, .nil, _, _ => rfl
  | _, _, @AcP.cons _ _ _ j v d0 kvs kds a b, k, e => by
    unfold valD at e
    unfold valV
    by_cases q : j = k
    · simp [List.find?_cons, q] at e
    · simp only [List.find?_cons, q, decide_false] at e ⊢
      exact AcP.valN b k e
theorem AcP.any : ∀ {kds : KD} {kvs : List (Key × V)}, AcP K W H kvs kds → ∀ k : Key, (kvs.any fun p => decide (p.1 = k)) = kds.any fun p => decide (p.1 = k)
  | _, _, .nil, _ => rfl
  | _, _, .cons _ b, k => by simp only [List.any_cons, AcP.any b k]
theorem AcP.app : ∀ {kds es : KD} {kvs vs : List (Key × V)}, AcP K W H kvs kds → AcP K W H vs es → AcP K W H (kvs ++ vs) (kds ++ es)
  | _, _, _, _, .nil, h => h
  | _, _, _, _, .cons a b, h => .cons a (AcP.app b h)
theorem AcP.map : ∀ {kds : KD} {kvs : List (Key × V)}, AcP K W H kvs kds → ∀ {k : Key} {v : V} {d : PyData}, Ac K W H v d → AcP K W H (kvs.map fun p => if p.1 = k then (p.1, v) else p) (kds.map fun p => if p.1 = k then (p.1, d) else p)
  | _, _, .nil, _, _, _, _ => .nil
  | _, _, @AcP.cons _ _ _ j _ _ kvs kds a b, k, v, d, h => by
    by_cases q : j = k
    · simp only [List.map_cons, q, if_true]; exact .cons h (AcP.map b h)
    · simp only [List.map_cons, q, if_false]; exact .cons a (AcP.map b h)
theorem AcP.put {kds : KD} {kvs : List (Key × V)} (h : AcP K W H kvs kds) {k : Key} {v : V} {d : PyData} (a : Ac K W H v d) : AcP K W H (putK kvs k v) (putD kds k d) := by
  unfold putK putD
  rw [h.any k]
  split
  · exact h.map a
  · exact h.app (.cons a .nil)
theorem Rv.dk {x : V} {kds : KD} (h : Rv K W H x (dkD kds)) : ∃ a kvs, x = .ref a ∧ H a = some (.dK kvs) ∧ AcP K W H kvs kds := by
  obtain ⟨a, kvs, e, h1, h2⟩ := h.dic
  exact ⟨a, kvs, e, h1, AcP.of h2⟩
theorem Ow.dk {a : Addr} {kvs : List (Key × V)} {kds : KD} (e : H a = some (.dK kvs)) (h : AcP K W H kvs kds) : Ow K W H a (dkD kds) := .dic e h.ack
theorem Ow.isDk {a : Addr} {kds : KD} (h : Ow K W H a (dkD kds)) : ∃ kvs, H a = some (.dK kvs) ∧ AcP K W H kvs kds := by
  cases h with
  | dic h1 h2 => exact ⟨_, h1, AcP.of h2⟩
theorem keyV {k : Key} {x : V} (h : Rv K W H x (keyD k)) : x = kV k := by
  cases k with
  | inl i => exact h.int
  | inr s => exact h.str
end
section
variable {X : Cx} [IK]
def wDget (wd wk : PX) : PX := fun Γ Φ => wd Γ fun r Γ1 => wk Γ1 fun s Γ2 => ∃ kds k d, res Γ2 (hld r) = some (dkD kds) ∧ res Γ2 s = some (keyD k) ∧ valD kds k = some d ∧ Φ (.v d) Γ2
theorem xe_dget {o i : Expr} {pos : Pos} {td tk : TE} {wd wk : PX} (hu : X.A.units + 1 < cLine) (ho : XE X o td wd) (hi : XE X i tk wk) (hs : NoSl i := by intro _ _; rfl) : XE X (.Subscript o i pos) (tDGet td tk) (wDget wd wk) := by
  refine ⟨pe_dget hu ho.1 hi.1 hs, fun C hK n f Γ σ H Q Φ off R w k => ho.2 C hK n f Γ σ H _ _ off R w ?_⟩
  intro r x Γ1 H1 φ1 R1
  refine hi.2 C hK (n + 1) _ Γ1 σ H1 _ _ off.up R1.hld φ1 ?_
  rintro s y Γ2 H2 ⟨kds, kk, d, h1, h2, h3, φ⟩ R2
  have ey := keyV (R2.rv (k := .inl (n + 1)) ent_held h2)
  have R3 := R2.drop off.up
  obtain ⟨a, kvs, rfl, ha, hp⟩ := (R3.rv (k := .inl n) ent_held h1).dk
  obtain ⟨v, hv, av⟩ := hp.val kk d h3
  refine ⟨a, v, rfl, ?_, k _ _ _ _ φ ((R3.drop off).holdV off (Ac.tr (Tr.drop off) _ av))⟩
  rw [ey, ← hv]
  exact DGet.k ha
/-! ### a dict display -/
abbrev PXD := Env → (KD → Env → Prop) → Prop
def DPs (C : Cc) (trs : List (TE × TE)) (w : PXD) : Prop := ∀ (n : Nat) (f : Fr) (Γ : Env) (σ : SS) (H : Hp) (Q : List (V × V) → Hp → Prop) (Φ : KD → Env → Prop), Off f n → Rel C f Γ σ H → w Γ Φ →
  (∀ kds (kvs : List (Key × V)) Γ' H', Φ kds Γ' → Rel C f Γ' σ H' → AcP C.K (WE C (ent f Γ' σ)) H' kvs kds → Q (kvs.map fun kv => (kV kv.1, kv.2)) H') → tPairs trs σ H Q
def XPs (X : Cx) (pos : Pos) (ks : List (Option Expr)) (vs : List Expr) (trs : List (TE × TE)) (w : PXD) : Prop := PPs X pos ks vs trs ∧ ∀ C : Cc, Cok C X → DPs C trs w
def wDn : PXD := fun Γ Φ => Φ [] Γ
theorem xps_nil {pos : Pos} : XPs X pos [] [] [] wDn := ⟨pps_nil, fun C hK n f Γ σ H Q Φ off R w k => k [] [] _ _ w R .nil⟩
def wDc (wk wv : PX) (wr : PXD) : PXD := fun Γ Φ => wk Γ fun r Γ1 => ∃ k, r = .v (keyD k) ∧ wv Γ1 fun s Γ2 => ∃ d Γ3, frz Γ2 s = some (d, Γ3) ∧ wr Γ3 fun kds Γ4 => Φ ((k, d) :: kds) Γ4
theorem xps_cons {pos : Pos} {k v : Expr} {ks : List (Option Expr)} {vs : List Expr} {tk tv : TE} {trs : List (TE × TE)} {wk wv : PX} {wr : PXD} (hk : XE X k tk wk) (hv : XE X v tv wv) (hr : XPs X pos ks vs trs wr) : XPs X pos (some k :: ks) (v :: vs) ((tk, tv) :: trs) (wDc wk wv wr) := by
  refine ⟨pps_cons hk.1 hv.1 hr.1, fun C hK n f Γ σ H Q Φ off R w kk => hk.2 C hK n f Γ σ H _ _ off R w ?_⟩
  rintro r x Γ1 H1 ⟨key, rfl, φ1⟩ R1
  have ex : x = kV key := keyV (.inl R1.heldV)
  refine hv.2 C hK n f Γ1 σ H1 _ _ off (R1.drop off) φ1 ?_
  rintro s y Γ2 H2 ⟨d, Γ3, hz, φ2⟩ R2
  have R3 := R2.frzR off hz
  refine hr.2 C hK (n + 1) _ Γ3 σ H2 _ _ off.up R3 φ2 ?_
  intro kds kvs Γ4 H4 φ4 R4 ap
  have := kk _ ((key, y) :: kvs) _ _ φ4 (R4.drop off) (.cons (Ac.tr (Tr.drop off) _ R4.heldV) (ap.tr (Tr.drop off)))
  rw [ex]
  exact this
def mergeD (kds more : KD) : KD := more.foldl (fun acc p => putD acc p.1 p.2) kds
theorem AcP.merge {K : PySem.W.Frag} {W : AS} {H : Hp} : ∀ {more : KD} {ms : List (Key × V)} {kds : KD} {kvs : List (Key × V)}, AcP K W H ms more → AcP K W H kvs kds → AcP K W H (mergeK kvs ms) (mergeD kds more)
  | _, _, _, _, .nil, h => h
  | (k, d) :: _, (_, v) :: _, kds, kvs, .cons a b, h => (AcP.merge b (h.put a) : AcP K W H (mergeK (putK kvs k v) _) (mergeD (putD kds k d) _))
def wDict (wA : PXD) : PX := fun Γ Φ => wA Γ fun kds Γ1 => kds.length ≤ 15 ∧ Φ (.own (dkD (mergeD [] kds))) Γ1
theorem xe_dict {pos : Pos} {keys : List (Option Expr)} {values : List Expr} {trs : List (TE × TE)} {wA : PXD} (h : XPs X pos keys values trs wA) (hall : keys.all (·.isSome) = true := by rfl) (hl : keys.length = values.length := by rfl) (h0 : keys ≠ [] := by (intro z; cases z)) (h15 : keys.length ≤ 15 := by decide) :
    XE X (.Dict keys values pos) (tDisp trs) (wDict wA) := by
  refine ⟨pe_disp h.1 hall hl h0 h15, fun C hK n f Γ σ H Q Φ off R w k => ?_⟩
  intro p hp
  have R0 := R.mine (n := n) (o := .dK []) (d := dkD []) off hp fun W H' t e => Ow.dk e .nil
  refine h.2 C hK (n + 1) _ Γ σ _ _ _ off.up R0 w ?_
  rintro kds kvs Γ1 H1 ⟨hl, φ⟩ R1 ap
  cases R1.e.ok (.inl n) _ _ ent_held with
  | own ow =>
    obtain ⟨kvs0, h1, h2⟩ := ow.isDk
    cases h2
    refine ⟨h1, kvs, rfl, by rw [ap.len]; exact hl, ?_⟩
    have R2 := R1.putHeld (m := n) (d' := dkD (mergeD [] kds)) (o := .dK (mergeK [] kvs)) upF_same fun W H' t e => Ow.dk e ((ap.tr t).merge .nil)
    rw [upF_upF] at R2
    exact k _ _ _ _ φ R2
theorem xe_dict0 {pos : Pos} : XE X (.Dict [] [] pos) tDNewK (fun Γ Φ => Φ (.own (dkD [])) Γ) :=
  ⟨pe_dnewK, fun C hK n f Γ σ H Q Φ off R w k p hp => k _ _ _ _ w (R.mine off hp fun W H' t e => Ow.dk e .nil)⟩
/-! ### d[k] as a target -/
theorem Rel.slotD {C : Cc} {f : Fr} {Γ : Env} {σ : SS} {H : Hp} {i : Nat} {kds : KD} (R : Rel C f Γ σ H) (h : Γ[i]? = some (some (.own (dkD kds)))) : ∃ a kvs, σ[i]? = some (some (.ref a)) ∧ H a = some (.dK kvs) ∧ AcP C.K (WE C (ent f Γ σ)) H kvs kds := by
  obtain ⟨x, hx, he⟩ := R.at h
  cases R.e.ok _ _ _ he with
  | own w =>
    obtain ⟨kvs, h1, h2⟩ := w.isDk
    exact ⟨_, _, hx, h1, h2⟩
def gDput (i : Nat) (k : Key) : PG' := fun d Γ Φ => ∃ kds, Γ[i]? = some (some (.own (dkD kds))) ∧ kds.length < sizeLine ∧ Φ (Γ.set i (some (.own (dkD (putD kds k d)))))
theorem xg_dput {o e : Expr} {pos : Pos} {i : Nat} {k : Key} (hu : X.A.units + 1 < cLine) (ho : PE X o (tVar i)) (hk : PE X e (tC (kV k))) (ha : ∀ v, assign (.Subscript o e pos) X.env v = (do
      let ov ← holding [v] (eval o X.env)
      let iv ← holding [v, ov] (eval e X.env)
      standAt pos
      holding [v, ov, iv] (setItem ov iv v)
      release [v, ov, iv] []) := by intro _; rfl) : XG X (.Subscript o e pos) (gSub (tVar i) (tC (kV k)) rSetD) (gDput i k) [] := by
  refine ⟨pg_sub ho hk (set_dict hu) ha, fun C hK n f Γ σ H x d Q Φ off nb R a φ kk => ?_⟩
  obtain ⟨kds, hg, hl, φ⟩ := φ
  obtain ⟨p, kvs, hσ, hH, ap⟩ := R.slotD hg
  refine ⟨.ref p, hσ, p, _, rfl, DPut.k hH (by rw [ap.len]; exact hl), ?_⟩
  have he : ent f Γ σ (.inr i) = some (.own (dkD kds), .ref p) := by
    show slotE Γ[i]? σ[i]? = _
    rw [hg, hσ]; rfl
  have R1 := R.put (d' := dkD (putD kds k d)) (o := .dK (putK kvs k x)) hg hσ fun W H' t e => Ow.dk e ((ap.tr t).put (Ac.tr t _ a))
  refine kk _ _ _ φ R1 ?_ (fun _ _ => rfl)
  intro b u hb nb'
  have ne : b ≠ p := fun z => nb' (.inr ⟨.inr i, _, by rw [z]; exact he⟩)
  refine ⟨by rw [upd_ne ne]; exact hb, ?_⟩
  rintro (z | ⟨j, d', z⟩)
  · exact nb' (.inl z)
  · have hi : i < Γ.length := (List.getElem?_eq_some_iff.mp hg).1
    rw [ent_tell hi hσ] at z
    by_cases q : j = .inr i
    · subst q; rw [upE_same] at z; cases z; exact ne rfl
    · rw [upE_ne q] at z; exact nb' (.inr ⟨_, _, z⟩)
/-! ### a < b < c -/
def wChain (φ ψ : PO') (wa wb wc : PX) : PX := fun Γ Φ => wa Γ fun r Γ1 => wb Γ1 fun s Γ2 => ∃ d e, res Γ2 r = some d ∧ res Γ2 s = some e ∧ φ [d, e] fun c => ∃ b, c = .v (.bool b) ∧
  (b = true → wc Γ2 fun u Γ3 => ∃ e' g, res Γ3 s = some e' ∧ res Γ3 u = some g ∧ ψ [e', g] fun c => Φ c Γ3) ∧ (b = false → Φ (.v (.bool false)) Γ2)
theorem xe_chain {a b c : Expr} {op op' : CmpOp} {pos : Pos} {r r' : R2} {φ ψ : PO'} {ta tb tc : TE} {wa wb wc : PX} (ho : OpR X (compareOp op) r) (hr : PureR2 X.K r φ) (ho' : OpR X (compareOp op') r') (hr' : PureR2 X.K r' ψ) (ha : XE X a ta wa) (hb : XE X b tb wb) (hc : XE X c tc wc)
    (hm : lastMarks [op, op'] [b, c] = false := by with_unfolding_all rfl) : XE X (.Compare a [op, op'] [b, c] pos) (tChain r r' ta tb tc) (wChain φ ψ wa wb wc) := by
  refine ⟨pe_chain ho ho' ha.1 hb.1 hc.1 hm, fun C hK n f Γ σ H Q Φ off R w k => ha.2 C hK n f Γ σ H _ _ off R w ?_⟩
  intro r1 x Γ1 H1 φ1 R1
  refine hb.2 C hK (n + 1) _ Γ1 σ H1 _ _ off.up R1 φ1 ?_
  rintro r2 y Γ2 H2 ⟨d, e, hd, he, φ2⟩ R2
  have h2 := (R2.rv ent_held he).tr (Tr.drop off.up)
  have h1 := ((R2.drop off.up).rv ent_held hd).tr (Tr.drop off)
  have h2 := h2.tr (Tr.drop off)
  rw [hK.k] at h1 h2
  refine hr _ _ _ _ _ _ _ _ h1 h2 φ2 ⟨fun z cc hz ac => ?_, fun _ _ _ hz => ?_, fun _ _ _ hz => ?_, fun _ _ _ hz => ?_, fun _ hz => ?_⟩
  · obtain ⟨b, e1, f1, f2⟩ := hz
    cases e1
    cases ac
    refine ⟨b, rfl, ?_⟩
    cases b with
    | true =>
      rw [if_pos rfl]
      refine hc.2 C hK (n + 2) _ Γ2 σ H2 _ _ off.up.up R2 (f1 rfl) ?_
      rintro r3 z Γ3 H3 ⟨e', g, he', hg, φ3⟩ R3
      have h3 := (R3.rv ent_held hg).tr (Tr.drop off.up.up)
      have R4 := R3.drop off.up.up
      have h2 := (R4.rv (k := .inl (n + 1)) ent_held he').tr (Tr.drop off.up)
      have R5 := R4.drop off.up
      have h2 := h2.tr (Tr.drop off)
      have h3 := (h3.tr (Tr.drop off.up)).tr (Tr.drop off)
      exact hr' _ _ _ _ _ _ _ _ (by rw [← hK.k]; exact h2) (by rw [← hK.k]; exact h3) φ3 (by rw [← hK.k]; exact (R5.drop off).post off k)
    | false =>
      rw [if_neg (by decide)]
      exact k _ _ _ _ (f2 rfl) (((R2.drop off.up).drop off).holdV off (.bl _))
  · obtain ⟨b, e1, _⟩ := hz; cases e1
  · obtain ⟨b, e1, _⟩ := hz; cases e1
  · obtain ⟨b, e1, _⟩ := hz; cases e1
  · obtain ⟨b, e1, _⟩ := hz; cases e1
/-- a chain as a test -/
theorem xt_chain {e : Expr} {r r' : R2} {ta tb tc : TE} {w : PX} (h : XE X e (tChain r r' ta tb tc) w) (p : PT X e (tTest (tChain r r' ta tb tc))) : XT X e (tTest (tChain r r' ta tb tc)) (wB w) :=
  ⟨p, fun C hK => dt_B (h.2 C hK)⟩
/-! ### a, b = x, y -/
def wPar (i j : Nat) (wa wb : PX) : PXS := fun Γ Φ => wa Γ fun r Γ1 => ∃ r' Γ2, sto Γ1 r = some (r', Γ2) ∧ wb Γ2 fun s Γ3 => ∃ s' Γ4, sto Γ3 s = some (s', Γ4) ∧ Φ.nx ((Γ4.set j (some s')).set i (some r'))
theorem xs_par {i j : Nat} {x y : Str} {a b : Expr} {ta tb : TE} {wa wb : PX} {px py pt pos : Pos} {kt k2 pt2} (hc : X.calm = true) (hN : X.N.Nodup) (hi : X.N[i]? = some x) (hj : X.N[j]? = some y) (hij : i ≠ j)
    (hx : X.env.scope.names.lookup x = some .local) (hy : X.env.scope.names.lookup y = some .local) (ha : XE X a ta wa) (hb : XE X b tb wb)
    (hw : swappedStores [.Tuple [.Name x px, .Name y py] kt pt] (.Tuple [a, b] k2 pt2) X.env = pure (some [x, y]))
    (hs : swapsWithSole [.Tuple [.Name x px, .Name y py] kt pt] (.Tuple [a, b] k2 pt2) pos.line X.env = pure false := by rfl)
    (h1 : starEach [a, b] X.env = (false, eval a X.env) :: starEach [b] X.env := by rfl) (h2 : starEach [b] X.env = (false, eval b X.env) :: starEach [] X.env := by rfl) :
    XS X (.Assign [.Tuple [.Name x px, .Name y py] kt pt] (.Tuple [a, b] k2 pt2) pos) (tPar i j (tCons ta (tCons tb tNil))) (wPar i j wa wb) := by
  refine ⟨ps_par hc hN hi hj hij hx hy (pa_cons ha.1 (pa_cons hb.1 pa_nil h2) h1) hw hs, fun C hK n f Γ σ H D Φ off nb R w F => ha.2 C hK n f Γ σ H _ _ off R w ?_⟩
  rintro r v Γ1 H1 ⟨r', Γ2, hz, φ1⟩ R1
  obtain ⟨R2, nr⟩ := R1.sto off hz
  refine hb.2 C hK (n + 1) _ Γ2 σ H1 _ _ off.up R2 φ1 ?_
  rintro s u Γ3 H3 ⟨s', Γ4, hz2, φ2⟩ R3
  obtain ⟨R4, ns⟩ := R3.sto off.up hz2
  have nb2 : NoBor (upF f n (some (r', v))) := fun m i y => by
    unfold upF; split
    · intro z; cases z; exact nr _ rfl
    · exact nb m i y
  have R5 := R4.toSlot' off.up nb2 ns j
  have R6 := R5.toSlot' off nb nr i
  refine ⟨v, u, rfl, F.nx _ _ _ φ2 ?_⟩
  rw [List.set_comm _ _ hij]
  exact R6
/-! ### more operations -/
def wUn (φ : PyData → (D → Prop) → Prop) (w : PX) : PX := fun Γ Φ => w Γ fun r Γ1 => ∃ d, res Γ1 r = some d ∧ φ d fun c => Φ c Γ1
theorem xe_neg {a : Expr} {pos : Pos} {t : TE} {w : PX} (h : XE X a t w) : XE X (.UnaryOp .USub a pos) (tUn (rU fun i => .int (-i)) t) (fun Γ Φ => w Γ fun r Γ1 => ∃ i, r = .v (.int i) ∧ Φ (.v (.int (-i))) Γ1) := by
  refine ⟨pe_un un_neg h.1, fun C hK n f Γ σ H Q Φ off R w k => h.2 C hK n f Γ σ H _ _ off R w ?_⟩
  rintro r x Γ1 H1 ⟨i, rfl, φ⟩ R1
  have := R1.heldV
  cases this
  exact ⟨i, rfl, k _ _ _ _ φ ((R1.drop off).holdV off (.int _))⟩
/-- truth of a row -/
def wTru (w : PX) : PXT := fun Γ Φ => w Γ fun r Γ1 => ∃ d ds, res Γ1 r = some d ∧ seqOf d = some ds ∧ Φ (!ds.isEmpty) Γ1
def pMin2 : PO' | [.int i, .int j], Ψ => Ψ (.v (.int (if j < i then j else i))) | _, _ => False
theorem PMin2 : PureR X.K (fun xs H Q => ∃ i j, xs = [.int i, .int j] ∧ Q (.int (if j < i then j else i)) H) pMin2 := by
  intro W H xs ds Q Ψ rv hφ P
  match ds, rv, hφ with
  | [d, e], rv, hφ =>
    obtain ⟨x, y, rfl, h1, h2⟩ := rv.two
    cases d <;> cases e <;> first | exact hφ.elim | skip
    rw [h1.int, h2.int]
    exact ⟨_, _, rfl, P.val _ _ hφ (.int _)⟩
  | [], _, h => exact h.elim
  | [_], _, h => exact absurd h (by simp [pMin2])
  | _ :: _ :: _ :: _, _, h => exact absurd h (by simp [pMin2])
def pSortI : PO' | [.list ds], Ψ => ∃ ns : List Int, ds = ns.map .int ∧ ∀ ns' : List Int, ns'.Perm ns → ns'.Pairwise (· ≤ ·) → Ψ (.own (.list (ns'.map .int))) | _, _ => False
theorem PSortI : PureR X.K (rSortedI X.K) pSortI := by
  intro W H xs ds Q Ψ rv hφ P
  match ds, rv, hφ with
  | [d], rv, hφ =>
    obtain ⟨x, rfl, h1⟩ := rv.one
    cases d <;> first | exact hφ.elim | skip
    obtain ⟨ns, rfl, q⟩ := hφ
    obtain ⟨a, ys, rfl, ha, h2⟩ := h1.lst
    rw [AcL.ints _ h2] at ha
    exact ⟨a, ns, rfl, ha, fun ns' p hp hs hn => P.lst _ _ _ (q ns' hp hs) hn (AcL.ofInts _)⟩
  | [], _, h => exact h.elim
  | _ :: _ :: _, _, h => exact absurd h (by simp [pSortI])
def pSortS : PO' | [.list ds], Ψ => ∃ zs : List Str, ds = zs.map .str ∧ zs.length < 64 ∧ ∀ ys : List Str, ys.Perm zs → sortedS ys = true → Ψ (.own (.list (ys.map .str))) | _, _ => False
theorem PSortS : PureR X.K (rSortedS X.K) pSortS := by
  intro W H xs ds Q Ψ rv hφ P
  match ds, rv, hφ with
  | [d], rv, hφ =>
    obtain ⟨x, rfl, h1⟩ := rv.one
    cases d <;> first | exact hφ.elim | skip
    obtain ⟨ns, rfl, h64, q⟩ := hφ
    obtain ⟨a, ys, rfl, ha, h2⟩ := h1.lst
    rw [AcL.strs _ h2] at ha
    exact ⟨a, ns, rfl, ha, h64, fun ns' p hp hs hn => P.lst _ _ _ (q ns' hp hs) hn (AcL.ofStrs _)⟩
  | [], _, h => exact h.elim
  | _ :: _ :: _, _, h => exact absurd h (by simp [pSortS])
/-- list(d): its keys -/
def pKeys : PO' | [d], Ψ => ∃ kds, d = dkD kds ∧ Ψ (.own (.list (kds.map fun p => keyD p.1))) | _, _ => False
theorem AcP.keysL {K : PySem.W.Frag} {W : AS} {H : Hp} : ∀ {kds : KD} {kvs : List (Key × V)}, AcP K W H kvs kds → AcL K W H (kvs.map fun kv => kV kv.1) (kds.map fun p => keyD p.1)
  | _, _, .nil => .nil
  | _, _, @AcP.cons _ _ _ k _ _ _ _ _ b => .cons (by cases k; exact .int _; exact .str _) (AcP.keysL b)
theorem PKeys : PureR X.K rListD pKeys := by
  intro W H xs ds Q Ψ rv hφ P
  match ds, rv, hφ with
  | [d], rv, hφ =>
    obtain ⟨x, rfl, h1⟩ := rv.one
    obtain ⟨kds, rfl, q⟩ := hφ
    obtain ⟨a, kvs, rfl, ha, h2⟩ := h1.dk
    exact ⟨a, kvs, rfl, ha, fun p hn => P.lst _ _ _ q hn h2.keysL⟩
  | [], _, h => exact h.elim
  | _ :: _ :: _, _, h => exact absurd h (by simp [pKeys])
/-- [..] * k -/
theorem rep_ok {K : PySem.W.Frag} {W : AS} {H : Hp} {xs : List V} {ds : List PyData} (h : AcL K W H xs ds) : ∀ k : Nat, AcL K W H (List.replicate k xs).flatten (List.replicate k ds).flatten
  | 0 => .nil
  | k + 1 => by
    rw [List.replicate_succ, List.replicate_succ, List.flatten_cons, List.flatten_cons]
    exact h.app (rep_ok h k)
def pRep : PO' | [.list ds, .int k], Ψ => -(2 ^ 63) ≤ k ∧ k < 2 ^ 63 ∧ ds.length * k.toNat ≤ sizeLine ∧ Ψ (.own (.list (List.replicate k.toNat ds).flatten)) | _, _ => False
theorem PRep {K} : PureR2 K rRep pRep := by
  intro W H x y d e Q Ψ hx hy hφ P
  cases d <;> cases e <;> first | exact hφ.elim | skip
  obtain ⟨h1, h2, h3, q⟩ := hφ
  obtain ⟨a, xs, rfl, ha, al⟩ := hx.lst0
  exact ⟨a, _, xs, rfl, hy.int, ha, h1, h2, by rw [al.len]; exact h3, fun p hp => P.lst _ _ _ q hp (rep_ok al _)⟩
theorem xt_tru {a : Expr} {t : TE} {w : PX} (h : XE X a t w) (p : ∀ t, PE X a t → PT X a (fun σ H Q => t σ H fun x H' => ∃ k, TruV X.K x H' k ∧ Q k H')) : XT X a (fun σ H Q => t σ H fun x H' => ∃ k, TruV X.K x H' k ∧ Q k H') (wTru w) := by
  refine ⟨p _ h.1, fun C hK n f Γ σ H Q Φ off R w k => h.2 C hK n f Γ σ H _ _ off R w ?_⟩
  rintro r x Γ1 H1 ⟨d, ds, hd, hs, φ⟩ R1
  have rv := R1.rv (k := .inl n) ent_held hd
  have e : ∀ xs : List V, xs.length = ds.length → (!xs.isEmpty) = !ds.isEmpty := fun xs hl => by
    cases xs <;> cases ds <;> first | rfl | (simp at hl)
  cases d <;> first | (cases hs; done) | skip
  · cases hs
    obtain ⟨a, xs, rfl, hq, hl⟩ := rv.lst
    exact ⟨_, .inl ⟨xs, by rw [← hK.k]; exact hq, rfl⟩, by rw [e xs hl.len]; exact k _ _ _ φ (R1.drop off)⟩
  · cases hs
    obtain ⟨a, xs, rfl, hq, hl⟩ := rv.tup
    exact ⟨_, .inr (.inl ⟨xs, by rw [← hK.k]; exact hq, rfl⟩), by rw [e xs hl.len]; exact k _ _ _ φ (R1.drop off)⟩
end
end Px
end

/-! PxD -/
section
set_option Elab.async false
set_option linter.all false
set_option maxRecDepth 100000
set_option maxHeartbeats 4000000
set_option autoImplicit false
namespace Px
open PySem PySem.Spec PyProof.Rows L2 Dh

/-! ### the deck -/
abbrev kMixed : Key := .inr "mixed"
abbrev kDraws : Key := .inr "draws"
structure Deck (ik : List Key) (H : Hp) (dk lf : Addr) : Prop where
  d : ∃ kvs : List (Key × V), H dk = some (.dK kvs) ∧ kvs.length ≤ 10 ∧ valV kvs kLeft = some (.ref lf) ∧ ∀ k ∈ ik, ∃ m, valV kvs k = some (.int m)
  l : ∃ ls : List Int, H lf = some (.lst (ls.map V.int)) ∧ ls.length ≤ 63
section
variable {ik : List Key} {H : Hp} {dk lf : Addr}
theorem Dck.deck {U : List Addr} (D : Dck ik U H dk) : ∃ lf, U = [dk, lf] ∧ Deck ik H dk lf := by
  obtain ⟨lf, kvs, ls, h1, h2, h3, h4, h5, h6, h7, h8⟩ := D
  exact ⟨lf, h1, ⟨kvs, h3, h4, h5, h6⟩, ls, h7, h8⟩
theorem Deck.ne (D : Deck ik H dk lf) : dk ≠ lf := by
  obtain ⟨kvs, h1, _⟩ := D.d
  obtain ⟨ls, h2, _⟩ := D.l
  exact ne_of h1 h2 (by intro z; cases z)
theorem Deck.dck (D : Deck ik H dk lf) : Dck ik [dk, lf] H dk := by
  obtain ⟨kvs, h1, h2, h3, h4⟩ := D.d
  obtain ⟨ls, h5, h6⟩ := D.l
  exact ⟨lf, kvs, ls, rfl, D.ne, h1, h2, h3, h4, h5, h6⟩
theorem putK_len {kvs : List (Key × V)} {k : Key} {v : V} (h : (valV kvs k).isSome = true) : (putK kvs k v).length = kvs.length := by
  unfold putK
  rw [valV_any, h, if_pos rfl, List.length_map]
theorem Deck.putInt {kvs : List (Key × V)} (D : Deck ik H dk lf) (h : H dk = some (.dK kvs)) {k : Key} {i : Int} (hk : k ∈ ik) (hl : k ≠ kLeft) : Deck ik (upd H dk (.dK (putK kvs k (.int i)))) dk lf := by
  obtain ⟨kvs', h1, h2, h3, h4⟩ := D.d
  rw [h] at h1; cases h1
  obtain ⟨ls, h5, h6⟩ := D.l
  obtain ⟨m, hm⟩ := h4 k hk
  refine ⟨⟨_, upd_same, by rw [putK_len (by rw [hm]; rfl)]; exact h2, ?_, fun j hj => ?_⟩, ls, by rw [upd_ne D.ne.symm]; exact h5, h6⟩
  · rw [valV_put, if_neg hl.symm]; exact h3
  · rw [valV_put]
    by_cases q : j = k
    · rw [if_pos q]; exact ⟨_, rfl⟩
    · rw [if_neg q]; exact h4 j hj
theorem Deck.left (D : Deck ik H dk lf) {ls : List Int} (h : ls.length ≤ 63) : Deck ik (upd H lf (.lst (ls.map V.int))) dk lf := by
  obtain ⟨kvs, h1, r⟩ := D.d
  exact ⟨⟨kvs, by rw [upd_ne D.ne]; exact h1, r⟩, ⟨ls, upd_same, h⟩⟩
theorem Deck.new {p : Addr} {o : HO} (D : Deck ik H dk lf) (h : H p = none) : Deck ik (upd H p o) dk lf := by
  obtain ⟨kvs, h1, r⟩ := D.d
  obtain ⟨ls, h2, r2⟩ := D.l
  exact ⟨⟨kvs, by rw [upd_ne (ne_of_none h1 h)]; exact h1, r⟩, ⟨ls, by rw [upd_ne (ne_of_none h2 h)]; exact h2, r2⟩⟩
end
def fDraw : PF := fun Δ Ψ => ∃ m : Int, Δ = [.deck, .v (.int m)] ∧ 1 ≤ m ∧ m ≤ 100000 ∧ ∀ i : Int, 0 ≤ i → i < m → Ψ (.v (.int i))
/-- the promise of the hand layer that gives the one over data -/
def spDraw' (ik : List Key) : Sp := fun vs H Q _ => ∃ (dk lf : Addr) (m : Int), vs = [.ref dk, .int m] ∧ Deck ik H dk lf ∧ 1 ≤ m ∧ m ≤ 100000 ∧
  ∀ (H' : Hp) (i : Int), Deck ik H' dk lf → Dh.Kp [dk, lf] H H' → 0 ≤ i → i < m → Q (.int i) H'
theorem draw_data {K : PySem.W.Frag} {ik : List Key} {vs : List V} {H : Hp} {Q : VK} {E : XK} (h : spD K ik fDraw vs H Q E) : spDraw' ik vs H Q E := by
  obtain ⟨M, U, Δ, Ψ, tr, uM, ps, ⟨m, rfl, m1, m2, φ⟩, k⟩ := h
  cases ps with
  | cons a b =>
    cases b with
    | cons b c =>
      cases c
      cases a with
      | @deck dk D =>
        cases b with
        | v ac =>
          cases ac
          obtain ⟨lf, rfl, D'⟩ := D.deck
          refine ⟨dk, lf, m, rfl, D', m1, m2, fun H' i D' K' i0 i1 => k _ _ H' (φ i i0 i1) ⟨K', fun a Da => ?_, fun b hb => ?_, .v (.int i)⟩⟩
          · obtain ⟨_, e, _⟩ := Da.deck
            cases e
            exact D'.dck
          · obtain ⟨kvs, h1, _⟩ := D'.d
            obtain ⟨ls, h2, _⟩ := D'.l
            rcases List.mem_cons.mp hb with rfl | hb
            · exact ⟨_, h1⟩
            · rw [List.mem_singleton.mp hb]; exact ⟨_, h2⟩
theorem FnG.weaken {P : Program} {w : World} {K : PySem.W.Frag} {mg : Str → Option Value} {base : Heap} {cx : CXT} {k : Nat} {f : Addr} {fd : FuncData} {ps : List Str} {sp sp' : Sp} (F : FnG P w K mg base cx k f fd ps sp) (h : ∀ vs H Q E, sp' vs H Q E → sp vs H Q E) : FnG P w K mg base cx k f fd ps sp' :=
  ⟨fun vs H Q E z => F.ln vs H Q E (h _ _ _ _ z), fun A outer s H args us vs Q E a b c d e f => F.go A outer s H args us vs Q E a b c d e (h _ _ _ _ f)⟩
end Px
end

/-! Px11 -/
section
set_option Elab.async false
set_option linter.all false
set_option maxRecDepth 100000
set_option maxHeartbeats 2000000
set_option autoImplicit false
namespace Px
open PySem PySem.Spec PyProof.Rows L2 Dh

/-! ### loops over data, by a word -/
theorem loop_inv {g : PG'} {b : PXS} {Φ : PEnds} (I : List PyData → Env → Prop) (step : ∀ d ds Γ (N : Env → Prop), I (d :: ds) Γ → (∀ Γ', I ds Γ' → N Γ') → g d Γ fun Γ1 => b Γ1 { nx := N, rt := Φ.rt, bk := Φ.nx, ct := N }) (fin : ∀ Γ, I [] Γ → Φ.nx Γ) :
    ∀ (ds : List PyData) (Γ : Env), I ds Γ → loopW g b ds Γ Φ
  | [], Γ, h => fin Γ h
  | d :: ds, Γ, h => step d ds Γ _ h fun Γ' h' => loop_inv I step fin ds Γ' h'
theorem comp_inv {vs : List Nat} {g : PG'} {tt : PXT} {te : PX} {G : Env → Prop} {Φ : List PyData → Env → Prop} (I : List PyData → List PyData → Env → Prop)
    (step : ∀ d ds acc Γ (N : List PyData → Env → Prop), I (d :: ds) acc Γ → (∀ acc' Γ', I ds acc' Γ' → N acc' Γ') → G Γ ∧ acc.length < sizeLine ∧ g d (wipeG Γ vs) fun Γ1 => tt Γ1 fun b Γ2 =>
      (b = true → te Γ2 fun r Γ3 => ∃ y Γ4, frz Γ3 r = some (y, Γ4) ∧ N (acc ++ [y]) (wipeG Γ4 vs)) ∧ (b = false → N acc (wipeG Γ2 vs)))
    (fin : ∀ acc Γ, I [] acc Γ → G Γ ∧ Φ acc Γ) : ∀ (ds acc : List PyData) (Γ : Env), I ds acc Γ → compW vs g tt te G ds acc Γ Φ
  | [], acc, Γ, h => fin acc Γ h
  | d :: ds, acc, Γ, h => by
    have := step d ds acc Γ (fun acc' Γ' => compW vs g tt te G ds acc' Γ' Φ) h fun acc' Γ' h' => comp_inv I step fin ds acc' Γ' h'
    exact this
/-- every item is made to one -/
theorem comp_map {vs : List Nat} {g : PG'} {te : PX} {G : Env → Prop} {Φ : List PyData → Env → Prop} {Γ : Env} {ds : List PyData} (F : PyData → PyData) (hw : wipeG Γ vs = Γ) (hG : G Γ) (hl : ds.length ≤ sizeLine)
    (step : ∀ d ∈ ds, ∀ N : PyData → Env → Prop, (∀ Γ4, wipeG Γ4 vs = Γ → N (F d) Γ4) → g d Γ fun Γ1 => te Γ1 fun r Γ3 => ∃ y Γ4, frz Γ3 r = some (y, Γ4) ∧ N y Γ4) (fin : Φ (ds.map F) Γ) : compW vs g wYes te G ds [] Γ Φ := by
  refine comp_inv (fun r acc Γ1 => Γ1 = Γ ∧ ∃ p, ds = p ++ r ∧ acc = p.map F) ?_ ?_ ds [] Γ ⟨rfl, [], rfl, rfl⟩
  · rintro d r acc Γ' N ⟨e, p, rfl, rfl⟩ h
    rw [e]
    have hlen : (p ++ d :: r).length = p.length + r.length + 1 := by simp; omega
    refine ⟨hG, by rw [List.length_map]; omega, ?_⟩
    rw [hw]
    have := step d (by simp) (fun y Γ4 => N (p.map F ++ [y]) (wipeG Γ4 vs)) fun Γ4 h4 => h _ _ ⟨h4, p ++ [d], by simp, by simp⟩
    refine Eq.mp (congrArg (g d Γ) ?_) this
    funext Γ1
    show _ = ((true = true → _) ∧ (true = false → _))
    simp
  · rintro acc _ ⟨rfl, p, e, rfl⟩
    rw [List.append_nil] at e
    subst e
    exact ⟨hG, fin⟩
section
variable {X : Cx} [IK]
theorem xs_never {st : Stmt} : XS X st tNever fun _ _ => False := ⟨ps_never, fun C hK n f Γ σ H D Φ off nb R w F => w.elim⟩
theorem xss_never {sts : List Stmt} : XSs X sts tNever fun _ _ => False := ⟨pss_never, fun C hK n f Γ σ H D Φ off nb R w F => w.elim⟩
end
end Px
namespace Px
open PySem PySem.Spec PyProof.Rows L2 Dh
abbrev rLen (K : PySem.W.Frag) : List V → Hp → VK → Prop := fun xs H Q => ∃ x n, xs = [x] ∧ LenV K x H n ∧ Q (.int n) H
abbrev rLstOf (K : PySem.W.Frag) : List V → Hp → VK → Prop := fun xs H Q => ∃ p ys, xs = [.ref p] ∧ (SqL K H p ys ∨ SqT K H p ys) ∧ ∀ l, H l = none → Q (.ref l) (upd H l (.lst ys))
abbrev rTupOf (K : PySem.W.Frag) : List V → Hp → VK → Prop := fun xs H Q => ∃ p ys, xs = [.ref p] ∧ ((SqL K H p ys ∧ ∀ l, H l = none → Q (.ref l) (upd H l (.tup ys))) ∨ (SqT K H p ys ∧ Q (.ref p) H))
abbrev rRepr (K : PySem.W.Frag) : List V → Hp → VK → Prop := fun xs H Q => ∃ (M : List Addr) (v : V) (d : PyData), xs = [v] ∧ At K M H v d ∧ d.showable = true ∧ d.depth ≤ 60 ∧ d.shown.length ≤ sizeLine ∧ Q (.str d.shown) H
end Px
end

/-! PxT -/
section
set_option Elab.async false
set_option linter.all false
set_option maxRecDepth 100000
set_option maxHeartbeats 4000000

/-! sorted of a tuple of ints -/
namespace PxT
open PySem PySem.Spec PyProof.Rows Srt SrtO
section
variable {prog : Program} {w : World} {A : Around} {E : Value → Shared → Prop} {s : Shared}
abbrev blank : Obj := seqObj "list" #[] 0
abbrev gath (h : Heap) (vs : List Value) : Heap := (h.push blank).update h.objs.size (Obj.mapSeq (· ++ vs.toArray))
/-- the items of a tuple, gathered in a list that is thrown away -/
theorem gather {t : Addr} {vs : List Value} {Q : List Value → Shared → Prop} (ht : IsTup s.heap t vs.toArray) (hz : vs.length ≤ sizeLine) (h : Q vs { s with heap := gath s.heap vs }) : wpAny (model prog w) A (collect (.ref t)) Q E s := by
  obtain ⟨o, ho, hc, n, hd⟩ := id ht
  have new : (s.heap.push blank).get? s.heap.objs.size = some blank := Heap.get?_push_size _ rfl
  have old := Heap.get?_push_of_some blank ho
  unfold collect; refine wpAny_bind (wpAny_runValue (codeAny_builtin entry_proto_collect' ?_))
  show wpAny _ _ (do again (.builtin "list.__iadd__" ⟨[← newList [], Value.ref t], []⟩)) _ _ s
  refine wpAny_bind (wpAny_newList (wpAny_pure ⟨Code.quiet_builtin _ (by decide +kernel), codeAny_builtin entry_list_iadd' (?_ : wpAny _ _ (Builtin.List.listExtendWith (.ref s.heap.objs.size) (.ref t) (.ref s.heap.objs.size)) _ _ { s with heap := s.heap.push blank })⟩))
  unfold Builtin.List.listExtendWith; refine wpAny_bind (wpAny_typeOf (T := "tuple") ⟨o, old, hc⟩ ?_)
  have isT : (Value.type "tuple" == Value.type "tuple") = true := by rfl
  rw [if_pos (by rw [isT, Bool.or_true])]
  refine wpAny_bind (listItems_at old hd (wpAny_bind (listItems_at (xs := #[]) (n := 0) new rfl ?_)))
  rw [if_neg (by simp)]
  have fits : (#[] ++ vs.toArray : Array Value).size ≤ sizeLine + 1 := by simp only [Array.size_append, List.size_toArray, List.length_nil]; omega
  refine wpAny_bind (listUpdate_at (xs := #[]) (n := 0) new rfl (wpAny_pure ?_) (Nat.zero_le _) fits)
  show wpAny (model prog w) A (load s.heap.objs.size >>= fun o => match o.data with | .seq xs _ => pure xs.toList | _ => unsupported "internal:collect") Q E { s with heap := gath s.heap vs }
  refine wpAny_bind (wpAny_load (get?_update_seq new _) ?_)
  have e : ((#[] : Array Value) ++ vs.toArray).toList = vs := by simp
  show wpAny _ _ (pure ((#[] : Array Value) ++ vs.toArray).toList) Q E _
  rw [e]; exact wpAny_pure h
theorem sortedT {t : Addr} {vs : List Value} {lt : Value → Value → Bool} {Q : Value → Shared → Prop} (O : Swo lt) (ht : IsTup s.heap t vs.toArray) (hz : vs.length ≤ sizeLine)
    (hS : 2 ≤ vs.length → ∀ (h₁ : Heap) (a : Addr), SortableO prog w A.in1.in1 { s with heap := h₁ } a vs lt)
    (h : ∀ out : List Value, Srtd lt out → Stb lt out vs → Q (.ref (s.heap.objs.size + 1)) { s with heap := sortedAll s.heap vs out.toArray }) : wpAny (model prog w) A (call (.builtin "sorted") [.ref t]) Q E s := by
  refine Calls.call_function_entry kind_sorted plain_sorted entry_sorted (args_sorted1 _) ?_
  unfold Builtin.«sorted»; refine wpAny_bind (m := checkCount "sorted" 1 1 _) (wpAny_pure (wpAny_bind (gather ht hz ?_)))
  refine wpAny_bind (wpAny_newList ?_ hz)
  have sz : (gath s.heap vs).objs.size = s.heap.objs.size + 1 := by rw [Heap.size_update, size_push']
  have at_ : ((gath s.heap vs).push (seqObj "list" vs.toArray 0)).get? (s.heap.objs.size + 1) = some (seqObj "list" vs.toArray 0) := by rw [← sz]; exact Heap.get?_push_size _ rfl
  show wpAny _ _ _ _ _ { s with heap := (gath s.heap vs).push (seqObj "list" vs.toArray 0) }
  rw [sz]
  refine wpAny_bind (wpAny_holding (wpAny_call_entry slot_list_sort ⟨_, at_, rfl⟩ entry_list_sort (list_sort_ord O at_ hz (fun h2 => hS h2 _ _) fun out hs hb => ⟨_, rfl, wpAny_pure ⟨_, rfl, h out hs hb⟩⟩) (args_list_sort _)))
end
end PxT
namespace Px
open PySem PySem.Spec PyProof.Rows L2
section
variable {X : Cx}
def rSortedTp (K : PySem.W.Frag) : List V → Hp → VK → Prop := fun vs H Q => ∃ (a : Addr) (ns : List Int), vs = [V.ref a] ∧ SqT K H a (ns.map V.int) ∧
  ∀ (ns' : List Int) (p : Addr), ns'.Perm ns → ns'.Pairwise (· ≤ ·) → H p = none → Q (.ref p) (upd H p (.lst (ns'.map V.int)))
theorem cr_sortedTp : CallR X (.builtin "sorted") (rSortedTp X.K) := by
  intro pins s σ H vs us Q I r h
  obtain ⟨a, ns, rfl, hs, q⟩ := h
  obtain ⟨its, rv, ht, hz⟩ := I.tuple hs
  rw [Vals.ref1 r]
  have hi := rv.ints
  have hz' : its.length ≤ sizeLine := by rw [← rv.length]; exact hz
  refine PxT.sortedT SrtO.swo_int ht hz' (fun h2 _ _ => SrtO.ints_sortable hi h2) fun out h1 h2 => ?_
  obtain ⟨k1, k2, k3⟩ := SrtO.ints_out hi h1 h2
  obtain ⟨ep, he'⟩ := PyProof.Rows.sortedAll_at s.heap its out.toArray
  have few : ((out.map SrtO.iv).map V.int).length ≤ sizeLine := by
    rw [List.length_map, k2.length_eq]; rw [List.length_map] at hz; exact hz
  have I2 := I.laid (a := s.heap.objs.size + 1) (o := .lst ((out.map SrtO.iv).map V.int)) (h' := sortedAll s.heap its out.toArray) (t' := s.toks) (fun _ _ => PyProof.Rows.sortedAll_old) (Nat.le_succ _) ⟨few, out, ep, vals_of_ints k1, he'⟩
  exact ⟨.ref _, _, I2, rfl, q _ _ k2 k3 (I.hok.fresh (Nat.le_succ _))⟩
end
section
variable {X : Cx} [IK]
def pSortTp : PO' | [.tuple ds], Ψ => ∃ ns : List Int, ds = ns.map .int ∧ ∀ ns' : List Int, ns'.Perm ns → ns'.Pairwise (· ≤ ·) → Ψ (.own (.list (ns'.map .int))) | _, _ => False
theorem PSortTp : PureR X.K (rSortedTp X.K) pSortTp := by
  intro W H xs ds Q Ψ rv hφ P
  match ds, rv, hφ with
  | [d], rv, hφ =>
    obtain ⟨x, rfl, h1⟩ := rv.one
    cases d <;> first | exact hφ.elim | skip
    obtain ⟨ns, rfl, q⟩ := hφ
    obtain ⟨a, ys, rfl, ha, h2⟩ := h1.tup
    rw [AcL.ints _ h2] at ha
    exact ⟨a, ns, rfl, ha, fun ns' p hp hs hn => P.lst _ _ _ (q ns' hp hs) hn (AcL.ofInts _)⟩
  | [], _, h => exact h.elim
  | _ :: _ :: _, _, h => exact absurd h (by simp [pSortTp])
end
end Px
end

/-! Px12 -/
section
set_option Elab.async false
set_option linter.all false
set_option maxRecDepth 100000
set_option maxHeartbeats 4000000
set_option autoImplicit false
/-! ### enumerate of a tuple -/
namespace Px
open PySem PySem.Spec PyProof.Rows L2 Dh
def IteT (K : PySem.W.Frag) (a : Addr) : It :=
  ⟨fun i H => ∃ (xs : List V) (x : V), SqT K H a xs ∧ xs[i]? = some x, fun i H v H' => ∃ T x, v = .ref T ∧ H T = none ∧ H' = upd H T (.tup [.int (i : Nat), x]) ∧ ∀ xs, SqT K H a xs → xs[i]? = some x, fun i H => ∃ xs : List V, SqT K H a xs ∧ xs.length ≤ i⟩
theorem enumT_end {prog : Program} {w : World} {A : Around} {E : Value → Shared → Prop} {s : Shared} {e it l : Addr} {i : Nat} {k : Int} {items : Array Value} {old : Value} {Q : Option Value → Shared → Prop} (hh : A.handled = none)
    (he : IsEnum s.heap e it k old) (hit : s.heap.IsTupleIter it l i) (hl : s.heap.IsTuple l items) (hx : items[i]? = none)
    (hQ : ∀ h', Heap.ExtBut it s.heap h' → Q none { s with heap := h' }) : wpAny (model prog w) A (pyNext (.ref e)) Q E s := by
  have hT : s.TypeIs (.ref e) "enumerate" := ⟨_, he, rfl⟩
  unfold pyNext
  refine wpAny_bind (wpAny_attempt (wpAny_callSpecial?_slot (name := Str.ofString "__next__") hT F.slot_enumerate_next
    (wpAny_call_entry F.slot_enumerate_next hT F.entry_enumerate_next ?_ (F.args_enumerate_next_1 _))))
  show wpAny _ _ (field (.ref e) 2 >>= _) _ _ _
  refine wpAny_bind (wpAny_field he rfl (x := .ref it) rfl ?_)
  refine wpAny_bind (wpAny_nextOf_tuple_end hh hit hl hx fun h' x he' hx' => ?_)
  obtain ⟨o, ho, hc⟩ := hx'
  refine wpAny_bind (wpAny_isInstance (T := "StopIteration") (b := true) ⟨o, ho, hc⟩ isSubtype_stop ?_)
  exact wpAny_pure (hQ _ he')
theorem turn_enumT {P : Program} {w : World} {K : PySem.W.Frag} {elts : List Expr} {kk : Nat} {tpos : Pos} (a e it : Addr) :
    Turn P w K (.Tuple elts kk tpos) (IteT K a) [e, it] e (fun i h => (∃ old, IsEnum h e it ((i : Nat) : Int) old) ∧ h.IsTupleIter it a i ∧ e ≠ it ∧ a ≠ e ∧ a ≠ it) where
  mem := by simp
  obj := fun i h st b hb => by
    obtain ⟨⟨old, he⟩, ⟨o, ho, hc, hd⟩, _⟩ := st
    have e' : b = e ∨ b = it := by simpa using hb
    rcases e' with z | z
    · rw [z]; exact ⟨_, he, fun v q => nomatch q⟩
    · rw [z]; exact ⟨o, ho, fun v q => by rw [hd] at q; cases q⟩
  keep := fun i h h' st k => let ⟨⟨old, he⟩, hi, hne⟩ := st; ⟨⟨old, k e (by simp) _ he⟩, hi.at fun o q => k it (by simp) o q, hne⟩
  item := by
    intro X hP hw hK hc i pins s σ H E I hf st hg
    subst hP hw hK
    obtain ⟨⟨old, he⟩, hit, hne, hae, hai⟩ := st
    obtain ⟨xs, x, hq, hx⟩ := hg
    obtain ⟨its, rv, p, hz⟩ := I.tuple hq
    obtain ⟨u, hu, ru⟩ := rv.get hx
    have hel : e < s.heap.objs.size := Heap.lt_size he
    have hil : it < s.heap.objs.size := by obtain ⟨_, q, _⟩ := hit; exact Heap.lt_size q
    have ilt : i < its.toArray.size := by
      have := (List.getElem?_eq_some_iff.mp hu).1
      simpa using this
    have D : Draws X.prog X.w X.A.in1 it [it, a] its.toArray.size (fun i v => its.toArray[i]? = some v) (fun i h => h.IsTupleIter it a i ∧ h.IsTuple a its.toArray) := Draws.tuple (A := X.A.in1) (show X.A.in1.handled = none from I.ok.hd hc) it a hai its.toArray
    refine wpAny_pyNext_enum_itemC D he ⟨hit, p⟩ ilt hne (by simp [hne, Ne.symm hae]) fun v h' tk hP ho hs' hT hsz hk => ?_
    have ev : v = u := by
      have : its[i]? = some v := by simpa using hP
      rw [hu] at this; exact (Option.some.inj this).symm
    subst ev
    refine ⟨_, rfl, wpAny_letOwnedTupleGo_enum (s := { s with heap := h', toks := tk + 1 }) ho fun h'' he' sb => ?_⟩
    have hT2 : h''.get? s.heap.objs.size = some { cls := .type "tuple", data := .seq #[.int i tk, v] } := (sb.2 _ (Nat.ne_of_gt hel)).trans hT
    have new : ObjOk X.prog X.w (upd H s.heap.objs.size (.tup [.int (i : Nat), x])) h'' s.heap.objs.size (.tup [.int (i : Nat), x]) :=
      ⟨by show 2 ≤ sizeLine; decide, [.int i tk, v], .cons ⟨_, rfl⟩ (.cons ru .nil), ⟨_, hT2, rfl, _, rfl⟩⟩
    have I1 : Inv X pins σ (upd H s.heap.objs.size (.tup [.int (i : Nat), x])) { s with heap := h'', toks := tk + 1 } :=
      I.turnedNew (ch := [e, it]) (fun b ob hb q => (sb.2 b (fun z => hb (by simp [z]))).trans (hk b ob (fun z => hb (by simp [z])) (fun z => hb (by simp [z])) q)) hf (Nat.le_refl _) new
    refine ⟨.ref s.heap.objs.size, _, I1, rfl, ⟨_, x, rfl, I.hok.fresh (Nat.le_refl _), rfl, fun ys hy => by rw [I.tuple_inj hy hq]; exact hx⟩, ⟨⟨v, ?_⟩, hs'.1.at fun o q => (sb.2 it (Ne.symm hne)).trans q, hne, hae, hai⟩, fun b hb => ?_⟩
    · have e1 : ((i + 1 : Nat) : Int) = (i : Int) + 1 := by omega
      rw [e1]; exact he'
    · have hb' : b < s.heap.objs.size := by
        have e' : b = e ∨ b = it := by simpa using hb
        rcases e' with z | z
        · rw [z]; exact hel
        · rw [z]; exact hil
      rw [upd_ne (Nat.ne_of_lt hb')]
      exact (hf b hb).1
  done := by
    intro X hP hw hK hc i pins s σ H E I hf st hg
    subst hP hw hK
    obtain ⟨⟨old, he⟩, hit, hne, hae, hai⟩ := st
    obtain ⟨xs, hq, hx⟩ := hg
    obtain ⟨its, rv, p, hz⟩ := I.tuple hq
    obtain ⟨f0, f1, f2, f3, f4, f5⟩ := hf it (by simp)
    have hl := rv.length
    exact enumT_end (items := its.toArray) (I.ok.hd hc) he hit p (by simp; omega) fun h' eb => ⟨rfl, I.turned (t' := s.toks) (fun b o hb q => eb b o hb q) f0 f1 f3 f4 f5⟩
  self := fun A i s Q E st h => let ⟨⟨_, he⟩, _⟩ := st; wpAny_pyIter_enum he h
theorem newE {v : Value} {o : Obj} {H : Heap → Prop} (B : Begins v o H) :
    Meets (Builtin.«enumerate.__new__» ⟨[.type "enumerate", v], []⟩) (fun _ R s => H s.heap ∧
      R (.ok (.ret (.ref (s.heap.push o).objs.size))) { s with heap := (s.heap.push o).push { cls := .type "enumerate", data := .fields #[.none, .bool false, .ref s.heap.objs.size, rawInt 0, .none, .none] } }) :=
  .of_wp fun prog w A R s h => by
    obtain ⟨hp, g, d, tk, os⟩ := s; obtain ⟨h1, h⟩ := h
    have hsub := sub_enumerate
    have q1 : ∀ {A' : Around} {E : Value → Shared → Prop} {Q : Value → Shared → Prop}, Q (.ref hp.objs.size) ⟨hp.push o, g, d, tk, os⟩ → wpAny (model prog w) A' (pyIter v) Q E ⟨hp, g, d, tk, os⟩ :=
      fun q => B.iter prog w _ _ ⟨hp, g, d, tk, os⟩ _ h1 q
    wp_walk using q1
    refine wpAny_stack_any fun st => wpAny_pure ?_
    split
    · rename_i c _ _ _ _ _
      cases (c == Value.type "enumerate")
      · wp_walk using q1
        exact ⟨_, rfl, h⟩
      · wp_walk using q1
        exact ⟨_, rfl, h⟩
    · wp_walk using q1
      exact ⟨_, rfl, h⟩
theorem call_enumT {prog : Program} {w : World} {A : Around} {E : Value → Shared → Prop} {s : Shared} {l : Addr} {items : Array Value} {Q : Value → Shared → Prop} (hL : s.heap.IsTuple l items)
    (h : ∀ h', IsEnum h' (s.heap.objs.size + 1) s.heap.objs.size 0 .none → h'.IsTupleIter s.heap.objs.size l 0 → h'.objs.size = s.heap.objs.size + 2 →
      (∀ b o, s.heap.get? b = some o → h'.get? b = some o) → Q (.ref (s.heap.objs.size + 1)) { s with heap := h' }) :
    wpAny (model prog w) A (call (.type "enumerate") [.ref l]) Q E s := by
  refine callType_new F.called_enumerate (by decide) (F.typeCall_enumerate_1 _) (F.newCall_enumerate_1 _) (fun obj => F.args_object_init_2 obj _) F.entry_enumerate_new
    (newE (begins_tuple l items)) ⟨hL, ?_⟩
  have hz : (s.heap.push { cls := .type "tuple_iterator", data := .fields #[.ref l, .int 0 0] }).objs.size = s.heap.objs.size + 1 := Heap.size_push ..
  show _ ∧ _
  rw [hz]
  have he : IsEnum ((s.heap.push { cls := .type "tuple_iterator", data := .fields #[.ref l, .int 0 0] }).push
      { cls := .type "enumerate", data := .fields #[.none, .bool false, .ref s.heap.objs.size, rawInt 0, .none, .none] }) (s.heap.objs.size + 1) s.heap.objs.size 0 .none := by
    have := Heap.get?_push_size (s.heap.push { cls := .type "tuple_iterator", data := .fields #[.ref l, .int 0 0] })
      (o := { cls := .type "enumerate", data := .fields #[.none, .bool false, .ref s.heap.objs.size, rawInt 0, .none, .none] }) rfl
    rw [hz] at this; exact this
  refine ⟨⟨_, he, rfl⟩, h _ he ⟨_, Heap.get?_push_of_some _ (Heap.get?_push_size _ rfl), rfl, rfl⟩ (by rw [Heap.size_push, hz]) fun b o x => Heap.get?_push_of_some _ (Heap.get?_push_of_some _ x)⟩
def iEnumT (K : PySem.W.Frag) (ta : TA) : TI := fun σ H R => ta σ H fun vs H1 => ∃ a xs, vs = [.ref a] ∧ SqT K H1 a xs ∧ R (IteT K a) H1
theorem pi_enumT {X : Cx} {e : Expr} {ta : TA} {p pos tpos : Pos} {elts : List Expr} {kk : Nat} (hg : Gl X "enumerate") (hm : X.mg "enumerate" = none) (ha : PA X [e] ta) (hs : starEach [e] X.env = [(false, eval e X.env)] := by rfl) :
    PI X (.Tuple elts kk tpos) (.Call (.Name "enumerate" p) [e] [] pos) (iEnumT X.K ta) := by
  refine ⟨fun pins s σ H R I h => ?_⟩
  refine Call_ (ld_blt I hg hm boot_enumerate (PyProof.Rows.callWith_type1 (thn (ha.run pos pins s σ H _ I h) fun us s1 ⟨vs, H1, I1, r1, q1⟩ => ?_) hs rfl))
  obtain ⟨a, xs, ex, hq, q⟩ := q1
  subst ex
  cases r1 with
  | cons r rr =>
    cases rr
    cases r
    obtain ⟨its, rv, p', hz⟩ := I1.tuple hq
    have pT : s1.heap.IsTuple a its.toArray := p'
    have al : a < s1.heap.objs.size := by obtain ⟨_, y, _⟩ := pT; exact Heap.lt_size y
    refine call_enumT pT fun h' he hit hsz hk => wpAny_pyIter_enum he ?_
    have I2 : Inv X pins σ H1 { s1 with heap := h' } := I1.kept (t' := s1.toks) hk
    refine ⟨s1.heap.objs.size + 1, [s1.heap.objs.size + 1, s1.heap.objs.size], _, _, H1, rfl, I2, turn_enumT a (s1.heap.objs.size + 1) s1.heap.objs.size, ⟨⟨.none, he⟩, hit, Nat.succ_ne_self _, Nat.ne_of_lt (Nat.lt_succ_of_lt al), Nat.ne_of_lt al⟩, fun b hb => ?_, q⟩
    have e' : b = s1.heap.objs.size + 1 ∨ b = s1.heap.objs.size := by simpa using hb
    have hle : s1.heap.objs.size ≤ b := by
      rcases e' with z | z
      · rw [z]; exact Nat.le_add_right _ _
      · rw [z]; exact Nat.le_refl _
    exact I1.fpOk hle (I1.hok.fresh hle)
section
variable {C : Cc} {Hd : Fr → Prop} {G : Env → Prop} [IK]
theorem itok_enumT {a : Addr} {ds : List PyData} (h : ∀ g Γ σ H, Hd g → G Γ → Rel C g Γ σ H → ∃ xs, SqT C.K H a xs ∧ AcL C.K (WE C (ent g Γ σ)) H xs ds) : ItOk C Hd G (IteT C.K a) (enumFrom 0 ds) where
  go g Γ σ H i hg hG R lt := by
    obtain ⟨xs, hq, ha⟩ := h g Γ σ H hg hG R
    rw [enum_len] at lt
    obtain ⟨v, hv, _⟩ := ha.at (List.getElem?_eq_getElem lt)
    exact ⟨xs, v, hq, hv⟩
  stop g Γ σ H i hg hG R ge := by
    obtain ⟨xs, hq, ha⟩ := h g Γ σ H hg hG R
    rw [enum_len] at ge
    exact ⟨xs, hq, by rw [ha.len]; exact ge⟩
  yld g Γ σ H i d x H' hg hG R hd y := by
    obtain ⟨xs, hq, ha⟩ := h g Γ σ H hg hG R
    rw [enum_get] at hd
    obtain ⟨T, z, rfl, hT, rfl, y⟩ := y
    cases e : ds[i]? with
    | none => rw [e] at hd; cases hd
    | some d0 =>
      rw [e] at hd; cases hd
      obtain ⟨v, hv, hd⟩ := ha.at e
      have := y xs hq
      rw [hv] at this; cases this
      refine ⟨.inr ⟨_, _, hT, rfl⟩, .tup upd_same (R.e.fresh hT).1 (.cons ?_ (.cons (Ac.tr (Tr.new hT) _ hd) .nil))⟩
      rw [Nat.zero_add]
      exact .int _
end
section
variable {X : Cx} [IK]
def wItET (w : PX) : PIc := fun Γ Φ => w Γ fun r Γ1 => ∃ ds, res Γ1 (hld r) = some (.tuple ds) ∧ Φ (enumFrom 0 ds) (fun Γ2 => res Γ2 (hld r) = some (.tuple ds)) Γ1
theorem xc_enumT {e : Expr} {t : TE} {w : PX} {p pos tpos : Pos} {elts : List Expr} {kk : Nat} (hg : Gl X "enumerate") (hm : X.mg "enumerate" = none) (h : XE X e t w) (hs : starEach [e] X.env = [(false, eval e X.env)] := by rfl) :
    XIc X (.Tuple elts kk tpos) (.Call (.Name "enumerate" p) [e] [] pos) (iEnumT X.K (tCons t tNil)) (wItET w) := by
  obtain ⟨pp, g⟩ := h
  refine ⟨pi_enumT hg hm (pa_cons pp pa_nil (hs.trans rfl)) hs, fun C hK n f Γ σ H R Φ off Re w k => g C hK n f Γ σ H _ _ off Re w ?_⟩
  rintro r x Γ1 H1 ⟨ds, hz, φ⟩ R1
  have R2 := R1.hld
  obtain ⟨a, xs, rfl, hq, _⟩ := (R2.rv (k := .inl n) ent_held hz).tup
  refine ⟨a, xs, rfl, by rw [← hK.k]; exact hq, ?_⟩
  rw [← hK.k]
  refine k _ _ _ _ _ (n + 1) _ (fun g => g n = some (hld r, .ref a)) φ (by omega) off.up upF_low R2 upF_same (fun g g' e z => by rw [e n (Nat.le_refl _) (by omega)]; exact z) ?_
  refine itok_enumT fun g Γ3 σ3 H3 hg hG R3 => ?_
  obtain ⟨a', xs', e, hq', ha'⟩ := (held_rv hg R3 hG).tup
  cases e
  exact ⟨xs', hq', ha'⟩
/-! ### for letter in a text -/
theorem xi_strS {tg e : Expr} {t : TE} {w : PX} (h : XE X e t w) : XI X tg e (iStr t) (fun Γ Φ => w Γ fun r Γ1 => ∃ z, res Γ1 r = some (.str z) ∧ Φ (strD z) Γ1) := by
  obtain ⟨p, g⟩ := h
  refine ⟨pi_str p, fun C hK n f Γ σ H R Φ off Re w k => g C hK n f Γ σ H _ _ off Re w ?_⟩
  rintro r x Γ1 H1 ⟨z, hz, φ⟩ R1
  have e := (R1.rv (k := .inl n) ent_held hz).str
  refine ⟨z, e, ?_⟩
  exact k _ _ _ _ n f (fun _ => True) φ (Nat.le_refl _) off (fun _ _ => rfl) (fun m i y hm z => by rw [off m hm] at z; cases z) (R1.drop off) trivial (fun _ _ _ _ => trivial) itok_str
/-! ### sorted of pairs of ints -/
def rSortedPT (K : PySem.W.Frag) : List V → Hp → VK → Prop := fun vs H Q => ∃ a xs, vs = [V.ref a] ∧ SqL K H a xs ∧ (∀ x ∈ xs, ∃ t i j, x = V.ref t ∧ SqT K H t [.int i, .int j]) ∧
  ∀ ys p, ys.Perm xs → H p = none → Q (.ref p) (upd H p (.lst ys))
theorem cr_sortedPT : CallR X (.builtin "sorted") (rSortedPT X.K) := by
  intro pins s σ H vs us Q I r h
  obtain ⟨a, xs, rfl, hs, hx, q⟩ := h
  obtain ⟨its, rv, hl, hz⟩ := I.list hs
  obtain ⟨u, rfl, ru⟩ := vals1 r
  obtain rfl : u = Value.ref a := ru
  obtain ⟨e1, e2⟩ := refs_back rv fun x m => by
    obtain ⟨t, _, _, e, _⟩ := hx x m
    exact ⟨t, e⟩
  refine Srt.sorted_pairs hl.isList (by rw [← rv.length]; exact hz) (fun v hv => ?_) fun h' d out hp k hd hn => ?_
  · obtain ⟨t, rfl⟩ := e2 v hv
    have hm : V.ref t ∈ xs := by rw [e1]; exact List.mem_map.mpr ⟨_, hv, rfl⟩
    obtain ⟨t', i, j, e, ht⟩ := hx _ hm
    cases e
    obtain ⟨its2, r2, ⟨o, ho, hc, n, hd⟩, _⟩ := I.tuple ht
    obtain ⟨u1, u2, rfl, ri, rj⟩ := vals2 r2
    obtain ⟨t1, rfl⟩ := ri
    obtain ⟨t2, rfl⟩ := rj
    exact ⟨i, j, t, o, t1, t2, n, rfl, ho, hc, hd⟩
  · have h3 : ∀ u ∈ out, ∃ a, u = Value.ref a := fun u hu => e2 u (hp.mem_iff.mp hu)
    obtain ⟨n, hn⟩ := hn
    refine ⟨.ref d, upd H d (.lst (out.map backV)), I.laid (t' := s.toks) k hd ⟨?_, out, n, vals_back h3, hn⟩, rfl, q _ d ?_ (I.hok.fresh hd)⟩
    · rw [List.length_map, hp.length_eq, ← rv.length]; exact hz
    · rw [e1]; exact hp.map backV
def pSortPT : PO' | [.list ds], Ψ => (∀ d ∈ ds, ∃ i j : Int, d = .tuple [.int i, .int j]) ∧ ∀ es : List PyData, es.Perm ds → Ψ (.own (.list es)) | _, _ => False
theorem AcL.perm {K : PySem.W.Frag} {W : AS} {H : Hp} {xs ys : List V} (p : ys.Perm xs) : ∀ {ds : List PyData}, AcL K W H xs ds → ∃ es : List PyData, es.Perm ds ∧ AcL K W H ys es := by
  have p' := p.symm
  clear p
  induction p' with
  | nil => exact fun h => ⟨_, .refl _, h⟩
  | cons x p ih =>
    intro ds h
    cases h with
    | cons a b =>
      obtain ⟨es, h1, h2⟩ := ih b
      exact ⟨_ :: es, h1.cons _, .cons a h2⟩
  | swap x y l =>
    intro ds h
    cases h with
    | cons a b => cases b with | cons b c => exact ⟨_, .swap _ _ _, .cons b (.cons a c)⟩
  | trans _ _ ih1 ih2 =>
    intro ds h
    obtain ⟨es, h1, h2⟩ := ih1 h
    obtain ⟨fs, h3, h4⟩ := ih2 h2
    exact ⟨fs, h3.trans h1, h4⟩
theorem AcL.mem' {K : PySem.W.Frag} {W : AS} {H : Hp} : ∀ {xs : List V} {ds : List PyData}, AcL K W H xs ds → ∀ x ∈ xs, ∃ d ∈ ds, Ac K W H x d
  | _, _, .nil, _, h => by cases h
  | _, _, .cons a b, x, h => by
    rcases List.mem_cons.mp h with rfl | h
    · exact ⟨_, List.mem_cons_self, a⟩
    · obtain ⟨d, h1, h2⟩ := AcL.mem' b x h
      exact ⟨d, List.mem_cons_of_mem _ h1, h2⟩
theorem PSortPT : PureR X.K (rSortedPT X.K) pSortPT := by
  intro W H xs ds Q Ψ rv hφ P
  match ds, rv, hφ with
  | [d], rv, hφ =>
    obtain ⟨x, rfl, h1⟩ := rv.one
    cases d <;> first | exact hφ.elim | skip
    obtain ⟨hp, q⟩ := hφ
    obtain ⟨a, ys, rfl, ha, h2⟩ := h1.lst
    refine ⟨a, ys, rfl, ha, fun x hx => ?_, fun zs p hzs hn => ?_⟩
    · obtain ⟨d, hd, ad⟩ := h2.mem' x hx
      obtain ⟨i, j, rfl⟩ := hp d hd
      obtain ⟨t, us, rfl, ht, hu⟩ := Rv.tup (.inl ad)
      cases hu with
      | cons u1 u2 =>
        cases u2 with
        | cons u2 u3 =>
          cases u1; cases u2; cases u3
          exact ⟨t, i, j, rfl, ht⟩
    · obtain ⟨es, h3, h4⟩ := AcL.perm hzs h2
      exact P.lst _ _ _ (q es h3) hn h4
  | [], _, h => exact h.elim
  | _ :: _ :: _, _, h => exact absurd h (by simp [pSortPT])
end
end Px
end

/-! Px13 -/
section
set_option Elab.async false
set_option linter.all false
set_option maxRecDepth 100000
set_option maxHeartbeats 4000000
set_option autoImplicit false
/-! f(k = e, ..) with two keywords in the other order; a, b = [..], [..] of names that comprehensions read -/
namespace Px
open PySem PySem.Spec PyProof.Rows L2 Dh
section
variable {X : Cx} [IK]
def XK (X : Cx) (kws : List Keyword) (t : TA) (w : PXP) : Prop := PK X kws t ∧ ∀ C : Cc, Cok C X → DP C t w
theorem xk_nil : XK X [] tNil wPn := ⟨pk_nil, fun C hK n f Γ σ H Q Φ off R w k => k [] [] _ _ w R .nil⟩
theorem xk_cons {e : Expr} {kws : List Keyword} {nm : Option Str} {kpos : Pos} {ta : TE} {tr : TA} {wa : PX} {wr : PXP} (ha : XE X e ta wa) (hr : XK X kws tr wr) : XK X (⟨nm, e, kpos⟩ :: kws) (tCons ta tr) (wPc wa wr) := by
  obtain ⟨pa, ga⟩ := ha
  obtain ⟨pr, gr⟩ := hr
  refine ⟨pk_cons pa pr, fun C hK n f Γ σ H Q Φ off R w k => ga C hK n f Γ σ H _ _ off R w ?_⟩
  intro r x Γ1 H1 φ1 R1
  refine gr C hK (n + 1) _ Γ1 σ H1 _ _ off.up R1.hld φ1 ?_
  rintro ds xs Γ2 H2 ⟨p, hp, φ2⟩ R2 rv
  exact k _ _ _ _ φ2 (R2.drop off) (.cons (R2.pass off hp) (rv.tr (Tr.drop off) fun a z => WE.keep off (hld_own r) a z))
def tCallSw (sp : Sp) (t : TA) : TE := fun σ H Q => t σ H fun vs H1 => ∃ a b, vs = [a, b] ∧ sp [b, a] H1 Q fun _ _ _ => False
def wCallSw (φ : PF) (wA : PXP) : PX := fun Γ Φ => wA Γ fun Δ Γ1 => ∃ a b, Δ = [a, b] ∧ φ [b, a] fun r => Φ r Γ1
/-- the two keywords stand in the other order than the parameters -/
def BindsSw (K : PySem.W.Frag) (fd : FuncData) (p1 p2 : Str) : Prop := ∀ (s : Shared) (u1 u2 : Value), K.In s.heap → BindsTo s fd ⟨[], [p2, p1].zip [u2, u1]⟩ ([p1, p2].zip [u1, u2])
theorem xe_callSw {kws : List Keyword} {x p1 p2 : Str} {p pos : Pos} {k : Nat} {f : Addr} {fd : FuncData} {φ : PF} {t : TA} {wA : PXP} (F : FnG X.prog X.w X.K X.mg X.base CX0 k f fd [p1, p2] (spD X.K IK.ks φ)) (noG : X.A.guards = some []) (room : Room k X.A) (hg : Gl X x) (hm : X.mg x = some (.ref f)) (hk : PySem.W.keepIn X.K (.ref f) = true)
    (hb : BindsSw X.K fd p1 p2) (hA : XK X kws t wA) (hall : (backToKw pos (keywordEach kws X.env)).all (·.1.isSome) = true := by rfl) (hks : (backToKw pos (keywordEach kws X.env)).filterMap (·.1) = [p2, p1] := by rfl)
    (hdb : (x == ("__debug__" : Str)) = false := by decide) (hpl : ((backTo pos (starEach [] X.env)).any (·.1) || (backToKw pos (keywordEach kws X.env)).any (·.1.isNone)) = false := by rfl) :
    XE X (.Call (.Name x p) [] kws pos) (tCallSw (spD X.K IK.ks φ) t) (wCallSw φ wA) := by
  obtain ⟨pt, g⟩ := hA
  refine ⟨⟨fun pins s σ H Q I h => ?_⟩, fun C hK n f Γ σ H Q Φ off R w k => ?_⟩
  · refine wpAny_Call_Name_kw (ld_glob I hg hm ?_ hdb)
    refine PySem.W.callWith_KW0 (h₀ := X.base) I.ok.mod.kin hk hall (thn (pt.run pos pins s σ H _ I h) ?_) hpl
    rintro ws s2 ⟨zs, H2, I2, rz, a, b, rfl, q⟩
    refine ⟨I2.kIn, ?_⟩
    rw [hks]
    obtain ⟨u2, u1, rfl, r2, r1⟩ := vals2 rz
    have bd := hb s2 u1 u2 I2.kIn
    refine wpAny_call (codeAny_mono (F.go X.A X.stack s2 H2 _ [u1, u2] [b, a] Q (fun _ _ _ => False) noG room I2.env0 bd (.cons r1 (.cons r2 .nil)) q) ?_)
    intro res s' z
    cases res with
    | error err => exact z.elim
    | ok fl =>
      cases fl with
      | ret u => exact I2.after z
      | next => exact z.elim
      | brk => exact z.elim
      | cont => exact z.elim
  · refine g C hK n f Γ σ H _ _ off R w ?_
    rintro Δ xs Γ1 H1 ⟨a, b, rfl, φ1⟩ R1 ps
    cases ps with
    | cons p1 ps =>
      cases ps with
      | cons p2 ps =>
        cases ps
        refine ⟨_, _, rfl, WE C (ent f Γ1 σ), C.U, [b, a], fun r => Φ r Γ1, fun b hb => ?_, fun b hb => .inl (R1.e.uM b hb), by rw [← hK.k, ← hK.i]; exact .cons p2 (.cons p1 .nil), φ1, fun r x H' φ2 B => k _ _ _ _ φ2 (R1.back off hK.k hK.i B)⟩
        rcases hb with hb | ⟨j, d, hb⟩
        · exact R1.e.tr _ hb
        · cases R1.e.ok _ _ _ hb with
          | own h => exact h.there
/-! ### a, b = .., .. -/
theorem xs_parC {i j : Nat} {x y : Str} {a b : Expr} {ta tb : TE} {wa wb : PX} {px py pt pos : Pos} {kt k2 pt2} (hc : X.calm = true) (hN : X.N.Nodup) (hi : X.N[i]? = some x) (hj : X.N[j]? = some y) (hij : i ≠ j)
    (hx : Loc X.env.scope x) (hy : Loc X.env.scope y) (ha : XE X a ta wa) (hb : XE X b tb wb)
    (hfx : X.fn x = true ∨ X.env.scope.names.lookup x = some .local := by first | exact .inl rfl | exact .inr rfl | assumption) (hfy : X.fn y = true ∨ X.env.scope.names.lookup y = some .local := by first | exact .inl rfl | exact .inr rfl | assumption)
    (hs : swapsWithSole [.Tuple [.Name x px, .Name y py] kt pt] (.Tuple [a, b] k2 pt2) pos.line X.env = pure false := by rfl) (hw : swappedStores [.Tuple [.Name x px, .Name y py] kt pt] (.Tuple [a, b] k2 pt2) X.env = pure none := by rfl)
    (h1 : starEach [a, b] X.env = (false, eval a X.env) :: starEach [b] X.env := by rfl) (h2 : starEach [b] X.env = (false, eval b X.env) :: starEach [] X.env := by rfl)
    (g1 : (assignEach [.Name x px, .Name y py] X.env).map (·.2) = assign (.Name x px) X.env :: (assignEach [.Name y py] X.env).map (·.2) := by rfl) (g2 : (assignEach [.Name y py] X.env).map (·.2) = assign (.Name y py) X.env :: (assignEach [] X.env).map (·.2) := by rfl)
    (g3 : (assignEach [.Name x px, .Name y py] X.env).length = 2 := by rfl) (g4 : (assignEach [.Name x px, .Name y py] X.env).findIdx? (·.1) = none := by rfl)
    (g5 : (assignEach [.Tuple [.Name x px, .Name y py] kt pt] X.env).map (·.2) = [assign (.Tuple [.Name x px, .Name y py] kt pt) X.env] := by rfl) :
    XS X (.Assign [.Tuple [.Name x px, .Name y py] kt pt] (.Tuple [a, b] k2 pt2) pos) (tAsg (tTup (tCons ta (tCons tb tNil))) (gTup X.K 2 (gCons (gName i) (gCons (gName j) gNil)))) (wPar i j wa wb) := by
  refine ⟨ps_asg (pe_tup (pa_cons ha.1 (pa_cons hb.1 pa_nil h2) h1)) (pg_tup hc (pgs_cons (pg_name hN hi hx hfx) (pgs_cons (pg_name hN hj hy hfy) pgs_nil g2) g1) g3 g4) hs hw g5, fun C hK n f Γ σ H D Φ off nb R w F => ha.2 C hK n f Γ σ H _ _ off R w ?_⟩
  rintro r v Γ1 H1 ⟨r', Γ2, hz, φ1⟩ R1
  obtain ⟨R2, nr⟩ := R1.sto off hz
  refine hb.2 C hK (n + 1) _ Γ2 σ H1 _ _ off.up R2 φ1 ?_
  rintro s u Γ3 H3 ⟨s', Γ4, hz2, φ2⟩ R3
  obtain ⟨R4, ns⟩ := R3.sto off.up hz2
  refine ⟨by show 2 ≤ sizeLine; decide, fun p hp => ?_⟩
  have R4 := R4.alloc (o := .tup [v, u]) hp
  have nb2 : NoBor (upF f n (some (r', v))) := fun m i y => by
    unfold upF; split
    · intro z; cases z; exact nr _ rfl
    · exact nb m i y
  have R5 := R4.toSlot' off.up nb2 ns j
  have R6 := R5.toSlot' off nb nr i
  refine ⟨p, [v, u], rfl, .inl (.inl upd_same), rfl, v, [u], rfl, u, [], rfl, rfl, ?_⟩
  refine F.nx _ _ _ φ2 ?_
  rw [List.set_comm _ _ hij]
  exact R6
theorem xt_ch {a b c : Expr} {op op' : CmpOp} {pos : Pos} {r r' : R2} {φ ψ : PO'} {ta tb tc : TE} {wa wb wc : PX} (ho : OpR X (compareOp op) r) (hr : PureR2 X.K r φ) (ho' : OpR X (compareOp op') r') (hr' : PureR2 X.K r' ψ) (ha : XE X a ta wa) (hb : XE X b tb wb) (hc : XE X c tc wc)
    (hm : lastMarks [op, op'] [b, c] = false := by with_unfolding_all rfl) : XT X (.Compare a [op, op'] [b, c] pos) (tTest (tChain r r' ta tb tc)) (wB (wChain φ ψ wa wb wc)) :=
  xt_chain (xe_chain ho hr ho' hr' ha hb hc hm) (pt_chain ho ho' ha.1 hb.1 hc.1 hm)
end
end Px
end

/-! PxS -/
section
set_option Elab.async false
set_option linter.all false
set_option maxRecDepth 100000
set_option maxHeartbeats 4000000
set_option autoImplicit false
/-! a set comprehension whose members are put in by any rule of set.add -/
namespace Px
open PySem PySem.Spec PyProof.Rows L2 Dh PpSet

abbrev RAdd := V → List V → Hp → VK → Prop
/-- the reading: D the new set, o0 what an empty one is, r how a member comes in -/
def tScR (o0 : Addr → HO) (r : RAdd) (wi : TI) (g : TG) (tt : TT) (te : TE) (vs : List Nat) : TE := fun σ H Q =>
  wi σ H fun J H1 => ∀ D, H1 D = none → ∃ W : Nat → Nat → Hp → Prop, (∃ m, W 0 m (upd H1 D (o0 D))) ∧
    ∀ i m H, W i m H → (J.stop i H ∧ Q (.ref D) H) ∨ (J.go i H ∧ ∃ Nx : Hp → Prop, (∀ H', Nx H' → ∃ m', m' < m ∧ W (i + 1) m' H') ∧
      ∀ x H', J.yld i H x H' → g x (L2.wipe σ vs) H' fun σ2 H2 => L2.wipe σ2 vs = L2.wipe σ vs ∧ tt σ2 H2 fun b H3 =>
        if b = true then te σ2 H3 fun y H4 => r (.ref D) [y] H4 fun _ H5 => Nx H5 else Nx H3)
section
variable {X : Cx}
theorem pe_scR {elt tg iter : Expr} {ifs : List Expr} {scope : Scope} {own : List (Str × Nat)} {pos : Pos} {wi : TI} {g : TG} {tt : TT} {te : TE} {o0 : Addr → HO} {r : RAdd}
    (hr : ∀ Y : Cx, Y.w = X.w → MtR Y "set.add" r)
    (h0 : ∀ (H : Hp) (h : Heap), ObjOk X.prog X.w H (h.push { cls := .type "set", dict := none, data := .set #[] 0 (.fresh 0 0 (!X.w.params.followText "set-order")) }) h.objs.size (o0 h.objs.size))
    (hc : X.calm = true) (hN : X.N.Nodup) (hi : PI X tg iter wi) (ok : BlkOk X.N X.env.scope scope own)
    (hg : ∀ s H C cl fp, PG (X.blk s H scope (compEnvC scope cl C X.env) fp) tg g) (ht : ∀ s H C cl fp, PTs (X.blk s H scope (compEnvC scope cl C X.env) fp) ifs tt)
    (he : ∀ s H C cl fp, PE (X.blk s H scope (compEnvC scope cl C X.env) fp) elt te) (hs : ∀ x, foldedSetIterable iter X.env x = pure x := by intro _; rfl) :
    PE X (.SetComp elt [⟨tg, iter, ifs, 0⟩] scope pos) (tScR o0 r wi g tt te (own.map (·.2))) := by
  refine ⟨fun pins s σ H Q I h => ?_⟩
  rw [eval_SetComp]
  have free : ∀ y ∈ scope.names, y.2 = .free → ∃ c, X.env.cells.lookup y.1 = some c := by
    intro y hy e
    rcases ok.free y hy e with k | k
    · exact I.ok.has _ (.inl k)
    · exact I.ok.has _ (.inr k)
  refine wpAny_comprehension_free (use := none) rfl hs (closure_ok free) ok.kind (fun y hy e => by rw [ok.uniq y hy, e]) ?_
  refine thn (hi.run pins s σ H _ I h) fun xv s1 hx => thn hx ?_
  rintro itv s2 ⟨it, fp, tn, J, H2, rfl, I2, T, st2, f2, q⟩
  refine newSet_ok (newEnv_comp ?_)
  generalize eD : s2.heap.objs.size = D
  have nD : H2 D = none := I2.hok.fresh (Nat.le_of_eq eD)
  obtain ⟨W, ⟨m0, w0⟩, turn⟩ := q D nD
  generalize e3 : ({ s2 with heap := s2.heap.push { cls := .type "set", dict := none, data := .set #[] 0 (.fresh 0 0 (!X.w.params.followText "set-order")) } } : Shared) = s3
  have heap3 : s3.heap = s2.heap.push { cls := .type "set", dict := none, data := .set #[] 0 (.fresh 0 0 (!X.w.params.followText "set-order")) } := by rw [← e3]
  have I3 : Inv X pins σ (upd H2 D (o0 D)) s3 := by
    rw [← e3]
    refine I2.laid (t' := s2.toks) (fun b o e => Heap.get?_push_of_some _ e) (Nat.le_of_eq eD) ?_
    rw [← eD]
    exact h0 _ _
  have small : ∀ b ∈ fp, b < s2.heap.objs.size := by
    intro b hb
    obtain ⟨o, e, _⟩ := T.obj _ _ st2 b hb
    exact Heap.lt_size e
  have f3 : ∀ b ∈ fp, FpOk X pins (upd H2 D (o0 D)) b ∧ b < s3.heap.objs.size := by
    intro b hb
    have lt := small b hb
    have ne : b ≠ D := by rw [← eD]; exact Nat.ne_of_lt lt
    exact ⟨⟨by rw [upd_ne ne]; exact (f2 b hb).1, (f2 b hb).2⟩, by rw [heap3, Heap.size_push]; exact Nat.lt_succ_of_lt lt⟩
  have st3 : tn 0 s3.heap := T.keep _ _ _ st2 fun b _ o e => by rw [heap3]; exact Heap.get?_push_of_some _ e
  have I4 := block_start I3 ok hN f3
  have pg := hg s3 (upd H2 D (o0 D)) s3.heap.objs.size (cellsFrom (s3.heap.objs.size + 1) scope.names (cloFrom X.env.cells scope.names [])) fp
  have pt := ht s3 (upd H2 D (o0 D)) s3.heap.objs.size (cellsFrom (s3.heap.objs.size + 1) scope.names (cloFrom X.env.cells scope.names [])) fp
  have pe := he s3 (upd H2 D (o0 D)) s3.heap.objs.size (cellsFrom (s3.heap.objs.size + 1) scope.names (cloFrom X.env.cells scope.names [])) fp
  have nfp : ∀ b ∈ fp, (upd H2 D (o0 D)) b = none := fun b hb => (f3 b hb).1.1
  show codeAny _ _ (.compStart (.SetComp elt [⟨tg, iter, ifs, 0⟩] scope pos) 0 (.ref it) (.ref D) (compEnvC scope (cellsFrom (s3.heap.objs.size + 1) scope.names (cloFrom X.env.cells scope.names [])) s3.heap.objs.size X.env))
    (compPost (model X.prog X.w) X.A X.xe none (EP X pins σ Q) (.ref D) s3.heap.objs.size) { s3 with heap := pushCells (s3.heap.push { cls := .type "dict", data := .dict #[] }) scope.names }
  generalize ec : compEnvC scope (cellsFrom (s3.heap.objs.size + 1) scope.names (cloFrom X.env.cells scope.names [])) s3.heap.objs.size X.env = ce at I4 pg pt pe ⊢
  have cL : ce.locals = s3.heap.objs.size := by subst ec; rfl
  generalize eH : upd H2 D (o0 D) = H3 at I3 I4 pg pt pe w0 nfp f3
  generalize e4 : ({ s3 with heap := pushCells (s3.heap.push { cls := .type "dict", data := .dict #[] }) scope.names } : Shared) = s4 at I4 ⊢
  have st4 : tn 0 s4.heap := T.keep _ _ _ st3 fun b _ o e => by rw [← e4]; exact pushCells_keeps _ _ _ _ (Heap.get?_push_of_some _ e)
  have foot : ∀ {σ' : SS} {H' : Hp} {s' : Shared}, Inv (X.blk s3 H3 scope ce fp) [] σ' H' s' → (∀ b ∈ fp, H' b = none) → ∀ b ∈ fp, FpOk (X.blk s3 H3 scope ce fp) [] H' b := by
    intro σ' H' s' I' hn b hb
    exact ⟨hn b hb, (I'.ok.exf b hb).1, I'.ok.exfs b hb, .inl hb, fun x c e => (I'.ok.exf b hb).2 x c e, fun p hp => absurd (show p ∈ ([] : List (Addr × Obj)) ++ [] from hp) (by simp)⟩
  have loop : codeAny (model X.prog X.w) X.A (.compLoop (.SetComp elt [⟨tg, iter, ifs, 0⟩] scope pos) 0 (.ref it) (.ref D) ce) (compPost (model X.prog X.w) X.A X.xe none (EP X pins σ Q) (.ref D) s3.heap.objs.size) s4 := by
    refine compLoopS_any (fun n s' => ∃ i H', Inv (X.blk s3 H3 scope ce fp) [] (L2.wipe σ (own.map (·.2))) H' s' ∧ tn i s'.heap ∧ (∀ b ∈ fp, H' b = none) ∧ W i n H') ?_ m0 ⟨0, H3, I4, st4, nfp, w0⟩
    rintro n s5 ⟨i, H5, I5, st5, n5, w5⟩
    rcases turn i n H5 w5 with ⟨stop, qq⟩ | ⟨go, Nx, hNx, step⟩
    · refine thnF (T.done (X.blk s3 H3 scope ce fp) rfl rfl rfl hc i [] s5 _ H5 (fun _ _ => False) I5 (foot I5 n5) st5 stop) ?_
      rintro r s6 ⟨rfl, I6⟩
      have I7 : Inv X pins σ H5 s6 := I3.call' (ch := fp) I6.os I6.base I6.hok I6.bare fun b hb => ⟨(f3 b hb).1.2.2.2.1, (f3 b hb).1.2.1, (f3 b hb).1.2.2.2.2.1, (f3 b hb).1.2.2.2.2.2⟩
      have nC : H5 s3.heap.objs.size = none := by
        have z : H5 ce.locals = none := I6.free
        rwa [cL] at z
      obtain ⟨m, hn, _⟩ := I6.loc
      have hn : s6.heap.Ns ce.locals m := hn
      rw [cL] at hn
      obtain ⟨f0, f1, f2, f3, f4, f5⟩ := I3.fpOk (Nat.le_refl _) nC
      exact ⟨m, hn, fun h'' sb => ⟨.ref D, H5, I7.turned (t' := s6.toks) (fun b o hb e => (sb.2 b hb).trans e) f0 f1 f3 f4 f5, rfl, qq⟩⟩
    · refine thnF (T.item (X.blk s3 H3 scope ce fp) rfl rfl rfl hc i [] s5 _ H5 (fun _ _ => False) I5 (foot I5 n5) st5 go) ?_
      rintro rr s6 ⟨u, rfl, h6⟩
      refine thnF h6 ?_
      rintro _ s7 ⟨x, H7, I7, r7, y7, st7, n7⟩
      have I7' := I7.pinned (foot I7 n7) (T.obj _ _ st7)
      refine thnF (pg.run _ s7 _ H7 x u _ I7' r7 (step x H7 y7)) ?_
      rintro _ s8 ⟨σ8, H8, I8, hw8, q8⟩
      refine thnF (pt.run _ s8 σ8 H8 _ I8 q8) ?_
      rintro b s9 ⟨H9, I9, q9⟩
      have fin : ∀ {s' : Shared} {H' : Hp}, Inv (X.blk s3 H3 scope ce fp) ([] ++ pinsAt fp s7.heap) σ8 H' s' → Nx H' →
          ∃ m, m < n ∧ ∃ i H', Inv (X.blk s3 H3 scope ce fp) [] (L2.wipe σ (own.map (·.2))) H' s' ∧ tn i s'.heap ∧ (∀ b ∈ fp, H' b = none) ∧ W i m H' := by
        intro s' H' I' nx
        obtain ⟨m', hm, w'⟩ := hNx H' nx
        have pinned : ∀ b ∈ fp, ∀ o, s7.heap.get? b = some o → s'.heap.get? b = some o ∧ H' b = none := by
          intro b hb o e
          have z := I'.pin (b, o) (List.mem_append_right _ (List.mem_append_right _ (mem_pinsAt hb e)))
          exact ⟨z.1, z.2.1⟩
        have hl : (L2.wipe σ (own.map (·.2))).length = σ8.length := by rw [← hw8, wipe_length]
        refine ⟨m', hm, i + 1, H', (I'.unpinned (pins := [])).weak hl (fun j v e => ?_), T.keep _ _ _ st7 fun b hb o e => (pinned b hb o e).1, fun b hb => ?_, w'⟩
        · rw [← hw8] at e
          exact (wipe_some e).1
        · obtain ⟨o, e, _⟩ := T.obj _ _ st7 b hb
          exact (pinned b hb o e).2
      cases b with
      | false =>
        simp only [Bool.false_eq_true, if_false] at q9 ⊢
        exact fin I9 q9
      | true =>
        simp only [if_true] at q9 ⊢
        refine thnF (pe.run _ s9 σ8 H9 _ I9 q9) ?_
        rintro z s10 ⟨yv, H10, I10, r10, nx⟩
        refine thnF (hr (X.blk s3 H3 scope ce fp) rfl _ s10 σ8 H10 (.ref D) [yv] (.ref D) [z] _ I10 rfl (.cons r10 .nil) nx) ?_
        rintro _ s11 ⟨_, H11, I11, _, nx⟩
        exact fin I11 nx
  exact codeAny_compStart_set loop (T.self X.A 0 _ _ _ st4 loop)
end
end Px
end

/-! PxP -/
section
set_option Elab.async false
set_option linter.all false
set_option maxRecDepth 100000
set_option maxHeartbeats 4000000
set_option autoImplicit false
/-! an object that is no data (a set) stays as it is while data go on: it is pinned -/
namespace Px
open PySem PySem.Spec PyProof.Rows L2 Dh

/-- neither a list, a tuple nor a dict -/
def Odd : HO → Prop
  | .lst _ => False
  | .tup _ => False
  | .dK _ => False
  | _ => True
def Cc.pin (C : Cc) (D : Addr) (o : HO) : Cc := { C with M := fun b => C.M b ∨ b = D, H0 := upd C.H0 D o }
section
variable {K : PySem.W.Frag} {W W' : AS} {H : Hp} {D : Addr} {o : HO}
mutual
theorem Ac.pin (hD : H D = some o) (ho : Odd o) (hw : ∀ a, W' a → W a ∨ a = D) : ∀ (d : PyData) {x : V}, Ac K W H x d → Ac K W' H x d
  | .none, _, h => by cases h; exact .non
  | .bool b, _, h => by cases h; exact .bl b
  | .int i, _, h => by cases h; exact .int i
  | .str x, _, h => by cases h; exact .str x
  | .list ds, _, h => by
    cases h with
    | lst h1 h2 h3 => exact .lst h1 (fun z => (hw _ z).elim h2 fun e => by rw [e, hD] at h1; cases h1; exact ho) (AcL.pin hD ho hw ds h3)
  | .tuple ds, _, h => by
    cases h with
    | tup h1 h2 h3 => exact .tup h1 (fun z => (hw _ z).elim h2 fun e => by rw [e, hD] at h1; cases h1; exact ho) (AcL.pin hD ho hw ds h3)
    | tupK h1 h3 => exact .tupK h1 (AcL.pin hD ho hw ds h3)
  | .dict es, _, h => by
    cases h with
    | dic h1 h2 h3 => exact .dic h1 (fun z => (hw _ z).elim h2 fun e => by rw [e, hD] at h1; cases h1; exact ho) (AcK.pin hD ho hw es h3)
theorem AcL.pin (hD : H D = some o) (ho : Odd o) (hw : ∀ a, W' a → W a ∨ a = D) : ∀ (ds : List PyData) {xs : List V}, AcL K W H xs ds → AcL K W' H xs ds
  | [], _, h => by cases h; exact .nil
  | d :: ds, _, h => by
    cases h with
    | cons h1 h2 => exact .cons (Ac.pin hD ho hw d h1) (AcL.pin hD ho hw ds h2)
theorem AcK.pin (hD : H D = some o) (ho : Odd o) (hw : ∀ a, W' a → W a ∨ a = D) : ∀ (es : List (PyData × PyData)) {kvs : List (Key × V)}, AcK K W H kvs es → AcK K W' H kvs es
  | [], _, h => by cases h; exact .nil
  | (_, d) :: es, _, h => by
    cases h with
    | cons h1 h2 => exact .cons (Ac.pin hD ho hw d h1) (AcK.pin hD ho hw es h2)
end
theorem Ow.pin {a : Addr} {d : PyData} (hD : H D = some o) (ho : Odd o) (hw : ∀ a, W' a → W a ∨ a = D) (h : Ow K W H a d) : Ow K W' H a d := by
  cases h with
  | lst h1 h2 => exact .lst h1 (AcL.pin hD ho hw _ h2)
  | dic h1 h2 => exact .dic h1 (AcK.pin hD ho hw _ h2)
theorem Ow.ne {a : Addr} {d : PyData} (hD : H D = some o) (ho : Odd o) (h : Ow K W H a d) : a ≠ D := by
  intro e
  subst e
  cases h with
  | lst h1 _ => rw [hD] at h1; cases h1; exact ho
  | dic h1 _ => rw [hD] at h1; cases h1; exact ho
end
section
variable {C : Cc} {e : Ent} {f : Fr} {Γ : Env} {σ : SS} {H : Hp} {D : Addr} {o o' : HO}
theorem WE.pin {C : Cc} {e : Ent} {D : Addr} {o : HO} (a : Addr) : WE (C.pin D o) e a ↔ WE C e a ∨ a = D := by
  constructor
  · rintro ((z | z) | z)
    · exact .inl (.inl z)
    · exact .inr z
    · exact .inl (.inr z)
  · rintro ((z | z) | z)
    · exact .inl (.inl z)
    · exact .inr z
    · exact .inl (.inr z)
theorem Dck.ne {ik : List Key} {U : List Addr} {H : Hp} {a D : Addr} {o : HO} (hU : D ∉ U) (h : Dck ik U (upd H D o) a) : Dck ik U H a := by
  obtain ⟨lf, kvs, ls, h1, h2, h3, h4, h5, h6, h7, h8⟩ := h
  have n1 : a ≠ D := fun z => hU (by rw [h1, ← z]; simp)
  have n2 : lf ≠ D := fun z => hU (by rw [h1, ← z]; simp)
  rw [upd_ne n1] at h3
  rw [upd_ne n2] at h7
  exact ⟨lf, kvs, ls, h1, h2, h3, h4, h5, h6, h7, h8⟩
/-- what has been laid is pinned -/
theorem RelE.pinIn (R : RelE C e σ H) (hD : H D = some o) (ho : Odd o) (nW : ¬ WE C e D) (n0 : C.H0 D = none) : RelE (C.pin D o) e σ H := by
  have hU : D ∉ C.U := fun z => nW (.inl (R.uM _ z))
  have sub : ∀ a, WE (C.pin D o) e a → WE C e a ∨ a = D := fun a z => (WE.pin a).mp z
  refine ⟨fun k d x q => ?_, R.inj, fun k d a q => ?_, ?_, ?_, fun b hb => .inl (R.uM b hb), fun a h => R.dk a (h.ne hU)⟩
  · have v := R.ok k d x q
    cases v with
    | v h => exact .v (Ac.pin hD ho sub _ h)
    | own h => exact .own (h.pin hD ho sub)
    | bor h => exact .bor h
    | ro h m n => exact .ro (h.pin hD ho sub) (.inl m) n
    | deck h => exact .deck h
    | raw => exact .raw
  · have ne : a ≠ D := fun z => nW (.inr ⟨k, d, by rw [← z]; exact q⟩)
    refine ⟨fun z => z.elim (R.ap _ _ _ q).1 ne, ?_⟩
    show upd C.H0 D o a = none
    rw [upd_ne ne]; exact (R.ap _ _ _ q).2
  · intro b u h hb
    have h' : upd C.H0 D o b = some u := h
    by_cases z : b = D
    · rw [z, upd_same] at h'
      rw [z, hD]; exact h'
    · rw [upd_ne z] at h'
      exact R.kp b u h' hb
  · rintro b (z | z)
    · exact R.tr b z
    · exact ⟨o, by rw [z]; exact hD⟩
theorem RelE.pinOut (R : RelE (C.pin D o) e σ H) (ho : Odd o) (nM : ¬ C.M D) (hU : D ∉ C.U) (n0 : C.H0 D = none) : RelE C e σ H := by
  have hD : H D = some o := R.kp D o (upd_same (H := C.H0)) hU
  have sub : ∀ a, WE C e a → WE (C.pin D o) e a := fun a z => (WE.pin a).mpr (.inl z)
  refine ⟨fun k d x q => ?_, R.inj, fun k d a q => ?_, ?_, fun b hb => R.tr b (.inl hb), fun b hb => ?_, fun a h => R.dk a ?_⟩
  · have v := R.ok k d x q
    cases v with
    | v h => exact .v (Ac.tr (Tr.less sub) _ h)
    | own h => exact .own (h.tr (Tr.less sub) rfl)
    | bor h => exact .bor h
    | ro h m n => exact .ro (h.tr (Tr.less sub) rfl) (m.elim id fun z => absurd z (h.ne hD ho)) n
    | deck h => exact .deck h
    | raw => exact .raw
  · have z := R.ap _ _ _ q
    refine ⟨fun y => z.1 (.inl y), ?_⟩
    have ne : a ≠ D := fun y => z.1 (.inr y)
    have h : upd C.H0 D o a = none := z.2
    rw [upd_ne ne] at h; exact h
  · intro b u h hb
    have ne : b ≠ D := fun z => by rw [z, n0] at h; cases h
    exact R.kp b u (by show upd C.H0 D o b = _; rw [upd_ne ne]; exact h) hb
  · rcases R.uM b hb with z | z
    · exact z
    · exact absurd (z ▸ hb) hU
  · show Dck C.ik C.U (upd C.H0 D o) a
    exact h.off hU
theorem RelE.pinPut (R : RelE (C.pin D o) e σ H) (ho : Odd o) (hU : D ∉ C.U) : RelE (C.pin D o') e σ (upd H D o') := by
  have hD : H D = some o := R.kp D o (upd_same (H := C.H0)) hU
  have t : Tr (WE (C.pin D o) e) H (WE (C.pin D o') e) (upd H D o') := by
    intro a u h n
    have ne : a ≠ D := fun z => n ((WE.pin a).mpr (.inr z))
    exact ⟨by rw [upd_ne ne]; exact h, fun z => n ((WE.pin a).mpr ((WE.pin a).mp z))⟩
  refine ⟨fun k d x q => ?_, R.inj, fun k d a q => ?_, ?_, ?_, R.uM, fun a h => ?_⟩
  · have v := R.ok k d x q
    cases v with
    | v h => exact .v (Ac.tr t _ h)
    | own h => exact .own (h.tr t (upd_ne (h.ne hD ho)))
    | bor h => exact .bor h
    | ro h m n => exact .ro (h.tr t (upd_ne (h.ne hD ho))) m n
    | deck h => exact .deck (h.off hU)
    | raw => exact .raw
  · have z := R.ap _ _ _ q
    refine ⟨z.1, ?_⟩
    have ne : a ≠ D := fun y => z.1 (.inr y)
    have h : upd C.H0 D o a = none := z.2
    show upd C.H0 D o' a = none
    rw [upd_ne ne] at h ⊢; exact h
  · intro b u h hb
    have h' : upd C.H0 D o' b = some u := h
    by_cases z : b = D
    · rw [z, upd_same] at h' ⊢; exact h'
    · rw [upd_ne z] at h' ⊢
      exact R.kp b u (by show upd C.H0 D o b = _; rw [upd_ne z]; exact h') hb
  · rintro b z
    exact upd_there (R.tr b z)
  · have h' : Dck C.ik C.U (upd C.H0 D o') a := h
    exact (R.dk a ((h'.ne hU).off hU)).off hU
theorem Rel.pinIn (R : Rel C f Γ σ H) (hD : H D = some o) (ho : Odd o) (nW : ¬ WE C (ent f Γ σ) D) (n0 : C.H0 D = none) : Rel (C.pin D o) f Γ σ H := ⟨R.e.pinIn hD ho nW n0, R.len, R.full, R.nb⟩
theorem Rel.pinOut (R : Rel (C.pin D o) f Γ σ H) (ho : Odd o) (nM : ¬ C.M D) (hU : D ∉ C.U) (n0 : C.H0 D = none) : Rel C f Γ σ H := ⟨R.e.pinOut ho nM hU n0, R.len, R.full, R.nb⟩
theorem Rel.pinPut (R : Rel (C.pin D o) f Γ σ H) (ho : Odd o) (hU : D ∉ C.U) : Rel (C.pin D o') f Γ σ (upd H D o') := ⟨R.e.pinPut ho hU, R.len, R.full, R.nb⟩
theorem Rel.pinned (R : Rel (C.pin D o) f Γ σ H) (hU : D ∉ C.U) : H D = some o := R.e.kp D o (upd_same (H := C.H0)) hU
theorem Rel.off0 (R : Rel C f Γ σ H) (hD : H D = none) : ¬ WE C (ent f Γ σ) D ∧ C.H0 D = none ∧ D ∉ C.U := by
  obtain ⟨h1, h2⟩ := R.e.fresh hD
  exact ⟨h1, h2, fun z => h1 (.inl (R.e.uM _ z))⟩
/-- laid and pinned at once -/
theorem Rel.pinNew (R : Rel C f Γ σ H) (hD : H D = none) (ho : Odd o) : Rel (C.pin D o) f Γ σ (upd H D o) :=
  (R.alloc (o := o) hD).pinIn upd_same ho (R.off0 hD).1 (R.off0 hD).2.1
end
theorem Cok.pin {X : Cx} [IK] {C : Cc} (h : Cok C X) (D : Addr) (o : HO) : Cok (C.pin D o) X := ⟨h.k, h.i⟩

/-! ### sorted({elt for target in iter if ..}), the members ints -/
def compI (vs : List Nat) (g : PG') (tt : PXT) (te : PX) (G : Env → Prop) : List PyData → List Int → Env → (List Int → Env → Prop) → Prop
  | [], acc, Γ, Φ => G Γ ∧ Φ acc Γ
  | d :: ds, acc, Γ, Φ => G Γ ∧ acc.length < 60 ∧ g d (wipeG Γ vs) fun Γ1 => tt Γ1 fun b Γ2 =>
      (b = true → te Γ2 fun r Γ3 => ∃ k : Int, r = .v (.int k) ∧ compI vs g tt te G ds (acc ++ [k]) (wipeG Γ3 vs) Φ) ∧ (b = false → compI vs g tt te G ds acc (wipeG Γ2 vs) Φ)
/-- their members, ascending -/
def ascOf (acc ns : List Int) : Prop := ns.Pairwise (· < ·) ∧ ∀ k, k ∈ ns ↔ k ∈ acc
def wSs (vs : List Nat) (wi : PIc) (g : PG') (tt : PXT) (te : PX) : PX := fun Γ Φ => wi Γ fun ds G Γ1 => compI vs g tt te G ds [] Γ1 fun acc Γ2 => ∀ ns, ascOf acc ns → Φ (.own (.list (ns.map .int))) Γ2
def memI (acc : List Int) : Int → Bool := fun k => decide (k ∈ acc)
section
variable {X : Cx} [IK]
theorem odd_set {w : World} {a : Addr} {S : Int → Bool} {n : Nat} : Odd (SetO w a S n) := trivial
theorem xe_sortedSc {elt tg iter : Expr} {ifs : List Expr} {scope : Scope} {own : List (Str × Nat)} {p pos pos2 : Pos} {wi : TI} {g : TG} {tt : L2.TT} {te : TE} {wI : PIc} {wG : PG'} {wT : PXT} {wE : PX} {ts : List Nat} (hc : X.calm = true) (hN : X.N.Nodup)
    (hgl : Gl X "sorted") (hm : X.mg "sorted" = none) (hi : XIc X tg iter wi wI) (ok : BlkOk X.N X.env.scope scope own)
    (hg : ∀ (s : Shared) (H : Hp) (C : Addr) (cl : List (Str × Addr)) (fp : List Addr), XG (X.blk s H scope (compEnvC scope cl C X.env) fp) tg g wG ts) (ht : ∀ (s : Shared) (H : Hp) (C : Addr) (cl : List (Str × Addr)) (fp : List Addr), XTs (X.blk s H scope (compEnvC scope cl C X.env) fp) ifs tt wT)
    (he : ∀ (s : Shared) (H : Hp) (C : Addr) (cl : List (Str × Addr)) (fp : List Addr), XE (X.blk s H scope (compEnvC scope cl C X.env) fp) elt te wE) (hts : ∀ i ∈ ts, i ∈ own.map (·.2) := by decide) (hs : ∀ x, foldedSetIterable iter X.env x = pure x := by intro _; rfl)
    (hst : starEach [.SetComp elt [⟨tg, iter, ifs, 0⟩] scope pos] X.env = (false, eval (.SetComp elt [⟨tg, iter, ifs, 0⟩] scope pos) X.env) :: starEach [] X.env := by rfl) :
    XE X (.Call (.Name "sorted" p) [.SetComp elt [⟨tg, iter, ifs, 0⟩] scope pos] [] pos2)
      (tCB (rSortedSet X.w) (tCons (tScR (fun D => SetO X.w D (fun _ => false) 0) (rSAdd X.w) wi g tt te (own.map (·.2))) tNil)) (wSs (own.map (·.2)) wI wG wT wE) := by
  refine ⟨pe_callB (cr_sortedSet hc) hgl hm (by decide +kernel) (pa_cons (pe_scR (fun Y hY => by rw [← hY]; exact mt_sadd) (fun H h => setO_new (setR_fresh X.w)) hc hN hi.1 ok (fun s H C cl fp => (hg s H C cl fp).1) (fun s H C cl fp => (ht s H C cl fp).1) (fun s H C cl fp => (he s H C cl fp).1) hs) pa_nil hst) (he := hst), fun C hK n f Γ σ H Q Φ off R w k => ?_⟩
  generalize own.map (·.2) = vs at hts w ⊢
  refine hi.2 C hK n f Γ σ H _ _ off R w ?_
  intro ds G J Γ1 H1 n' f' Hd φ hn off' low R1 hd st okJ D hD
  have hdl : Hd f' := hd
  obtain ⟨nW, n0, nU⟩ := R1.off0 hD
  have nM : ¬ C.M D := fun z => nW (.inl z)
  refine ⟨fun i m H2 => m = ds.length - i ∧ i ≤ ds.length ∧ ∃ acc Γ2 sz, Rel (C.pin D (SetO X.w D (memI acc) sz)) f' Γ2 σ H2 ∧ sz ≤ acc.length ∧ acc.length < 61 ∧ compI vs wG wT wE G (ds.drop i) acc Γ2 fun acc Γ2 => ∀ ns, ascOf acc ns → Φ (.own (.list (ns.map .int))) Γ2,
    ⟨_, rfl, Nat.zero_le _, [], Γ1, 0, ?_, Nat.le_refl _, (by decide), by simpa using φ⟩, ?_⟩
  · have e : memI [] = fun _ => false := by funext k; simp [memI]
    rw [e]
    exact R1.pinNew hD odd_set
  rintro i m H2 ⟨rfl, hi2, acc, Γ2, sz, R2, hz, h61, φ2⟩
  have dG := (hg X.s_0 (fun _ => none) 0 [] []).2 (C.pin D (SetO X.w D (memI acc) sz)) ⟨hK.k, hK.i⟩
  have dT := (ht X.s_0 (fun _ => none) 0 [] []).2 (C.pin D (SetO X.w D (memI acc) sz)) ⟨hK.k, hK.i⟩
  have dE := (he X.s_0 (fun _ => none) 0 [] []).2 (C.pin D (SetO X.w D (memI acc) sz)) ⟨hK.k, hK.i⟩
  have R2' : Rel C f' Γ2 σ H2 := R2.pinOut odd_set nM nU n0
  rcases Nat.lt_or_ge i ds.length with lt | ge
  · have hd' : ds[i]? = some ds[i] := List.getElem?_eq_getElem lt
    rw [List.drop_eq_getElem_cons lt] at φ2
    obtain ⟨hG, h60, φ2⟩ := φ2
    refine .inr ⟨okJ.go _ Γ2 σ H2 i hdl hG R2' lt, fun H3 => ∃ acc Γ3 sz, Rel (C.pin D (SetO X.w D (memI acc) sz)) f' Γ3 σ H3 ∧ sz ≤ acc.length ∧ acc.length < 61 ∧ compI vs wG wT wE G (ds.drop (i + 1)) acc Γ3 fun acc Γ2 => ∀ ns, ascOf acc ns → Φ (.own (.list (ns.map .int))) Γ2, fun H3 z => ⟨ds.length - (i + 1), by omega, rfl, lt, z⟩, fun x H3 y => ?_⟩
    obtain ⟨gr, a⟩ := okJ.yld _ Γ2 σ H2 i _ x H3 hdl hG R2' hd' y
    have R3 := R2.grow gr
    have hD3 := R3.pinned nU
    have a' : Ac C.K (WE (C.pin D (SetO X.w D (memI acc) sz)) (ent f' Γ2 σ)) H3 x ds[i] := Ac.pin hD3 odd_set (fun b z => (WE.pin b).mp z) _ a
    have R4 := R3.hide.wipes (hide_nb _) vs
    have offh : Off (hide f') n' := hide_off off'
    have aw : Ac C.K (WE (C.pin D (SetO X.w D (memI acc) sz)) (ent (hide f') (wipeG Γ2 vs) (L2.wipe σ vs))) H3 x ds[i] := by
      refine Ac.tr (Tr.less ?_) _ a'
      rintro b (z | ⟨k, d, z⟩)
      · exact .inl z
      · cases k with
        | inl m => exact .inr ⟨.inl m, d, hide_some z⟩
        | inr j =>
          obtain ⟨z1, z2⟩ := slotE_some z
          obtain ⟨z1, zo⟩ := wipeG_some z1
          refine .inr ⟨.inr j, d, ?_⟩
          show slotE Γ2[j]? σ[j]? = _
          rw [z1, (wipe_some z2).1]; rfl
    refine dG n' _ _ _ H3 x _ _ _ offh (hide_nb _) R4 aw φ2 ?_
    intro Γ5 σ5 H5 φ5 R5 _ hw5
    have hw : L2.wipe σ5 vs = L2.wipe σ vs := by
      rw [hw5 vs hts]
      have : ∀ us : List Nat, (∀ u ∈ us, u ∈ vs) → L2.wipe (L2.wipe σ us) vs = L2.wipe σ vs := by
        intro us
        induction us with
        | nil => intro _; rfl
        | cons u us ih =>
          intro h
          show L2.wipe ((L2.wipe σ us).set u none) vs = _
          rw [wipe_in (h u (by simp))]
          exact ih fun v hv => h v (List.mem_cons_of_mem _ hv)
      exact this vs fun _ z => z
    refine ⟨by rw [hw5 vs hts]; exact (hw5 vs hts).symm.trans hw, ?_⟩
    refine dT n' _ Γ5 σ5 H5 _ _ offh R5 φ5 ?_
    rintro b Γ6 H6 ⟨φt, φf⟩ R6
    cases b with
    | false =>
      rw [if_neg (by decide)]
      exact ⟨acc, _, sz, R6.unhide R3 (fun _ _ _ z => z) hw, hz, h61, φf rfl⟩
    | true =>
      rw [if_pos rfl]
      refine dE n' _ Γ6 σ5 H6 _ _ offh R6 (φt rfl) ?_
      rintro r y Γ7 H7 ⟨kk, rfl, φ8⟩ R7
      obtain rfl : y = .int kk := by
        have z := R7.heldV
        cases z; rfl
      have R8 := R7.drop offh
      have R9 := R8.unhide R3 (fun _ _ _ z => z) hw
      have hD7 := R9.pinned nU
      refine ⟨D, kk, memI acc, sz, rfl, rfl, hD7, Nat.lt_of_le_of_lt (show sz + 1 ≤ 62 by omega) (by decide), acc ++ [kk], _, (if memI acc kk = true then sz else sz + 1), ?_, ?_, ?_, φ8⟩
      · have e : memI (acc ++ [kk]) = fun j => memI acc j || decide (j = kk) := by
          funext j
          simp [memI, Bool.decide_or]
        rw [e]
        exact R9.pinPut odd_set nU
      · rw [List.length_append]
        show (if memI acc kk = true then sz else sz + 1) ≤ acc.length + 1
        split <;> omega
      · rw [List.length_append]
        show acc.length + 1 < 61
        omega
  · refine .inl ⟨okJ.stop _ Γ2 σ H2 i hdl ?_ R2' ge, ?_⟩
    · rw [List.drop_eq_nil_of_le ge] at φ2
      exact φ2.1
    · rw [List.drop_eq_nil_of_le ge] at φ2
      refine ⟨D, memI acc, sz, rfl, R2.pinned nU, by omega, fun ns q hs hm _ hq => ?_⟩
      refine k _ _ _ _ (φ2.2 ns ⟨hs, fun k => by rw [hm k]; simp [memI]⟩) ?_
      exact (R2'.less off low).mineL off hq (AcL.ofInts ns)
end
end Px
end

/-! PxR -/
section
set_option Elab.async false
set_option linter.all false
set_option maxRecDepth 100000
set_option maxHeartbeats 4000000
/-! tuple * int for any int, sorted of a dict with text keys, calls by keywords in any order -/
namespace Px
open PySem PySem.Spec PyProof.Rows L2 Dh
/-- the same tuple -/
theorem mulT_same (l : Addr) (items : Array Value) (n : Nat) (dd : Option Addr) (sl : Array (Option Value)) (x : Int) (u : Tok) (c0 : (decide (x < -(2 ^ 63)) || decide (x ≥ 2 ^ 63)) = false) (c1 : (items.isEmpty || x == 1) = true) :
    Meets (Builtin.«tuple.__mul__» ⟨[.ref l, .int x u], []⟩) fun _ R s => s.heap.get? l = some { cls := .type "tuple", dict := dd, data := .seq items n, slots := sl } ∧ R (.ok (.ret (.ref l))) s :=
  .of_wp fun prog w A R s h => by
    obtain ⟨hp, g, d, tk, os⟩ := s
    obtain ⟨hl, q⟩ := h
    have f1 := AutoSeq1.idx_int
    wp_walk using wpAny_loadPart' hl
    repeat (first
      | (refine wpAny_ite_false (decide_eq_false (by rw [c0]; exact Bool.false_ne_true)) ?_; wp_walk using wpAny_loadPart' hl)
      | (refine wpAny_ite_true (decide_eq_true c1) ?_; wp_walk using wpAny_loadPart' hl))
    exact ⟨_, rfl, q⟩
/-- none of it -/
theorem mulT_none (l : Addr) (items : Array Value) (n : Nat) (dd : Option Addr) (sl : Array (Option Value)) (x : Int) (u : Tok) (c0 : (decide (x < -(2 ^ 63)) || decide (x ≥ 2 ^ 63)) = false) (c1 : (items.isEmpty || x == 1) = false) (c2 : (decide (x ≤ 0) || items.isEmpty) = true) :
    Meets (Builtin.«tuple.__mul__» ⟨[.ref l, .int x u], []⟩) fun _ R s => s.heap.get? l = some { cls := .type "tuple", dict := dd, data := .seq items n, slots := sl } ∧
      R (.ok (.ret (.ref s.heap.objs.size))) { s with heap := s.heap.push { cls := Value.type "tuple", data := Data.seq #[] }, toks := s.toks } :=
  .of_wp fun prog w A R s h => by
    obtain ⟨hp, g, d, tk, os⟩ := s
    obtain ⟨hl, q⟩ := h
    have f1 := AutoSeq1.idx_int
    wp_walk using wpAny_loadPart' hl
    repeat (first
      | (refine wpAny_ite_false (decide_eq_false (by rw [c0]; exact Bool.false_ne_true)) ?_; wp_walk using wpAny_loadPart' hl)
      | (refine wpAny_ite_false (decide_eq_false (by rw [c1]; exact Bool.false_ne_true)) ?_; wp_walk using wpAny_loadPart' hl)
      | (refine wpAny_ite_true (decide_eq_true c2) ?_; wp_walk using wpAny_loadPart' hl))
    exact ⟨_, rfl, q⟩
/-- t * k -/
def rMulT (K : PySem.W.Frag) : R2 := fun x y H Q => ∃ l k xs, x = .ref l ∧ y = .int k ∧ SqT K H l xs ∧ -1000 ≤ k ∧ k ≤ 1000 ∧ xs.length ≤ 1000 ∧ (∀ p, H p = none → Q (.ref p) (upd H p (.tup (List.replicate k.toNat xs).flatten))) ∧ ((List.replicate k.toNat xs).flatten = xs → Q (.ref l) H)
section
variable {X : Cx}
theorem op_mulT : OpR X (binaryOp .Mult) (rMulT X.K) := by
  intro pins s σ H x y v u Q I rx ry h
  obtain ⟨l, k, xs, rfl, rfl, hT, h1, h2, hz, q, q2⟩ := h
  by_cases big : xs ≠ [] ∧ 2 ≤ k
  · exact op_repT pins s σ H (.ref l) (.int k) v u Q I rx ry ⟨l, k, xs, rfl, rfl, hT, big.1, big.2, h2, hz, q⟩
  · cases rx
    obtain ⟨t, rfl⟩ := ry
    obtain ⟨its, r, ⟨⟨cls, dd, data, sl⟩, ho, hc, n, hd⟩, hs⟩ := I.tuple hT
    simp only at hc hd
    subst hc hd
    have hle : its.length = xs.length := r.length.symm
    have c0 : (decide (k < -(2 ^ 63)) || decide (k ≥ 2 ^ 63)) = false := by
      rw [decide_eq_false (by omega), decide_eq_false (by omega)] <;> rfl
    by_cases c1 : (its.toArray.isEmpty || k == 1) = true
    · have same : (List.replicate k.toNat xs).flatten = xs := by
        rcases Bool.or_eq_true _ _ |>.mp c1 with e | e
        · have : its = [] := by cases its with | nil => rfl | cons a b => cases e
          rw [this] at hle
          have : xs = [] := List.eq_nil_of_length_eq_zero hle.symm
          rw [this]; simp
        · have : k = 1 := eq_of_beq e
          subst this
          simp
      refine wpAny_binaryOp_repeat_ref (T := "tuple") (U := "int") (by decide) ⟨_, ho, rfl⟩ (fun s' => typeIs_int s' k t) noFill_tuple_mul F.fills_int_mul F.slot_int_rmul repeat_tuple F.slot_int_index.lookup
        (call_meets F.slot_int_rmul (typeIs_int s k t) F.entry_int_rmul (F.args_int_rmul_2 _ _) (int_rmul_tuple k t l its.toArray n dd sl)
          ⟨ho, rfl, ⟨_, ho, rfl⟩, call_meets F.slot_tuple_mul ⟨_, ho, rfl⟩ F.entry_tuple_mul (F.args_tuple_mul_2 _ _) (mulT_same l its.toArray n dd sl k t c0 c1) ⟨ho, ?_⟩⟩)
      exact ⟨.ref l, H, I, rfl, q2 same⟩
    · have c1 : (its.toArray.isEmpty || k == 1) = false := by simpa using c1
      have ne : xs ≠ [] := fun z => by
        rw [z] at hle
        have : its = [] := List.eq_nil_of_length_eq_zero hle
        rw [this] at c1; cases c1
      have k1 : k ≠ 1 := fun z => by rw [z] at c1; simp at c1
      have k0 : k ≤ 0 := by
        have : ¬ 2 ≤ k := fun z => big ⟨ne, z⟩
        omega
      have c2 : (decide (k ≤ 0) || its.toArray.isEmpty) = true := by rw [decide_eq_true k0]; rfl
      refine wpAny_binaryOp_repeat_ref (T := "tuple") (U := "int") (by decide) ⟨_, ho, rfl⟩ (fun s' => typeIs_int s' k t) noFill_tuple_mul F.fills_int_mul F.slot_int_rmul repeat_tuple F.slot_int_index.lookup
        (call_meets F.slot_int_rmul (typeIs_int s k t) F.entry_int_rmul (F.args_int_rmul_2 _ _) (int_rmul_tuple k t l its.toArray n dd sl)
          ⟨ho, rfl, ⟨_, ho, rfl⟩, call_meets F.slot_tuple_mul ⟨_, ho, rfl⟩ F.entry_tuple_mul (F.args_tuple_mul_2 _ _) (mulT_none l its.toArray n dd sl k t c0 c1 c2) ⟨ho, ?_⟩⟩)
      have z : k.toNat = 0 := by omega
      have q' := q s.heap.objs.size (I.hok.fresh (Nat.le_refl _))
      rw [z] at q'
      refine ⟨.ref s.heap.objs.size, _, I.laid (t' := s.toks) (o := .tup (List.replicate 0 xs).flatten) (fun b ob q => Heap.get?_push_of_some _ q) (Nat.le_refl _) ?_, rfl, q'⟩
      exact ⟨by simp, [], .nil, IsTup.new _ _⟩
theorem repT_ok {K : PySem.W.Frag} {W : AS} {H : Hp} {xs : List V} {ds : List PyData} (h : AcL K W H xs ds) : ∀ k : Nat, AcL K W H (List.replicate k xs).flatten (List.replicate k ds).flatten
  | 0 => .nil
  | k + 1 => by
    rw [List.replicate_succ, List.replicate_succ, List.flatten_cons, List.flatten_cons]
    exact h.app (repT_ok h k)
def pMulT : PO' | [.tuple ds, .int k], Ψ => -1000 ≤ k ∧ k ≤ 1000 ∧ ds.length ≤ 1000 ∧ Ψ (.v (.tuple (List.replicate k.toNat ds).flatten)) | _, _ => False
theorem rep_same {α β : Type} {xs : List α} {ds : List β} (hl : xs.length = ds.length) : ∀ {k : Nat}, (List.replicate k xs).flatten = xs → (List.replicate k ds).flatten = ds := by
  intro k h
  have e := congrArg List.length h
  simp only [List.length_flatten, List.map_replicate, List.sum_replicate_nat] at e
  by_cases z : xs.length = 0
  · have : ds = [] := List.eq_nil_of_length_eq_zero (by omega)
    subst this; simp
  · have : k = 1 := Nat.eq_of_mul_eq_mul_right (Nat.pos_of_ne_zero z) (by omega)
    subst this; simp
theorem PMulT {K} : PureR2 K (rMulT K) pMulT := by
  intro W H x y d e Q Ψ hx hy hφ P
  cases d <;> first | exact hφ.elim | skip
  rename_i ds
  cases e <;> first | exact hφ.elim | skip
  rename_i k
  obtain ⟨h1, h2, h3, q⟩ := hφ
  obtain rfl := hy.int
  obtain ⟨a, xs, rfl, ha, h⟩ := hx.tup
  refine ⟨a, k, xs, rfl, rfl, ha, h1, h2, by rw [h.len]; exact h3, fun p hp => P.tup _ _ _ q hp (repT_ok h _), fun same => ?_⟩
  have e := rep_same h.len same
  rw [e] at q
  exact P.val _ _ q hx.tupAc

/-! ### sorted(d): the keys of a dict, all texts -/
def rSortDk : List V → Hp → VK → Prop := fun xs H Q => ∃ (a : Addr) (kvs : List (Key × V)) (ks : List Str), xs = [.ref a] ∧ Rd H a (.dK kvs) ∧ kvs.map (·.1) = ks.map Sum.inr ∧ ks.length < 64 ∧
    ∀ ys p, ys.Perm ks → sortedS ys = true → H p = none → Q (.ref p) (upd H p (.lst (ys.map V.str)))
theorem cr_sortedDk (hc : X.calm = true) : CallR X (.builtin "sorted") rSortDk := call_sortedD hc
def pSortDk : PO' | [d], Ψ => ∃ (kds : KD) (ks : List Str), d = dkD kds ∧ kds.map (·.1) = ks.map Sum.inr ∧ ks.length < 64 ∧ ∀ ys : List Str, ys.Perm ks → sortedS ys = true → Ψ (.own (.list (ys.map .str))) | _, _ => False
theorem PSortDk [IK] : PureR X.K rSortDk pSortDk := by
  intro W H xs ds Q Ψ rv hφ P
  match ds, rv, hφ with
  | [d], rv, hφ =>
    obtain ⟨x, rfl, h1⟩ := rv.one
    obtain ⟨kds, ks, rfl, hk, h64, q⟩ := hφ
    obtain ⟨a, kvs, rfl, ha, h2⟩ := h1.dk
    exact ⟨a, kvs, ks, rfl, .of ha, h2.keys.trans hk, h64, fun ys p hp hs hn => P.lst _ _ _ (q ys hp hs) hn (AcL.ofStrs _)⟩
  | [], _, h => exact h.elim
  | _ :: _ :: _, _, h => exact absurd h (by simp [pSortDk])
/-! ### f(k = e, ..): any number of keywords, in any order; π tells for each parameter which keyword it is -/
def sel {α : Type} (π : List Nat) (xs : List α) : List α := π.filterMap (xs[·]?)
theorem PassL.get {K : PySem.W.Frag} {U : List Addr} {ik : List Key} {W : AS} {H : Hp} : ∀ {ds : List D} {xs : List V}, PassL K U ik W H ds xs → ∀ i : Nat, (ds[i]? = none ∧ xs[i]? = none) ∨ ∃ d x, ds[i]? = some d ∧ xs[i]? = some x ∧ PassOk K U ik W H d x
  | _, _, .nil, _ => .inl ⟨by simp, by simp⟩
  | _, _, .cons a _, 0 => .inr ⟨_, _, by simp, by simp, a⟩
  | _, _, .cons _ b, i + 1 => by
    rcases PassL.get b i with ⟨h1, h2⟩ | ⟨d, x, h1, h2, h3⟩
    · exact .inl ⟨by simpa using h1, by simpa using h2⟩
    · exact .inr ⟨d, x, by simpa using h1, by simpa using h2, h3⟩
theorem PassL.sel {K : PySem.W.Frag} {U : List Addr} {ik : List Key} {W : AS} {H : Hp} {ds : List D} {xs : List V} (h : PassL K U ik W H ds xs) : ∀ π : List Nat, PassL K U ik W H (Px.sel π ds) (Px.sel π xs)
  | [] => .nil
  | i :: π => by
    unfold Px.sel
    rcases h.get i with ⟨h1, h2⟩ | ⟨d, x, h1, h2, h3⟩
    · rw [List.filterMap_cons, List.filterMap_cons, h1, h2]; exact PassL.sel h π
    · rw [List.filterMap_cons, List.filterMap_cons, h1, h2]; exact .cons h3 (PassL.sel h π)
theorem Vals.get {xs : List V} {us : List Value} (h : Vals xs us) : ∀ i : Nat, (xs[i]? = none ∧ us[i]? = none) ∨ ∃ x u, xs[i]? = some x ∧ us[i]? = some u ∧ RelV x u := by
  induction h with
  | nil => exact fun i => .inl ⟨by simp, by simp⟩
  | cons a _ ih =>
    intro i
    cases i with
    | zero => exact .inr ⟨_, _, by simp, by simp, a⟩
    | succ i =>
      rcases ih i with ⟨h1, h2⟩ | ⟨x, u, h1, h2, h3⟩
      · exact .inl ⟨by simpa using h1, by simpa using h2⟩
      · exact .inr ⟨x, u, by simpa using h1, by simpa using h2, h3⟩
theorem vals_sel {xs : List V} {us : List Value} (h : Vals xs us) : ∀ π : List Nat, Vals (sel π xs) (sel π us)
  | [] => .nil
  | i :: π => by
    unfold sel
    rcases Vals.get h i with ⟨h1, h2⟩ | ⟨x, u, h1, h2, h3⟩
    · rw [List.filterMap_cons, List.filterMap_cons, h1, h2]; exact vals_sel h π
    · rw [List.filterMap_cons, List.filterMap_cons, h1, h2]; exact .cons h3 (vals_sel h π)
def BindsKw (K : PySem.W.Frag) (fd : FuncData) (ps ns : List Str) (π : List Nat) : Prop := ∀ (s : Shared) (us : List Value), us.length = ns.length → K.In s.heap → BindsTo s fd ⟨[], ns.zip us⟩ (ps.zip (sel π us))
def tCallKw (sp : Sp) (n : Nat) (π : List Nat) (t : TA) : TE := fun σ H Q => t σ H fun vs H1 => vs.length = n ∧ sp (sel π vs) H1 Q fun _ _ _ => False
def wCallKw (φ : PF) (n : Nat) (π : List Nat) (wA : PXP) : PX := fun Γ Φ => wA Γ fun Δ Γ1 => Δ.length = n ∧ φ (sel π Δ) fun r => Φ r Γ1
theorem vals_len {xs : List V} {us : List Value} (h : Vals xs us) : xs.length = us.length := by
  induction h with
  | nil => rfl
  | cons _ _ ih => simp [ih]
variable [IK]
theorem xe_callKw {kws : List Keyword} {x : Str} {ps ns : List Str} {π : List Nat} {p pos : Pos} {k : Nat} {f : Addr} {fd : FuncData} {φ : PF} {t : TA} {wA : PXP} (F : FnG X.prog X.w X.K X.mg X.base CX0 k f fd ps (spD X.K IK.ks φ)) (noG : X.A.guards = some []) (room : Room k X.A) (hg : Gl X x) (hm : X.mg x = some (.ref f)) (hk : PySem.W.keepIn X.K (.ref f) = true)
    (hb : BindsKw X.K fd ps ns π) (hA : XK X kws t wA) (hks : (backToKw pos (keywordEach kws X.env)).filterMap (·.1) = ns := by rfl) (hall : (backToKw pos (keywordEach kws X.env)).all (·.1.isSome) = true := by rfl)
    (hdb : (x == ("__debug__" : Str)) = false := by decide) (hpl : ((backTo pos (starEach [] X.env)).any (·.1) || (backToKw pos (keywordEach kws X.env)).any (·.1.isNone)) = false := by rfl) :
    XE X (.Call (.Name x p) [] kws pos) (tCallKw (spD X.K IK.ks φ) ns.length π t) (wCallKw φ ns.length π wA) := by
  obtain ⟨pt, g⟩ := hA
  refine ⟨⟨fun pins s σ H Q I h => ?_⟩, fun C hK n f Γ σ H Q Φ off R w k => ?_⟩
  · refine wpAny_Call_Name_kw (ld_glob I hg hm ?_ hdb)
    refine PySem.W.callWith_KW0 (h₀ := X.base) I.ok.mod.kin hk hall (thn (pt.run pos pins s σ H _ I h) ?_) hpl
    rintro us s2 ⟨vs, H2, I2, rz, hl, q⟩
    refine ⟨I2.kIn, ?_⟩
    rw [hks]
    have bd := hb s2 us ((vals_len rz).symm.trans hl) I2.kIn
    refine wpAny_call (codeAny_mono (F.go X.A X.stack s2 H2 _ (sel π us) (sel π vs) Q (fun _ _ _ => False) noG room I2.env0 bd (vals_sel rz π) q) ?_)
    intro res s' z
    cases res with
    | error err => exact z.elim
    | ok fl =>
      cases fl with
      | ret u => exact I2.after z
      | next => exact z.elim
      | brk => exact z.elim
      | cont => exact z.elim
  · refine g C hK n f Γ σ H _ _ off R w ?_
    rintro Δ xs Γ1 H1 ⟨hl, φ1⟩ R1 pp
    refine ⟨by rw [← pp.len]; exact hl, WE C (ent f Γ1 σ), C.U, sel π Δ, fun r => Φ r Γ1, fun b hb => ?_, fun b hb => .inl (R1.e.uM b hb), by rw [← hK.k, ← hK.i]; exact pp.sel π, φ1, fun r x H' φ2 B => k _ _ _ _ φ2 (R1.back off hK.k hK.i B)⟩
    rcases hb with hb | ⟨j, d, hb⟩
    · exact R1.e.tr _ hb
    · cases R1.e.ok _ _ _ hb with
      | own h => exact h.there
end
end Px
end

/-! PxL -/
section
set_option Elab.async false
set_option linter.all false
set_option maxRecDepth 100000
set_option maxHeartbeats 4000000
set_option autoImplicit false
/-! a, b, c, .. = x, y, z, ..: what is one's own stays so -/
namespace Px
open PySem PySem.Spec PyProof.Rows L2 Dh
def upD (f : Fr) (n : Nat) : List (D × V) → Fr
  | [] => f
  | p :: r => upD (upF f n (some p)) (n + 1) r
def DOs (C : Cc) (t : TA) (w : Env → (List D → Env → Prop) → Prop) : Prop := ∀ (n : Nat) (f : Fr) (Γ : Env) (σ : SS) (H : Hp) (Q : List V → Hp → Prop) (Φ : List D → Env → Prop), Off f n → Rel C f Γ σ H → w Γ Φ →
  (∀ (ps : List (D × V)) Γ' H', Φ (ps.map (·.1)) Γ' → (∀ p ∈ ps, ∀ j, p.1 ≠ .bor j) → Rel C (upD f n ps) Γ' σ H' → Q (ps.map (·.2)) H') → t σ H Q
abbrev PXL := Env → (List D → Env → Prop) → Prop
def XO' (X : Cx) [IK] (es : List Expr) (t : TA) (w : PXL) : Prop := PA X es t ∧ ∀ C : Cc, Cok C X → DOs C t w
def wOn : PXL := fun Γ Φ => Φ [] Γ
def wOc (w : PX) (u : PXL) : PXL := fun Γ Φ => w Γ fun r Γ1 => ∃ r' Γ2, sto Γ1 r = some (r', Γ2) ∧ u Γ2 fun rs Γ3 => Φ (r' :: rs) Γ3
/-- the slots from the last on -/
def setG : List Nat → List D → Env → Env
  | i :: is, r :: rs, Γ => (setG is rs Γ).set i (some r)
  | _, _, Γ => Γ
def setS : List Nat → List V → SS → SS
  | i :: is, x :: xs, σ => (setS is xs σ).set i (some x)
  | _, _, σ => σ
def gNames : List Nat → TGs
  | [] => gNil
  | i :: is => gCons (gName i) (gNames is)
theorem setS_out : ∀ (is : List Nat) (xs : List V) (σ : SS) (i : Nat) (o : Option V), i ∉ is → setS is xs (σ.set i o) = (setS is xs σ).set i o
  | [], _, _, _, _, _ => by simp [setS]
  | j :: is, [], _, _, _, _ => by simp [setS]
  | j :: is, x :: xs, σ, i, o, h => by
    have h1 : j ≠ i := fun z => h (by simp [z])
    have h2 : i ∉ is := fun z => h (List.mem_cons_of_mem _ z)
    show (setS is xs (σ.set i o)).set j (some x) = ((setS is xs σ).set j (some x)).set i o
    rw [setS_out is xs σ i o h2, List.set_comm _ _ h1]
theorem gNames_ok : ∀ (is : List Nat) (xs : List V) (σ : SS) (H : Hp) (Q : SS → Hp → Prop), is.Nodup → xs.length = is.length → Q (setS is xs σ) H → gNames is xs σ H Q
  | [], xs, σ, H, Q, _, hl, h => ⟨List.eq_nil_of_length_eq_zero hl, h⟩
  | i :: is, [], σ, H, Q, _, hl, h => by cases hl
  | i :: is, x :: xs, σ, H, Q, nd, hl, h => by
    obtain ⟨n1, n2⟩ := List.nodup_cons.mp nd
    refine ⟨x, xs, rfl, ?_⟩
    show gNames is xs (σ.set i (some x)) H Q
    refine gNames_ok is xs _ H Q n2 (by simpa using hl) ?_
    rw [setS_out is xs σ i _ n1]; exact h
section
variable {X : Cx} [IK]
theorem xo_nil : XO' X [] tNil wOn := ⟨pa_nil, fun C hK n f Γ σ H Q Φ off R w k => k [] _ _ w (fun _ h => by cases h) R⟩
theorem xo_cons {e : Expr} {es : List Expr} {ta : TE} {tr : TA} {w : PX} {u : PXL} (ha : XE X e ta w) (hr : XO' X es tr u) (hs : starEach (e :: es) X.env = (false, eval e X.env) :: starEach es X.env := by rfl) : XO' X (e :: es) (tCons ta tr) (wOc w u) := by
  obtain ⟨pa, ga⟩ := ha
  obtain ⟨pr, gr⟩ := hr
  refine ⟨pa_cons pa pr hs, fun C hK n f Γ σ H Q Φ off R w k => ga C hK n f Γ σ H _ _ off R w ?_⟩
  rintro r x Γ1 H1 ⟨r', Γ2, hz, φ1⟩ R1
  obtain ⟨R2, nr⟩ := R1.sto off hz
  refine gr C hK (n + 1) _ Γ2 σ H1 _ _ off.up R2 φ1 ?_
  intro ps Γ3 H3 φ3 nb3 R3
  refine k ((r', x) :: ps) Γ3 H3 φ3 ?_ R3
  intro p hp
  rcases List.mem_cons.mp hp with rfl | hp
  · exact nr
  · exact nb3 p hp
theorem upD_nb {f : Fr} (nb : NoBor f) : ∀ (ps : List (D × V)) (n : Nat), (∀ p ∈ ps, ∀ j, p.1 ≠ .bor j) → ∀ (f : Fr), NoBor f → NoBor (upD f n ps)
  | [], _, _, f, h => h
  | p :: ps, n, hp, f, h => by
    refine upD_nb nb ps (n + 1) (fun q hq => hp q (List.mem_cons_of_mem _ hq)) _ fun m i y => ?_
    unfold upF; split
    · intro z
      have : p = (D.bor i, y) := Option.some.inj z
      exact hp p List.mem_cons_self i (by rw [this])
    · exact h m i y
/-- what is held is stored -/
theorem Rel.toSlots {C : Cc} {Γ : Env} {σ : SS} {H : Hp} : ∀ (ps : List (D × V)) (is : List Nat) (f : Fr) (n : Nat), Off f n → NoBor f → (∀ p ∈ ps, ∀ j, p.1 ≠ .bor j) → ps.length = is.length → Rel C (upD f n ps) Γ σ H →
    Rel C f (setG is (ps.map (·.1)) Γ) (setS is (ps.map (·.2)) σ) H
  | [], [], f, n, _, _, _, _, R => R
  | [], _ :: _, _, _, _, _, _, hl, _ => by cases hl
  | _ :: _, [], _, _, _, _, _, hl, _ => by cases hl
  | p :: ps, i :: is, f, n, off, nb, hp, hl, R => by
    have hp' : ∀ q ∈ ps, ∀ j, q.1 ≠ .bor j := fun q hq => hp q (List.mem_cons_of_mem _ hq)
    have nb1 : NoBor (upF f n (some p)) := fun m i y => by
      unfold upF; split
      · intro z
        have : p = (D.bor i, y) := Option.some.inj z
        exact hp p List.mem_cons_self i (by rw [this])
      · exact nb m i y
    have R1 := Rel.toSlots ps is (upF f n (some p)) (n + 1) off.up nb1 hp' (by simpa using hl) R
    exact R1.toSlot' off nb (hp p List.mem_cons_self) i
def wParL (is : List Nat) (w : PXL) : PXS := fun Γ Φ => w Γ fun rs Γ1 => rs.length = is.length ∧ Φ.nx (setG is rs Γ1)
theorem upD_off {f : Fr} {n : Nat} : ∀ {ps : List (D × V)} {Γ : Env} {σ : SS} {H : Hp} {C : Cc}, Rel C (upD f n ps) Γ σ H → True := fun _ => trivial
/-- by way of a tuple -/
theorem xs_parL {tgs es : List Expr} {kt pt k2 pt2} {pos : Pos} {is : List Nat} {ta : TA} {w : PXL} {m : Nat} (hc : X.calm = true) (nd : is.Nodup) (he : XO' X es ta w) (hg : PGs X tgs (gNames is))
    (hm : is.length = m) (hz : m ≤ 30) (h3 : (assignEach tgs X.env).length = m := by rfl) (h4 : (assignEach tgs X.env).findIdx? (·.1) = none := by rfl)
    (hs : swapsWithSole [.Tuple tgs kt pt] (.Tuple es k2 pt2) pos.line X.env = pure false := by rfl) (hw : swappedStores [.Tuple tgs kt pt] (.Tuple es k2 pt2) X.env = pure none := by rfl)
    (h5 : (assignEach [.Tuple tgs kt pt] X.env).map (·.2) = [assign (.Tuple tgs kt pt) X.env] := by rfl) :
    XS X (.Assign [.Tuple tgs kt pt] (.Tuple es k2 pt2) pos) (tAsg (tTup ta) (gTup X.K m (gNames is))) (wParL is w) := by
  refine ⟨ps_asg (pe_tup he.1) (pg_tup hc hg h3 h4) hs hw h5, fun C hK n f Γ σ H D Φ off nb R w F => he.2 C hK n f Γ σ H _ _ off R w ?_⟩
  rintro ps Γ1 H1 ⟨hl, φ1⟩ nbp R1
  have hl' : ps.length = m := by rw [List.length_map] at hl; omega
  refine ⟨by rw [List.length_map, hl']; exact Nat.le_trans hz (by decide), fun p hp => ?_⟩
  have R2 := R1.alloc (o := .tup (ps.map (·.2))) hp
  have R3 := R2.toSlots ps is f n off nb nbp (by omega)
  refine ⟨p, ps.map (·.2), rfl, .inl (.inl upd_same), by rw [List.length_map]; exact hl', ?_⟩
  exact gNames_ok is _ σ _ _ nd (by rw [List.length_map]; omega) (F.nx _ _ _ φ1 R3)
/-- three plain names -/
theorem xs_par3 {i j l : Nat} {x y z : Str} {a b c : Expr} {ta : TA} {w : PXL} {px py pz pt pos : Pos} {kt k2 pt2} (hc : X.calm = true) (hN : X.N.Nodup) (hi : X.N[i]? = some x) (hj : X.N[j]? = some y) (hl : X.N[l]? = some z) (hij : i ≠ j) (hil : i ≠ l) (hjl : j ≠ l)
    (hx : X.env.scope.names.lookup x = some .local) (hy : X.env.scope.names.lookup y = some .local) (hz : X.env.scope.names.lookup z = some .local) (he : XO' X [a, b, c] ta w)
    (hw : swappedStores [.Tuple [.Name x px, .Name y py, .Name z pz] kt pt] (.Tuple [a, b, c] k2 pt2) X.env = pure (some [x, y, z]))
    (hs : swapsWithSole [.Tuple [.Name x px, .Name y py, .Name z pz] kt pt] (.Tuple [a, b, c] k2 pt2) pos.line X.env = pure false := by rfl) :
    XS X (.Assign [.Tuple [.Name x px, .Name y py, .Name z pz] kt pt] (.Tuple [a, b, c] k2 pt2) pos) (tPar3 i j l ta) (wParL [i, j, l] w) := by
  refine ⟨ps_par3 hc hN hi hj hl hij hil hjl hx hy hz he.1 hw hs, fun C hK n f Γ σ H D Φ off nb R w F => he.2 C hK n f Γ σ H _ _ off R w ?_⟩
  rintro ps Γ1 H1 ⟨hl, φ1⟩ nbp R1
  have hl' : ps.length = 3 := by rw [List.length_map] at hl; exact hl
  have R3 := R1.toSlots ps [i, j, l] f n off nb nbp hl'
  match ps, hl' with
  | [p, q, r], _ =>
    refine ⟨p.2, q.2, r.2, rfl, ?_⟩
    have e : setS [i, j, l] ([p, q, r].map (·.2)) σ = ((σ.set i (some p.2)).set j (some q.2)).set l (some r.2) := by
      show ((σ.set l (some r.2)).set j (some q.2)).set i (some p.2) = _
      rw [List.set_comm (i := l) (j := j) _ _ hjl.symm, List.set_comm (i := l) (j := i) _ _ hil.symm, List.set_comm (i := j) (j := i) _ _ hij.symm]
    rw [e] at R3
    exact F.nx _ _ _ φ1 R3
end
end Px
end

/-! PxI -/
section
set_option Elab.async false
set_option linter.all false
set_option maxRecDepth 100000
set_option maxHeartbeats 4000000
set_option autoImplicit false
/-! x in t, where the items are data of any depth -/
namespace Px
open PySem PySem.Spec PyProof.Rows L2 Dh
def rInT (K : PySem.W.Frag) (neg : Bool) : R2 := fun x y H Q => ∃ d ds, Dp K H x d ∧ Dp K H y (.tuple ds) ∧ SeqAt.shaped d = true ∧ SeqAt.shaped (.tuple ds) = true ∧ Q (.bl (if neg then !(ds.any fun z => PyData.eqv z d) else ds.any fun z => PyData.eqv z d)) H
theorem canAll_of {ds : List PyData} (h : SeqAt.shaped (.tuple ds) = true) : PyData.canLayAll0 ds = true := by
  have := SeqAt.canLay_of_shaped h
  simpa [PyData.canLay0] using this
section
variable {X : Cx}
theorem op_inT (hu : X.A.units + 65 < cLine) : OpR X (compareOp .In) (rInT X.K false) := by
  intro pins s σ H x y v u Q I rx ry h
  obtain ⟨d, ds, hd, he, sd, se, q⟩ := h
  obtain ⟨as, r1⟩ := Dp.reads I d x v hd rx
  obtain ⟨bs, r2⟩ := Dp.reads I (.tuple ds) y u he ry
  exact SeqAt.in_tuple_reads r2 r1 (canAll_of se) (SeqAt.canLay_of_shaped sd) (room_in_shaped sd hu) ⟨.bl _, H, I, rfl, q⟩
theorem op_notInT (hu : X.A.units + 65 < cLine) : OpR X (compareOp .NotIn) (rInT X.K true) := by
  intro pins s σ H x y v u Q I rx ry h
  obtain ⟨d, ds, hd, he, sd, se, q⟩ := h
  obtain ⟨as, r1⟩ := Dp.reads I d x v hd rx
  obtain ⟨bs, r2⟩ := Dp.reads I (.tuple ds) y u he ry
  exact SeqAt.notIn_tuple_reads r2 r1 (canAll_of se) (SeqAt.canLay_of_shaped sd) (room_in_shaped sd hu) ⟨.bl _, H, I, rfl, q⟩
end
def pInT (neg : Bool) : PO' | [d, .tuple ds], Ψ => SeqAt.shaped d = true ∧ SeqAt.shaped (.tuple ds) = true ∧ Ψ (.v (.bool (if neg then !(ds.any fun z => PyData.eqv z d) else ds.any fun z => PyData.eqv z d))) | _, _ => False
theorem PInT [IK] {K} {neg : Bool} : PureR2 K (rInT K neg) (pInT neg) := by
  intro W H x y d e Q Ψ hx hy hφ P
  cases e <;> first | exact hφ.elim | skip
  exact ⟨d, _, At.dp0 d (SeqAt.canLay_of_shaped hφ.1) hx.at0, At.dp0 _ (SeqAt.canLay_of_shaped hφ.2.1) hy.at0, hφ.1, hφ.2.1, P.val _ _ hφ.2.2 (.bl _)⟩
def pInL : PO' | [d, .list ds], Ψ => SeqAt.shaped d = true ∧ SeqAt.shaped (.list ds) = true ∧ Ψ (.v (.bool (ds.any fun z => PyData.eqv z d))) | _, _ => False
theorem PInL [IK] {K} : PureR2 K (rInD K) pInL := by
  intro W H x y d e Q Ψ hx hy hφ P
  cases e <;> first | exact hφ.elim | skip
  exact ⟨d, _, At.dp0 d (SeqAt.canLay_of_shaped hφ.1) hx.at0, At.dp0 _ (SeqAt.canLay_of_shaped hφ.2.1) hy.at0, hφ.1, hφ.2.1, P.val _ _ hφ.2.2 (.bl _)⟩
end Px
end

/-! PxM -/
section
set_option Elab.async false
set_option linter.all false
set_option maxRecDepth 100000
set_option maxHeartbeats 4000000
set_option autoImplicit false
/-! int(i), int(b); parts of a text; is (not) True -/
namespace Px
open PySem PySem.Spec PyProof.Rows L2 Dh
section
variable {X : Cx} [IK]
def rInt1 : List V → Hp → VK → Prop := fun xs H Q => (∃ i, xs = [.int i] ∧ Q (.int i) H) ∨ ∃ k, xs = [.bl k] ∧ Q (.int (if k then 1 else 0)) H
theorem cr_int1 : CallR X (.type "int") rInt1 := call_int1
def pInt1 : PO' | [.int i], Ψ => Ψ (.v (.int i)) | [.bool b], Ψ => Ψ (.v (.int (if b then 1 else 0))) | _, _ => False
theorem PInt1 : PureR X.K rInt1 pInt1 := by
  intro W H xs ds Q Ψ rv hφ P
  match ds, rv, hφ with
  | [d], rv, hφ =>
    obtain ⟨x, rfl, h1⟩ := rv.one
    cases d <;> first | exact hφ.elim | skip
    · obtain rfl := h1.bool
      exact .inr ⟨_, rfl, P.val _ _ hφ (.int _)⟩
    · obtain rfl := h1.int
      exact .inl ⟨_, rfl, P.val _ _ hφ (.int _)⟩
  | [], _, h => exact h.elim
  | _ :: _ :: _, _, h => exact absurd h (by simp [pInt1])
def pSlS : PS' | .str z, lo, hi, Ψ => z.length ≤ sizeLine ∧ Ψ (.v (.str (cutS z lo hi))) | _, _, _, _ => False
theorem PSlS {K} : PureS K rSlS pSlS := by
  intro W H x d lo hi Q Ψ rv hφ P
  cases d <;> first | exact hφ.elim | skip
  exact ⟨_, rv.str, hφ.1, P.val _ _ hφ.2 (.str _)⟩
def pIsB : PO' | [.bool a, .bool b], Ψ => Ψ (.v (.bool (decide (a = b)))) | _, _ => False
def pNotB : PO' | [.bool a, .bool b], Ψ => Ψ (.v (.bool (!decide (a = b)))) | _, _ => False
theorem PIsB {K} : PureR2 K rIsB pIsB := by
  intro W H x y d e Q Ψ hx hy hφ P
  cases d <;> first | exact hφ.elim | skip
  cases e <;> first | exact hφ.elim | skip
  exact ⟨_, _, hx.bool, hy.bool, P.val _ _ hφ (.bl _)⟩
theorem PNotB {K} : PureR2 K rNotB pNotB := by
  intro W H x y d e Q Ψ hx hy hφ P
  cases d <;> first | exact hφ.elim | skip
  cases e <;> first | exact hφ.elim | skip
  exact ⟨_, _, hx.bool, hy.bool, P.val _ _ hφ (.bl _)⟩
end
end Px
end

/-! PxF -/
section
set_option Elab.async false
set_option linter.all false
set_option maxRecDepth 100000
set_option maxHeartbeats 4000000
set_option autoImplicit false
/-! comprehensions with a test; data that can be compared -/
namespace Px
open PySem PySem.Spec PyProof.Rows L2 Dh
/-- [F d for d in ds if p d] -/
theorem comp_fm {vs : List Nat} {g : PG'} {tt : PXT} {te : PX} {G : Env → Prop} {Φ : List PyData → Env → Prop} {Γ : Env} {ds : List PyData} (p : PyData → Bool) (F : PyData → PyData) (hw : wipeG Γ vs = Γ) (hG : G Γ) (hl : ds.length ≤ sizeLine)
    (step : ∀ d ∈ ds, ∀ (N1 : PyData → Env → Prop) (N0 : Env → Prop), (p d = true → ∀ Γ4, wipeG Γ4 vs = Γ → N1 (F d) Γ4) → (p d = false → ∀ Γ4, wipeG Γ4 vs = Γ → N0 Γ4) →
      g d Γ fun Γ1 => tt Γ1 fun b Γ2 => (b = true → te Γ2 fun r Γ3 => ∃ y Γ4, frz Γ3 r = some (y, Γ4) ∧ N1 y Γ4) ∧ (b = false → N0 Γ2))
    (fin : Φ ((ds.filter p).map F) Γ) : compW vs g tt te G ds [] Γ Φ := by
  refine comp_inv (fun r acc Γ' => Γ' = Γ ∧ ∃ done, ds = done ++ r ∧ acc = (done.filter p).map F) ?_ ?_ ds [] Γ ⟨rfl, [], rfl, rfl⟩
  · rintro d r acc Γ' N ⟨rfl, done, e, rfl⟩ hN
    refine ⟨hG, ?_, ?_⟩
    · have h1 : ((done.filter p).map F).length ≤ done.length := by rw [List.length_map]; exact List.length_filter_le _ _
      have h2 : ds.length = done.length + r.length + 1 := by rw [e]; simp; omega
      omega
    · rw [hw]
      refine step d (by rw [e]; simp) (fun y Γ4 => N ((done.filter p).map F ++ [y]) (wipeG Γ4 vs)) (fun Γ4 => N ((done.filter p).map F) (wipeG Γ4 vs)) (fun hp Γ4 h4 => ?_) (fun hp Γ4 h4 => ?_)
      · refine hN _ _ ⟨h4, done ++ [d], by rw [e]; simp, ?_⟩
        rw [List.filter_append, List.filter_cons_of_pos hp]; simp
      · refine hN _ _ ⟨h4, done ++ [d], by rw [e]; simp, ?_⟩
        rw [List.filter_append, List.filter_cons_of_neg (by simp [hp])]; simp
  · rintro acc Γ' ⟨rfl, done, e, rfl⟩
    rw [List.append_nil] at e
    subst e
    exact ⟨hG, fin⟩
/-- the same where the comprehension's own slots may hold something before -/
theorem comp_fmW {vs : List Nat} {g : PG'} {tt : PXT} {te : PX} {G : Env → Prop} {Φ : List PyData → Env → Prop} {Γ : Env} {ds : List PyData} (p : PyData → Bool) (F : PyData → PyData) (hw : wipeG (wipeG Γ vs) vs = wipeG Γ vs) (hG : G Γ) (hG2 : G (wipeG Γ vs)) (hl : ds.length ≤ sizeLine)
    (step : ∀ d ∈ ds, ∀ (N1 : PyData → Env → Prop) (N0 : Env → Prop), (p d = true → ∀ Γ4, wipeG Γ4 vs = wipeG Γ vs → N1 (F d) Γ4) → (p d = false → ∀ Γ4, wipeG Γ4 vs = wipeG Γ vs → N0 Γ4) →
      g d (wipeG Γ vs) fun Γ1 => tt Γ1 fun b Γ2 => (b = true → te Γ2 fun r Γ3 => ∃ y Γ4, frz Γ3 r = some (y, Γ4) ∧ N1 y Γ4) ∧ (b = false → N0 Γ2))
    (fin : ∀ Γ', (Γ' = Γ ∨ Γ' = wipeG Γ vs) → Φ ((ds.filter p).map F) Γ') : compW vs g tt te G ds [] Γ Φ := by
  refine comp_inv (fun r acc Γ' => (Γ' = Γ ∨ Γ' = wipeG Γ vs) ∧ ∃ done, ds = done ++ r ∧ acc = (done.filter p).map F) ?_ ?_ ds [] Γ ⟨.inl rfl, [], rfl, rfl⟩
  · rintro d r acc Γ' N ⟨hΓ, done, e, rfl⟩ hN
    have hw' : wipeG Γ' vs = wipeG Γ vs := by
      rcases hΓ with rfl | rfl
      · rfl
      · exact hw
    refine ⟨by rcases hΓ with rfl | rfl <;> assumption, ?_, ?_⟩
    · have h1 : ((done.filter p).map F).length ≤ done.length := by rw [List.length_map]; exact List.length_filter_le _ _
      have h2 : ds.length = done.length + r.length + 1 := by rw [e]; simp; omega
      omega
    · rw [hw']
      refine step d (by rw [e]; simp) (fun y Γ4 => N ((done.filter p).map F ++ [y]) (wipeG Γ4 vs)) (fun Γ4 => N ((done.filter p).map F) (wipeG Γ4 vs)) (fun hp Γ4 h4 => ?_) (fun hp Γ4 h4 => ?_)
      · refine hN _ _ ⟨.inr h4, done ++ [d], by rw [e]; simp, ?_⟩
        rw [List.filter_append, List.filter_cons_of_pos hp]; simp
      · refine hN _ _ ⟨.inr h4, done ++ [d], by rw [e]; simp, ?_⟩
        rw [List.filter_append, List.filter_cons_of_neg (by simp [hp])]; simp
  · rintro acc Γ' ⟨hΓ, done, e, rfl⟩
    rw [List.append_nil] at e
    subst e
    exact ⟨by rcases hΓ with rfl | rfl <;> assumption, fin _ hΓ⟩
/-- the same, with whatever stays of the slots: E -/
theorem comp_fmE {vs : List Nat} {g : PG'} {tt : PXT} {te : PX} {G : Env → Prop} {Φ : List PyData → Env → Prop} {Γ : Env} {ds : List PyData} (E : Env → Prop) (p : PyData → Bool) (F : PyData → PyData) (h0 : E Γ) (hG : ∀ Γ', E Γ' → G Γ') (hl : ds.length ≤ sizeLine)
    (step : ∀ d ∈ ds, ∀ Γ', E Γ' → ∀ (N1 : PyData → Env → Prop) (N0 : Env → Prop), (p d = true → ∀ Γ4, E (wipeG Γ4 vs) → N1 (F d) Γ4) → (p d = false → ∀ Γ4, E (wipeG Γ4 vs) → N0 Γ4) →
      g d (wipeG Γ' vs) fun Γ1 => tt Γ1 fun b Γ2 => (b = true → te Γ2 fun r Γ3 => ∃ y Γ4, frz Γ3 r = some (y, Γ4) ∧ N1 y Γ4) ∧ (b = false → N0 Γ2))
    (fin : ∀ Γ', E Γ' → Φ ((ds.filter p).map F) Γ') : compW vs g tt te G ds [] Γ Φ := by
  refine comp_inv (fun r acc Γ' => E Γ' ∧ ∃ done, ds = done ++ r ∧ acc = (done.filter p).map F) ?_ ?_ ds [] Γ ⟨h0, [], rfl, rfl⟩
  · rintro d r acc Γ' N ⟨hΓ, done, e, rfl⟩ hN
    refine ⟨hG _ hΓ, ?_, ?_⟩
    · have h1 : ((done.filter p).map F).length ≤ done.length := by rw [List.length_map]; exact List.length_filter_le _ _
      have h2 : ds.length = done.length + r.length + 1 := by rw [e]; simp; omega
      omega
    · refine step d (by rw [e]; simp) Γ' hΓ (fun y Γ4 => N ((done.filter p).map F ++ [y]) (wipeG Γ4 vs)) (fun Γ4 => N ((done.filter p).map F) (wipeG Γ4 vs)) (fun hp Γ4 h4 => ?_) (fun hp Γ4 h4 => ?_)
      · refine hN _ _ ⟨h4, done ++ [d], by rw [e]; simp, ?_⟩
        rw [List.filter_append, List.filter_cons_of_pos hp]; simp
      · refine hN _ _ ⟨h4, done ++ [d], by rw [e]; simp, ?_⟩
        rw [List.filter_append, List.filter_cons_of_neg (by simp [hp])]; simp
  · rintro acc Γ' ⟨hΓ, done, e, rfl⟩
    rw [List.append_nil] at e
    subst e
    exact ⟨hG _ hΓ, fin _ hΓ⟩
/-- sorted({F d for d in ds if p d}) -/
theorem compI_fm {vs : List Nat} {g : PG'} {tt : PXT} {te : PX} {G : Env → Prop} {Φ : List Int → Env → Prop} {Γ : Env} {ds : List PyData} (p : PyData → Bool) (F : PyData → Int) (hw : wipeG Γ vs = Γ) (hG : G Γ) (hl : ds.length ≤ 60)
    (step : ∀ d ∈ ds, ∀ (N1 : D → Env → Prop) (N0 : Env → Prop), (p d = true → ∀ Γ4, wipeG Γ4 vs = Γ → N1 (.v (.int (F d))) Γ4) → (p d = false → ∀ Γ4, wipeG Γ4 vs = Γ → N0 Γ4) →
      g d Γ fun Γ1 => tt Γ1 fun b Γ2 => (b = true → te Γ2 N1) ∧ (b = false → N0 Γ2))
    (mono : ∀ (N N' : D → Env → Prop) (Γ2 : Env), (∀ r Γ3, N r Γ3 → N' r Γ3) → te Γ2 N → te Γ2 N')
    (fin : Φ ((ds.filter p).map F) Γ) : compI vs g tt te G ds [] Γ Φ := by
  have main : ∀ (r done : List PyData), ds = done ++ r → compI vs g tt te G r ((done.filter p).map F) Γ Φ := by
    intro r
    induction r with
    | nil =>
      intro done e
      rw [List.append_nil] at e
      subst e
      exact ⟨hG, fin⟩
    | cons d r ih =>
      intro done e
      refine ⟨hG, ?_, ?_⟩
      · have h1 : ((done.filter p).map F).length ≤ done.length := by rw [List.length_map]; exact List.length_filter_le _ _
        have h2 : ds.length = done.length + r.length + 1 := by rw [e]; simp; omega
        omega
      · rw [hw]
        refine step d (by rw [e]; simp) (fun r Γ3 => ∃ k : Int, r = .v (.int k) ∧ compI vs g tt te G _ ((done.filter p).map F ++ [k]) (wipeG Γ3 vs) Φ) (fun Γ4 => compI vs g tt te G r ((done.filter p).map F) (wipeG Γ4 vs) Φ) (fun hp Γ4 h4 => ⟨_, rfl, ?_⟩) (fun hp Γ4 h4 => ?_)
        · have := ih (done ++ [d]) (by rw [e]; simp)
          rw [List.filter_append, List.filter_cons_of_pos hp] at this
          rw [h4]
          simpa using this
        · have := ih (done ++ [d]) (by rw [e]; simp)
          rw [List.filter_append, List.filter_cons_of_neg (by simp [hp])] at this
          rw [h4]
          simpa using this
  simpa using main ds [] rfl
/-! ### data that can be compared -/
theorem canAll {ds : List PyData} (h : ∀ d ∈ ds, d.canLay0 = true) : PyData.canLayAll0 ds = true := by
  induction ds with
  | nil => simp [PyData.canLayAll0]
  | cons d r ih => simp [PyData.canLayAll0, h d List.mem_cons_self, ih fun x hx => h x (List.mem_cons_of_mem _ hx)]
theorem depAll {ds : List PyData} {n : Nat} (h : ∀ d ∈ ds, d.depth ≤ n) : PyData.depthAll ds ≤ n := by
  induction ds with
  | nil => simp [PyData.depthAll]
  | cons d r ih =>
    have h1 := h d List.mem_cons_self
    have h2 := ih fun x hx => h x (List.mem_cons_of_mem _ hx)
    simp only [PyData.depthAll]; omega
/-- laid out, and not deeper than n -/
def Flat (n : Nat) (d : PyData) : Prop := d.canLay0 = true ∧ d.depth ≤ n
theorem Flat.int (i : Int) {n : Nat} : Flat n (.int i) := ⟨by simp [PyData.canLay0], by simp [PyData.depth]⟩
theorem Flat.str {i : Str} {n : Nat} (h : PyData.strOk i = true) : Flat n (.str i) := ⟨by simpa [PyData.canLay0] using h, by simp [PyData.depth]⟩
theorem Flat.bool (i : Bool) {n : Nat} : Flat n (.bool i) := ⟨by simp [PyData.canLay0], by simp [PyData.depth]⟩
theorem Flat.non {n : Nat} : Flat n .none := ⟨by simp [PyData.canLay0], by simp [PyData.depth]⟩
theorem Flat.tup {ds : List PyData} {n : Nat} (h : ∀ d ∈ ds, Flat n d) : Flat (n + 1) (.tuple ds) :=
  ⟨by simpa [PyData.canLay0] using canAll fun d hd => (h d hd).1, by have := depAll fun d hd => (h d hd).2; simp only [PyData.depth]; omega⟩
theorem Flat.lst {ds : List PyData} {n : Nat} (h : ∀ d ∈ ds, Flat n d) : Flat (n + 1) (.list ds) :=
  ⟨by simpa [PyData.canLay0] using canAll fun d hd => (h d hd).1, by have := depAll fun d hd => (h d hd).2; simp only [PyData.depth]; omega⟩
theorem Flat.le {d : PyData} {m n : Nat} (h : Flat m d) (l : m ≤ n) : Flat n d := ⟨h.1, Nat.le_trans h.2 l⟩
theorem Flat.ok {d : PyData} {n : Nat} (h : Flat n d) (l : n ≤ 64) : SeqAt.shaped d = true := by
  unfold SeqAt.shaped
  rw [h.1, decide_eq_true (Nat.le_trans h.2 l)]; rfl
theorem eqv_nilL (ds : List PyData) : PyData.eqv (.list ds) (.list []) = ds.isEmpty := by
  cases ds <;> simp [PyData.eqv, PyData.eqvAll]
theorem eqv_nilT (ds : List PyData) : PyData.eqv (.tuple ds) (.tuple []) = ds.isEmpty := by
  cases ds <;> simp [PyData.eqv, PyData.eqvAll]
end Px
end

/-! PxE -/
section
set_option Elab.async false
set_option linter.all false
set_option maxRecDepth 100000
set_option maxHeartbeats 4000000
set_option autoImplicit false
/-! enumerate of a text -/
namespace Px
open PySem PySem.Spec PyProof.Rows L2 Dh
def IteS (z : Str) : It :=
  ⟨fun i _ => i < z.cps.size, fun i H v H' => ∃ T c, v = .ref T ∧ H T = none ∧ z.cps[i]? = some c ∧ H' = upd H T (.tup [.int (i : Nat), .str ⟨#[c]⟩]), fun i _ => z.cps.size ≤ i⟩
theorem enumS_end {prog : Program} {w : World} {A : Around} {E : Value → Shared → Prop} {s : Shared} {e it : Addr} {x : Str} {t : Tok} {k : Int} {old : Value} {Q : Option Value → Shared → Prop} (hh : A.handled = none)
    (he : IsEnum s.heap e it k old) (hit : s.heap.IsStrIter it (strIterType x) x t x.cps.size) (hQ : ∀ h', Heap.ExtBut it s.heap h' → Q none { s with heap := h' }) : wpAny (model prog w) A (pyNext (.ref e)) Q E s := by
  have hT : s.TypeIs (.ref e) "enumerate" := ⟨_, he, rfl⟩
  have D := Draws.text (prog := prog) (w := w) (A := A.in1) hh it x t
  unfold pyNext
  refine wpAny_bind (wpAny_attempt (wpAny_callSpecial?_slot (name := Str.ofString "__next__") hT F.slot_enumerate_next
    (wpAny_call_entry F.slot_enumerate_next hT F.entry_enumerate_next ?_ (F.args_enumerate_next_1 _))))
  show wpAny _ _ (field (.ref e) 2 >>= _) _ _ _
  refine wpAny_bind (wpAny_field he rfl (x := .ref it) rfl ?_)
  refine wpAny_bind (D.done s _ _ hit fun h' y he' hx' => ?_)
  obtain ⟨o, ho, hc⟩ := hx'
  refine wpAny_bind (wpAny_isInstance (T := "StopIteration") (b := true) ⟨o, ho, hc⟩ isSubtype_stop ?_)
  exact wpAny_pure (hQ _ he')
theorem turn_enumS {P : Program} {w : World} {K : PySem.W.Frag} {elts : List Expr} {kk : Nat} {tpos : Pos} (z : Str) (t : Tok) (e it : Addr) :
    Turn P w K (.Tuple elts kk tpos) (IteS z) [e, it] e (fun i h => (∃ old, IsEnum h e it ((i : Nat) : Int) old) ∧ h.IsStrIter it (strIterType z) z t i ∧ i ≤ z.cps.size ∧ e ≠ it) where
  mem := by simp
  obj := fun i h st b hb => by
    obtain ⟨⟨old, he⟩, ⟨o, ho, hc, hd⟩, _⟩ := st
    have e' : b = e ∨ b = it := by simpa using hb
    rcases e' with q | q
    · rw [q]; exact ⟨_, he, fun v q => nomatch q⟩
    · rw [q]; exact ⟨o, ho, fun v q => by rw [hd] at q; cases q⟩
  keep := fun i h h' st k => by
    obtain ⟨⟨old, he⟩, ⟨o, ho, r⟩, hne⟩ := st
    exact ⟨⟨old, k e (by simp) _ he⟩, ⟨o, k it (by simp) o ho, r⟩, hne⟩
  item := by
    intro X hP hw hK hc i pins s σ H E I hf st hg
    subst hP hw hK
    obtain ⟨⟨old, he⟩, hit, hi, hne⟩ := st
    have hel : e < s.heap.objs.size := Heap.lt_size he
    have hil : it < s.heap.objs.size := by obtain ⟨_, q, _⟩ := hit; exact Heap.lt_size q
    have D := Draws.text (prog := X.prog) (w := X.w) (A := X.A.in1) (show X.A.in1.handled = none from I.ok.hd hc) it z t
    refine wpAny_pyNext_enum_itemC D he hit hg hne (by simp [hne]) fun v h' tk hP ho hs' hT hsz hk => ?_
    obtain ⟨c, u, hcx, rfl⟩ := hP
    refine ⟨_, rfl, wpAny_letOwnedTupleGo_enum (s := { s with heap := h', toks := tk + 1 }) ho fun h'' he' sb => ?_⟩
    have hT2 : h''.get? s.heap.objs.size = some { cls := .type "tuple", data := .seq #[.int i tk, .str ⟨#[c]⟩ u] } := (sb.2 _ (Nat.ne_of_gt hel)).trans hT
    have new : ObjOk X.prog X.w (upd H s.heap.objs.size (.tup [.int (i : Nat), .str ⟨#[c]⟩])) h'' s.heap.objs.size (.tup [.int (i : Nat), .str ⟨#[c]⟩]) :=
      ⟨by show 2 ≤ sizeLine; decide, [.int i tk, .str ⟨#[c]⟩ u], .cons ⟨_, rfl⟩ (.cons ⟨_, rfl⟩ .nil), ⟨_, hT2, rfl, _, rfl⟩⟩
    have I1 : Inv X pins σ (upd H s.heap.objs.size (.tup [.int (i : Nat), .str ⟨#[c]⟩])) { s with heap := h'', toks := tk + 1 } :=
      I.turnedNew (ch := [e, it]) (fun b ob hb q => (sb.2 b (fun z => hb (by simp [z]))).trans (hk b ob (fun z => hb (by simp [z])) (fun z => hb (by simp [z])) q)) hf (Nat.le_refl _) new
    refine ⟨.ref s.heap.objs.size, _, I1, rfl, ⟨_, c, rfl, I.hok.fresh (Nat.le_refl _), hcx, rfl⟩, ⟨⟨.str ⟨#[c]⟩ u, ?_⟩, ?_, hg, hne⟩, fun b hb => ?_⟩
    · have e1 : ((i + 1 : Nat) : Int) = (i : Int) + 1 := by omega
      rw [e1]; exact he'
    · obtain ⟨o, ho2, r⟩ := hs'
      exact ⟨o, (sb.2 it (Ne.symm hne)).trans ho2, r⟩
    · have hb' : b < s.heap.objs.size := by
        have e' : b = e ∨ b = it := by simpa using hb
        rcases e' with q | q
        · rw [q]; exact hel
        · rw [q]; exact hil
      rw [upd_ne (Nat.ne_of_lt hb')]
      exact (hf b hb).1
  done := by
    intro X hP hw hK hc i pins s σ H E I hf st hg
    subst hP hw hK
    obtain ⟨⟨old, he⟩, hit, hi, hne⟩ := st
    obtain rfl : i = z.cps.size := Nat.le_antisymm hi hg
    obtain ⟨f0, f1, f2, f3, f4, f5⟩ := hf it (by simp)
    exact enumS_end (I.ok.hd hc) he hit fun h' eb => ⟨rfl, I.turned (t' := s.toks) (fun b o hb q => eb b o hb q) f0 f1 f3 f4 f5⟩
  self := fun A i s Q E st h => by
    obtain ⟨⟨_, he⟩, _⟩ := st
    exact wpAny_pyIter_enum he h
theorem call_enumS {prog : Program} {w : World} {A : Around} {E : Value → Shared → Prop} {s : Shared} {z : Str} {t : Tok} {Q : Value → Shared → Prop}
    (h : ∀ h', IsEnum h' (s.heap.objs.size + 1) s.heap.objs.size 0 .none → h'.IsStrIter s.heap.objs.size (strIterType z) z t 0 → h'.objs.size = s.heap.objs.size + 2 →
      (∀ b o, s.heap.get? b = some o → h'.get? b = some o) → Q (.ref (s.heap.objs.size + 1)) { s with heap := h' }) :
    wpAny (model prog w) A (call (.type "enumerate") [.str z t]) Q E s := by
  refine callType_new F.called_enumerate (by decide) (F.typeCall_enumerate_1 _) (F.newCall_enumerate_1 _) (fun obj => F.args_object_init_2 obj _) F.entry_enumerate_new
    (newE (begins_text z t)) ⟨trivial, ?_⟩
  have hz : (s.heap.push { cls := .type (strIterType z), data := .fields #[.str z t, .int 0 0] }).objs.size = s.heap.objs.size + 1 := Heap.size_push ..
  show _ ∧ _
  rw [hz]
  have he : IsEnum ((s.heap.push { cls := .type (strIterType z), data := .fields #[.str z t, .int 0 0] }).push
      { cls := .type "enumerate", data := .fields #[.none, .bool false, .ref s.heap.objs.size, rawInt 0, .none, .none] }) (s.heap.objs.size + 1) s.heap.objs.size 0 .none := by
    have := Heap.get?_push_size (s.heap.push { cls := .type (strIterType z), data := .fields #[.str z t, .int 0 0] })
      (o := { cls := .type "enumerate", data := .fields #[.none, .bool false, .ref s.heap.objs.size, rawInt 0, .none, .none] }) rfl
    rw [hz] at this; exact this
  refine ⟨⟨_, he, rfl⟩, h _ he ⟨_, Heap.get?_push_of_some _ (Heap.get?_push_size _ rfl), rfl, rfl⟩ (by rw [Heap.size_push, hz]) fun b o x => Heap.get?_push_of_some _ (Heap.get?_push_of_some _ x)⟩
def iEnumS (ta : TA) : TI := fun σ H R => ta σ H fun vs H1 => ∃ z, vs = [.str z] ∧ R (IteS z) H1
theorem pi_enumS {X : Cx} {e : Expr} {ta : TA} {p pos tpos : Pos} {elts : List Expr} {kk : Nat} (hg : Gl X "enumerate") (hm : X.mg "enumerate" = none) (ha : PA X [e] ta) (hs : starEach [e] X.env = [(false, eval e X.env)] := by rfl) :
    PI X (.Tuple elts kk tpos) (.Call (.Name "enumerate" p) [e] [] pos) (iEnumS ta) := by
  refine ⟨fun pins s σ H R I h => ?_⟩
  refine Call_ (ld_blt I hg hm boot_enumerate (PyProof.Rows.callWith_type1 (thn (ha.run pos pins s σ H _ I h) ?_) hs rfl))
  rintro us s1 ⟨vs, H1, I1, r1, z, rfl, q⟩
  cases r1 with
  | cons r rr =>
    cases rr
    obtain ⟨t, rfl⟩ := r
    refine call_enumS fun h' he hit hsz hk => wpAny_pyIter_enum he ?_
    have I2 : Inv X pins σ H1 { s1 with heap := h' } := I1.kept (t' := s1.toks) hk
    refine ⟨s1.heap.objs.size + 1, [s1.heap.objs.size + 1, s1.heap.objs.size], _, _, H1, rfl, I2, turn_enumS z t (s1.heap.objs.size + 1) s1.heap.objs.size, ⟨⟨.none, he⟩, hit, Nat.zero_le _, Nat.succ_ne_self _⟩, fun b hb => ?_, q⟩
    have e' : b = s1.heap.objs.size + 1 ∨ b = s1.heap.objs.size := by simpa using hb
    have hle : s1.heap.objs.size ≤ b := by
      rcases e' with q | q
      · rw [q]; exact Nat.le_add_right _ _
      · rw [q]; exact Nat.le_refl _
    exact I1.fpOk hle (I1.hok.fresh hle)
section
variable {C : Cc} {Hd : Fr → Prop} {G : Env → Prop} [IK]
theorem strD_get (z : Str) (i : Nat) : (strD z)[i]? = (z.cps[i]?).map fun c => .str ⟨#[c]⟩ := by
  unfold strD
  rw [List.getElem?_map, Array.getElem?_toList]
theorem strD_len (z : Str) : (strD z).length = z.cps.size := by
  unfold strD
  rw [List.length_map, Array.length_toList]
theorem itok_enumS {z : Str} : ItOk C Hd G (IteS z) (enumFrom 0 (strD z)) where
  go g Γ σ H i hg hG R lt := by
    rw [enum_len, strD_len] at lt
    exact lt
  stop g Γ σ H i hg hG R ge := by
    rw [enum_len, strD_len] at ge
    exact ge
  yld g Γ σ H i d x H' hg hG R hd y := by
    rw [enum_get, strD_get] at hd
    obtain ⟨T, c, rfl, hT, hc, rfl⟩ := y
    rw [hc] at hd; cases hd
    refine ⟨.inr ⟨_, _, hT, rfl⟩, .tup upd_same (R.e.fresh hT).1 (.cons ?_ (.cons (.str _) .nil))⟩
    rw [Nat.zero_add]
    exact .int _
end
section
variable {X : Cx} [IK]
theorem xi_enumS {e : Expr} {t : TE} {w : PX} {p pos tpos : Pos} {elts : List Expr} {kk : Nat} (hg : Gl X "enumerate") (hm : X.mg "enumerate" = none) (h : XE X e t w) (hs : starEach [e] X.env = [(false, eval e X.env)] := by rfl) :
    XI X (.Tuple elts kk tpos) (.Call (.Name "enumerate" p) [e] [] pos) (iEnumS (tCons t tNil)) (fun Γ Φ => w Γ fun r Γ1 => ∃ z, res Γ1 r = some (.str z) ∧ Φ (enumFrom 0 (strD z)) Γ1) := by
  obtain ⟨pp, g⟩ := h
  refine ⟨pi_enumS hg hm (pa_cons pp pa_nil (hs.trans rfl)) hs, fun C hK n f Γ σ H R Φ off Re w k => g C hK n f Γ σ H _ _ off Re w ?_⟩
  rintro r x Γ1 H1 ⟨z, hz, φ⟩ R1
  have e := (R1.rv (k := .inl n) ent_held hz).str
  subst e
  refine ⟨z, rfl, ?_⟩
  exact k _ _ _ _ n f (fun _ => True) φ (Nat.le_refl _) off (fun _ _ => rfl) (fun m i y hm z => by rw [off m hm] at z; cases z) (R1.drop off) trivial (fun _ _ _ _ => trivial) itok_enumS
theorem xc_enumS {e : Expr} {t : TE} {w : PX} {p pos tpos : Pos} {elts : List Expr} {kk : Nat} (hg : Gl X "enumerate") (hm : X.mg "enumerate" = none) (h : XE X e t w) (hs : starEach [e] X.env = [(false, eval e X.env)] := by rfl) :
    XIc X (.Tuple elts kk tpos) (.Call (.Name "enumerate" p) [e] [] pos) (iEnumS (tCons t tNil)) (fun Γ Φ => w Γ fun r Γ1 => ∃ z, res Γ1 r = some (.str z) ∧ Φ (enumFrom 0 (strD z)) (fun _ => True) Γ1) :=
  xc_of (xi_enumS hg hm h hs)
end
end Px
end

/-! PxW -/
section
set_option Elab.async false
set_option linter.all false
set_option maxRecDepth 100000
set_option maxHeartbeats 4000000
/-! how long the text of data is: at most b signs, at most k deep -/
namespace Px
open PySem PySem.Spec PyProof.Rows L2 Dh
structure Ls (b k : Nat) (e : PyData) : Prop where
  s : e.showable = true
  l : e.shown.length ≤ b
  d : e.depth ≤ k
structure LsA (b k : Nat) (ds : List PyData) : Prop where
  s : PyData.showableAll ds = true
  l : ((PyData.shownAll ds).map (·.length)).sum ≤ b
  d : PyData.depthAll ds ≤ k
theorem Ls.more {b b' k k' : Nat} {d : PyData} (h : Ls b k d) (e : b ≤ b') (e2 : k ≤ k') : Ls b' k' d := ⟨h.s, Nat.le_trans h.l e, Nat.le_trans h.d e2⟩
theorem LsA.nil {k : Nat} : LsA 0 k [] := ⟨rfl, Nat.le_refl _, Nat.zero_le _⟩
theorem LsA.cons {a b k : Nat} {d : PyData} {ds : List PyData} (h : Ls a k d) (r : LsA b k ds) : LsA (a + b) k (d :: ds) := by
  refine ⟨?_, ?_, ?_⟩
  · simp only [PyData.showableAll, h.s, r.s, Bool.and_self]
  · simp only [PyData.shownAll, List.map_cons, List.sum_cons]
    have := h.l; have := r.l; omega
  · simp only [PyData.depthAll]
    have := h.d; have := r.d; omega
theorem LsA.all {b k : Nat} : ∀ {ds : List PyData}, (∀ d ∈ ds, Ls b k d) → LsA (ds.length * b) k ds
  | [], _ => by simpa using LsA.nil
  | d :: ds, h => by
    have := LsA.cons (h d List.mem_cons_self) (LsA.all fun e he => h e (List.mem_cons_of_mem _ he))
    rw [show (d :: ds).length * b = b + ds.length * b by rw [List.length_cons, Nat.add_mul, Nat.one_mul, Nat.add_comm]]
    exact this
theorem shownAll_len : ∀ ds : List PyData, (PyData.shownAll ds).length = ds.length
  | [] => rfl
  | _ :: r => by simp only [PyData.shownAll, List.length_cons, shownAll_len r]
theorem LsA.tup {b k : Nat} {ds : List PyData} (h : LsA b k ds) : Ls (b + 2 * ds.length + 3) (k + 1) (.tuple ds) := by
  have e : (PyData.tuple ds).shown = tupleText (PyData.shownAll ds) := by simp only [PyData.shown]
  refine ⟨by simp only [PyData.showable]; exact h.s, ?_, by simp only [PyData.depth]; have := h.d; omega⟩
  rw [e]
  have := tupleText_len_le (PyData.shownAll ds)
  rw [shownAll_len] at this
  have := h.l
  omega
theorem LsA.lst {b k : Nat} {ds : List PyData} (h : LsA b k ds) : Ls (b + 2 * ds.length + 3) (k + 1) (.list ds) := by
  have e : (PyData.list ds).shown = listText (PyData.shownAll ds) := by simp only [PyData.shown]
  refine ⟨by simp only [PyData.showable]; exact h.s, ?_, by simp only [PyData.depth]; have := h.d; omega⟩
  rw [e]
  have := listText_len_le (PyData.shownAll ds)
  rw [shownAll_len] at this
  have := h.l
  omega
theorem Ls.int {i : Int} (h : i.natAbs < 10 ^ 13) : Ls 14 0 (.int i) := by
  have e : (PyData.int i).shown = Str.ofString (toString i) := by simp only [PyData.shown]
  have lg : i.natAbs.log2 < 1920 := by
    by_cases z : i.natAbs = 0
    · rw [z]; decide
    · exact Nat.lt_of_lt_of_le ((Nat.log2_lt z).mpr (show i.natAbs < 2 ^ 44 from Nat.lt_trans h (by decide))) (by decide)
  refine ⟨by simp only [PyData.showable]; exact decide_eq_true lg, ?_, by simp only [PyData.depth]; omega⟩
  rw [e]
  have := int_text_length_le10 (a := i) (k := 13) (by decide) h
  rw [show (Str.ofString (toString i)).length = (toString i).length from PySem.ofString_length _]
  exact this
theorem Ls.ok {b k : Nat} {d : PyData} (h : Ls b k d) (hb : b ≤ 1000000) (hk : k ≤ 60) : d.showable = true ∧ d.depth ≤ 60 ∧ d.shown.length ≤ sizeLine := ⟨h.s, Nat.le_trans h.d hk, Nat.le_trans h.l (Nat.le_trans hb (by decide))⟩
/-- a row of like things -/
theorem Ls.rowT {b k n m : Nat} {ds : List PyData} (h : ∀ d ∈ ds, Ls b k d) (hn : ds.length ≤ n) (hm : n * (b + 2) + 3 ≤ m) : Ls m (k + 1) (.tuple ds) := by
  have a := (LsA.all h).tup
  refine a.more ?_ (Nat.le_refl _)
  have : ds.length * b ≤ n * b := Nat.mul_le_mul_right b hn
  rw [Nat.mul_add] at hm
  omega
theorem Ls.rowL {b k n m : Nat} {ds : List PyData} (h : ∀ d ∈ ds, Ls b k d) (hn : ds.length ≤ n) (hm : n * (b + 2) + 3 ≤ m) : Ls m (k + 1) (.list ds) := by
  have a := (LsA.all h).lst
  refine a.more ?_ (Nat.le_refl _)
  have : ds.length * b ≤ n * b := Nat.mul_le_mul_right b hn
  rw [Nat.mul_add] at hm
  omega
end Px
end

/-! K59a -/
section
set_option Elab.async false
set_option linter.all false
set_option maxRecDepth 100000
set_option maxHeartbeats 4000000
namespace K59
open PySem PySem.Spec PyProof.Rows L2 Dh Px

def top (i : Nat) : Stmt := PySem.Challenge.pw_debtsheld_k59_whole_branched_worlds.main.body.getD i (.Pass ⟨0, 0, 0, 0⟩)
instance ik : IK := ⟨[.inr "mixed", .inr "turn"]⟩
/-- a def of the top, over data -/
structure DfD (P : Program) (w : World) (K : PySem.W.Frag) (mg : Str → Option Value) (base : Heap) (x : Str) (k : Nat) (f : Addr) (fd : FuncData) (ps : List Str) (φ : PF) : Prop where
  ok : FnG P w K mg base CX0 k f fd ps (spD K IK.ks φ)
  m : mg x = some (.ref f)
  k : PySem.W.keepIn K (.ref f) = true
  b : Binds K fd ps []
structure Blt (mg : Str → Option Value) : Prop where
  isinstance : mg "isinstance" = none
  int : mg "int" = none
  bool : mg "bool" = none
  str : mg "str" = none
  tuple : mg "tuple" = none
  len : mg "len" = none
  list : mg "list" = none
  all : mg "all" = none
  any : mg "any" = none
  zip : mg "zip" = none
  range : mg "range" = none
  sorted : mg "sorted" = none
  repr : mg "repr" = none
  enumerate : mg "enumerate" = none
  min : mg "min" = none
  max : mg "max" = none
section
variable {P : Program} {w : World} {K : PySem.W.Frag} {mg : Str → Option Value} {base : Heap}
def isInteger : PyData → Bool
  | .int _ => true
  | _ => false
def fInteger : PF := fun Δ Ψ => ∃ d, Δ = [.v d] ∧ Ψ (.v (.bool (isInteger d)))
theorem scInteger : FnScope ["thing"] ["thing"] (defScope (top 6)) := ⟨rfl, rfl, rfl, by decide +kernel, rfl, by decide +kernel, by decide +kernel⟩
theorem okInteger {f : Addr} {fd : FuncData} (F : Fun K "is_integer" "is_integer" (top 6) f fd) (T : Blt mg) : FnG P w K mg base CX0 1 f fd ["thing"] (spD K IK.ks fInteger) := by
  have sc := scInteger
  refine FnG.data F sc (by decide) (fun Δ Ψ h => by obtain ⟨_, rfl, _⟩ := h; rfl) (fun cdv A outer s H E Δ Ψ noG hr h => ?_)
  obtain ⟨d, rfl, k⟩ := h
  refine ⟨_, _, (xss_one (xs_ret (xe_and (xe_isi (by rfl) T.isinstance (xe_var (pv 0)) (pe_bltn (v := .ty "int") (by rfl) T.int (by decide +kernel) rfl)) (xe_one (xe_not (xe_isi (by rfl) T.isinstance (xe_var (pv 0)) (pe_bltn (v := .ty "bool") (by rfl) T.bool (by decide +kernel) rfl))))))), ?_⟩
  refine ⟨_, rfl, d, isInt d, rfl, fun K => (IsT.int d).kit, _, rfl, fun e => ?_, fun e => ?_⟩
  · refine ⟨_, rfl, d, isBool d, rfl, fun K => (IsT.bool d).kit, _, rfl, _, _, rfl, trivial, ?_⟩
    have : (!isBool d) = isInteger d := by cases d <;> first | rfl | cases e
    rw [this]; exact k
  · refine ⟨_, _, rfl, trivial, ?_⟩
    have : isInteger d = false := by cases d <;> first | rfl | cases e
    rw [this] at k; exact k
end
end K59
end

/-! K59d -/
section
set_option Elab.async false
set_option linter.all false
set_option maxRecDepth 100000
set_option maxHeartbeats 4000000
namespace K59
open PySem PySem.Spec PyProof.Rows L2 Dh Px
section
variable {P : Program} {w : World} {K : PySem.W.Frag} {mg : Str → Option Value} {base : Heap}
abbrev kTurn : Key := .inr "turn"
abbrev sDraw : Stmt := top 43
theorem scDraw : FnScope ["deck", "below", "figure", "cell"] ["deck", "below"] (defScope sDraw) := ⟨rfl, rfl, rfl, by decide +kernel, rfl, by decide +kernel, by decide +kernel⟩
theorem shaped_ints : ∀ ls : List Int, PyData.canLayAll0 (ls.map PyData.int) = true ∧ PyData.depthAll (ls.map PyData.int) = 0
  | [] => ⟨by simp [PyData.canLayAll0], by simp [PyData.depthAll]⟩
  | x :: r => by
    obtain ⟨a, b⟩ := shaped_ints r
    exact ⟨by simp [PyData.canLayAll0, PyData.canLay0, a], by simp [PyData.depthAll, PyData.depth, b]⟩
theorem shaped_ints' (ls : List Int) : SeqAt.shaped (.list (ls.map PyData.int)) = true := by
  obtain ⟨a, b⟩ := shaped_ints ls
  simp [SeqAt.shaped, PyData.canLay0, PyData.depth, a, b]
theorem shaped_nil : SeqAt.shaped (.list []) = true := by decide
theorem dp_ints {H : Hp} : ∀ ls : List Int, DpAll K H (ls.map V.int) (ls.map PyData.int)
  | [] => .nil
  | x :: r => .cons (.int x) (dp_ints r)
theorem eqv_nil (ls : List Int) : PyData.eqv (.list (ls.map PyData.int)) (.list []) = ls.isEmpty := by
  cases ls with
  | nil => simp [PyData.eqv, PyData.eqvAll]
  | cons x r => simp [PyData.eqv, PyData.eqvAll]
theorem okDraw0 {f : Addr} {fd : FuncData} (F : Fun K "_law_draw" "_law_draw" sDraw f fd) (T : Blt mg) : FnOk P w K mg base CX0 1 f fd ["deck", "below"] (spDraw' IK.ks) := by
  refine F.ok scDraw (fun vs H Q E h => ?_) (fun cdv A outer s H vs Q E hr h => ?_)
  · obtain ⟨_, _, _, rfl, _⟩ := h
    rfl
  · obtain ⟨dk, lf, m, rfl, D, m1, m2, k⟩ := h
    have hu := hu_of hr
    refine ⟨_, (pss_cons (ps_dput hu (pv 0) pe_str (pe_op op_add (pe_dget hu (pv 0) pe_str (fun _ _ => rfl)) pe_int) rfl)
      (pss_cons (ps_set (i := 2) scDraw.nd rfl (Or.inl rfl) (pe_op op_add (pe_dget hu (pv 0) pe_str (fun _ _ => rfl)) (pe_op op_mul pe_int (pe_dget hu (pv 0) pe_str (fun _ _ => rfl)))))
      (Evl.pss_cut (ps_if (pt_cmpR (op_neD hr.units) (pe_dget hu (pv 0) pe_str (fun _ _ => rfl)) (pe_lst pa_nil) (nomark _)) (pss_cons (ps_set (i := 3) scDraw.nd rfl (Or.inl rfl) (pe_bm0 PySem.F.plainAttrs_list PySem.F.slot_list_pop PySem.F.type_list_pop mt_pop (pe_dget hu (pv 0) pe_str (fun _ _ => rfl))))
        (pss_cons (ps_if (pt_cmpR op_ge (pv 3) (pe_op op_pow pe_int pe_int) (nomark _)) (pss_cons (ps_expr (pe_bm PySem.F.plainAttrs_list PySem.F.slot_list_append PySem.F.type_list_append mt_append (pe_dget hu (pv 0) pe_str (fun _ _ => rfl)) (pa_cons (pe_op op_fdivW (pv 3) (pe_callB (call_max2 rfl) (by rfl) T.max (by decide +kernel) (pa_cons pe_int (pa_cons (pv 1) pa_nil)))) pa_nil)))
          (pss_one (ps_ret (pe_op op_modN (pe_callTy call_int1 (by rfl) T.int (by decide +kernel) (pa_cons (pv 3) pa_nil)) (pv 1))))) pss_nil)
        (pss_cons (ps_dput hu (pv 0) pe_str (pe_op op_mod (pe_callTy call_int1 (by rfl) T.int (by decide +kernel) (pa_cons (pe_op op_add (pe_op op_add (pe_op op_mul (pe_dget hu (pv 0) pe_str (fun _ _ => rfl)) pe_int) (pe_op op_mod (pe_callTy call_int1 (by rfl) T.int (by decide +kernel) (pa_cons (pv 3) pa_nil)) pe_int)) pe_int) pa_nil)) pe_int) rfl)
        (pss_one (ps_set (i := 2) scDraw.nd rfl (Or.inl rfl) (pe_op op_add (pv 2) (pe_op op_mod (pe_callTy call_int1 (by rfl) T.int (by decide +kernel) (pa_cons (pv 3) pa_nil)) pe_int))))))) pss_nil)
      (pss_cons (ps_set (i := 2) scDraw.nd rfl (Or.inl rfl) (pe_op op_mod (pe_callTy call_int1 (by rfl) T.int (by decide +kernel) (pa_cons (pe_op op_add (pe_op op_mul (pv 2) pe_int) pe_int) pa_nil)) pe_int))
      (pss_cons (ps_set (i := 2) scDraw.nd rfl (Or.inl rfl) (pe_op op_mod (pe_callTy call_int1 (by rfl) T.int (by decide +kernel) (pa_cons (pe_op op_add (pe_op op_add (pe_op op_mul (pv 2) (pv 2)) (pe_op op_mul pe_int (pe_dget hu (pv 0) pe_str (fun _ _ => rfl)))) pe_int) pa_nil)) pe_int))
      (pss_cons (ps_set (i := 2) scDraw.nd rfl (Or.inl rfl) (pe_op op_mod (pe_callTy call_int1 (by rfl) T.int (by decide +kernel) (pa_cons (pe_op op_add (pe_op op_mul (pv 2) pe_int) pe_int) pa_nil)) pe_int))
      (pss_one (ps_ret (pe_op op_modN (pe_callTy call_int1 (by rfl) T.int (by decide +kernel) (pa_cons (pe_op op_fdiv (pv 2) pe_int) pa_nil)) (pv 1)))))))))), ?_⟩
    obtain ⟨kvs, d1, d2, d3, d4⟩ := id D.d
    have inM : kMixed ∈ (IK.ks : List Key) := List.mem_cons_self
    have inD : kTurn ∈ (IK.ks : List Key) := List.mem_cons_of_mem _ List.mem_cons_self
    have nDL : kTurn ≠ kLeft := by decide +kernel
    have get : ∀ {H1 : Hp} {es : List (Key × V)} {kk : Key} {v : V}, H1 dk = some (.dK es) → valV es kk = some v → DGet H1 dk (kV kk) (some v) := fun {H1 es kk v} a b => b ▸ DGet.k a
    obtain ⟨dr, d5⟩ := d4 _ inD
    refine ⟨_, rfl, dk, .int dr, rfl, get (kk := kTurn) d1 d5, dr, 1, rfl, rfl, _, rfl, dk, _, rfl, DPut.k (k := kTurn) d1 (small1000 (by omega)), ?_⟩
    generalize hH1 : upd H dk (HO.dK (putK kvs kTurn (V.int (dr + 1)))) = H1
    have D1 : Deck IK.ks H1 dk lf := by rw [← hH1]; exact D.putInt d1 inD nDL
    have K1 : Kp [dk, lf] H H1 := by rw [← hH1]; exact Kp.put (by simp)
    clear hH1 d1 d2 d3 d4 d5
    obtain ⟨es, d1, d2, d3, d4⟩ := id D1.d
    obtain ⟨mx, d6⟩ := d4 _ inM
    obtain ⟨dr, d5⟩ := d4 _ inD
    refine ⟨_, rfl, dk, .int mx, rfl, get (kk := kMixed) d1 d6, _, rfl, dk, .int dr, rfl, get (kk := kTurn) d1 d5, _, _, rfl, rfl, .inl (by decide), _, _, rfl, rfl, ?_⟩
    refine ⟨fun σ H2 => ∃ (g : Int) (c : Option V), σ = [some (.ref dk), some (.int m), some (.int g), c] ∧ Deck IK.ks H2 dk lf ∧ Kp [dk, lf] H H2, ?_, ?_⟩
    rotate_left
    · rintro σ H2 ⟨g, c, rfl, D2, K2⟩
      obtain ⟨es, d1, d2, d3, d4⟩ := id D2.d
      obtain ⟨dr, d5⟩ := d4 _ inD
      have b31 : ∀ a b : Int, 0 < b → b < 2147483648 → -(2 ^ 64) < a % b ∧ a % b < 2 ^ 64 := fun a b h1 h2 => by
        have z1 := Int.emod_nonneg a (show b ≠ 0 by omega)
        have z2 := Int.emod_lt_of_pos a h1
        omega
      refine ⟨_, rfl, _, _, rfl, rfl, .inr (by decide), _, _, rfl, rfl, .inl ⟨_, rfl, _, _, rfl, rfl, (show (0 : Int) < _ by decide), ?_⟩⟩
      refine ⟨_, rfl, _, rfl, _, _, rfl, rfl, .inl (b31 _ _ (by decide) (by decide)), _, rfl, dk, .int dr, rfl, get (kk := kTurn) d1 d5, _, _, rfl, rfl, .inl (by decide), _, _, rfl, rfl, _, _, rfl, rfl, .inl ⟨_, rfl, _, _, rfl, rfl, (show (0 : Int) < _ by decide), ?_⟩⟩
      refine ⟨_, rfl, _, _, rfl, rfl, .inr (by decide), _, _, rfl, rfl, .inl ⟨_, rfl, _, _, rfl, rfl, (show (0 : Int) < _ by decide), ?_⟩⟩
      refine ⟨_, rfl, _, _, rfl, rfl, ⟨by decide, by decide⟩, .inl ⟨_, rfl, _, rfl, _, _, rfl, rfl, (by omega), ?_⟩⟩
      show Q (.int (Int.fmod _ m)) H2
      rw [Int.fmod_eq_emod_of_nonneg _ (by omega)]
      exact k H2 _ D2 K2 (Int.emod_nonneg _ (by omega)) (Int.emod_lt_of_pos _ (by omega))
    obtain ⟨ls, l1, l2⟩ := D1.l
    refine ⟨_, rfl, dk, .ref lf, rfl, get (kk := kLeft) d1 d3, (by decide), fun p hp => ?_⟩
    have D2 := D1.new (o := .lst []) hp
    have K2 := K1.trans (Kp.new (M := [dk, lf]) (o := .lst []) hp)
    have e2 : (upd H1 p (HO.lst [])) dk = some (.dK es) := by rw [upd_ne (ne_of_none d1 hp)]; exact d1
    have l1' : (upd H1 p (HO.lst [])) lf = some (.lst (ls.map V.int)) := by rw [upd_ne (ne_of_none l1 hp)]; exact l1
    refine ⟨.list (ls.map PyData.int), .list [], .lst (SqL.of l1') (dp_ints ls), .lst (SqL.of upd_same) .nil, shaped_ints' ls, shaped_nil, _, rfl, ?_⟩
    rw [eqv_nil]
    cases ls with
    | nil =>
      refine iteF ?_
      exact ⟨_, none, rfl, D2, K2⟩
    | cons x r =>
      refine iteT ?_
      have hz : ((x :: r).map V.int)[((x :: r).map V.int).length - 1]? = some (.int ((x :: r).getLast (by simp))) := by
        rw [← List.getLast?_eq_getElem?, List.getLast?_map, List.getLast?_eq_some_getLast (by simp)]
        rfl
      generalize (x :: r).getLast (by simp) = cell at hz
      refine ⟨_, rfl, dk, .ref lf, rfl, get (kk := kLeft) e2 d3, Or.inl ⟨rfl, _, SqL.of l1'⟩, lf, _, _, rfl, rfl, l1', hz, ?_⟩
      have hd : ((x :: r).map V.int).dropLast = ((x :: r).dropLast).map V.int := by rw [List.map_dropLast]
      rw [hd]
      have hl : ((x :: r).dropLast).length + 1 ≤ 63 := by rw [List.length_dropLast]; simp at l2 ⊢; omega
      have D3 := D2.left (ls := (x :: r).dropLast) (by omega)
      have K3 := K2.trans (Kp.put (M := [dk, lf]) (H := upd H1 p (HO.lst [])) (o := .lst (((x :: r).dropLast).map V.int)) (p := lf) (by simp))
      generalize (x :: r).dropLast = ys at D3 K3 hl
      generalize hH3 : upd (upd H1 p (HO.lst [])) lf (HO.lst (ys.map V.int)) = H3 at D3 K3
      have l3 : H3 lf = some (.lst (ys.map V.int)) := by rw [← hH3, upd_same]
      have d1' : H3 dk = some (.dK es) := by rw [← hH3, upd_ne D.ne]; exact e2
      refine ⟨_, rfl, _, _, rfl, rfl, ⟨by decide, by decide, by decide⟩, _, _, rfl, rfl, _, rfl, ?_⟩
      refine ite2 (fun _ => ?_) (fun _ => ?_)
      · refine ⟨_, rfl, dk, .ref lf, rfl, get (kk := kLeft) d1' d3, Or.inl ⟨rfl, _, SqL.of l3⟩, _, rfl, _, rfl, _, _, rfl, _, _, rfl, rfl, ?_, lf, _, _, rfl, rfl, l3, (by rw [List.length_map]; exact small1000 (by omega)), ?_⟩
        · refine ⟨by split <;> omega, ?_⟩
          have z : (if m > 2 then m else 2).natAbs < 2 ^ 17 := by split <;> omega
          have z2 := (Nat.log2_lt (n := (if m > 2 then m else 2).natAbs) (k := 17) (by split <;> omega)).mpr z
          omega
        · refine ⟨_, rfl, .inl ⟨_, rfl, _, rfl, _, _, rfl, rfl, (by omega), ?_⟩⟩
          show Q (.int (Int.fmod cell m)) (upd H3 lf (.lst (ys.map V.int ++ [V.int _])))
          rw [Int.fmod_eq_emod_of_nonneg _ (by omega)]
          have e : ∀ z : Int, (ys.map V.int) ++ [V.int z] = (ys ++ [z]).map V.int := fun z => by simp
          rw [e]
          exact k _ _ (D3.left (by rw [List.length_append]; simp; omega)) (K3.trans (Kp.put (by simp))) (Int.emod_nonneg _ (by omega)) (Int.emod_lt_of_pos _ (by omega))
      · obtain ⟨es3, f1, f2, f3, f4⟩ := id D3.d
        obtain ⟨mx3, f6⟩ := f4 _ inM
        have nML : kMixed ∈ (IK.ks : List Key) := inM
        have nML2 : kMixed ≠ kLeft := by decide +kernel
        refine ⟨_, rfl, dk, .int mx3, rfl, get (kk := kMixed) f1 f6, _, _, rfl, rfl, .inr (by decide), _, rfl, .inl ⟨_, rfl, _, _, rfl, rfl, (show (0 : Int) < _ by decide), _, _, rfl, rfl, _, _, rfl, rfl, .inl ⟨_, rfl, _, _, rfl, rfl, (show (0 : Int) < _ by decide), ?_⟩⟩⟩
        refine ⟨_, rfl, dk, _, rfl, DPut.k (k := kMixed) f1 (small1000 (by omega)), ?_⟩
        have D4 := D3.putInt f1 inM nML2 (i := ((mx3 * 16807 + cell % 2147483587 + 3) % 2147483647))
        have K4 := K3.trans (Kp.put (M := [dk, lf]) (H := H3) (o := (HO.dK (putK es3 kMixed (V.int ((mx3 * 16807 + cell % 2147483587 + 3) % 2147483647))))) (p := dk) (by simp))
        refine ⟨_, rfl, _, rfl, .inl ⟨_, rfl, _, _, rfl, rfl, (show (0 : Int) < _ by decide), _, _, rfl, rfl, ?_⟩⟩
        exact ⟨_, _, rfl, D4, K4⟩
theorem okDraw {f : Addr} {fd : FuncData} (F : Fun K "_law_draw" "_law_draw" sDraw f fd) (T : Blt mg) : FnG P w K mg base CX0 1 f fd ["deck", "below"] (spD K IK.ks fDraw) :=
  Px.FnG.weaken (Dh.FnOk.toG (okDraw0 F T)) fun _ _ _ _ h => draw_data h
end
end K59
end

/-! K59b -/
section
set_option Elab.async false
set_option linter.all false
set_option maxRecDepth 100000
set_option maxHeartbeats 4000000
namespace K59
open PySem PySem.Spec PyProof.Rows L2 Dh Px

local macro_rules | `(tactic| walk_at "px") => `(tactic| repeat (first
  | refine yT ?_ | refine yF ?_ | refine ⟨_, rfl, ?_⟩ | refine ⟨_, _, rfl, rfl, ?_⟩ | refine ⟨_, _, rfl, ?_⟩
  | refine ⟨_, _, rfl, isi (.tuple _), ?_⟩ | refine ⟨_, _, rfl, isi (.str _), ?_⟩ | refine ⟨_, _, rfl, isi (.int _), ?_⟩ | refine ⟨_, _, rfl, isi (.bool _), ?_⟩
  | refine ⟨True.intro, ?_⟩))
/-! ### worlds of a kind, and what they mean -/
inductive Fn where
  | empty | put | first | rest | front | back | last | init | cons | head | tail | look | set | one | join | insert | least | without | merge
  deriving DecidableEq
def Fn.name : Fn → Str
  | .empty => "empty" | .put => "put" | .first => "first" | .rest => "rest" | .front => "front" | .back => "back" | .last => "last" | .init => "init" | .cons => "cons" | .head => "head" | .tail => "tail"
  | .look => "look" | .set => "set" | .one => "one" | .join => "join" | .insert => "insert" | .least => "least" | .without => "without" | .merge => "merge"
/-- what each argument is: a version or not -/
def Fn.sig : Fn → List Bool
  | .empty => [] | .put => [true, false] | .first => [true] | .rest => [true] | .front => [false, true] | .back => [true, false] | .last => [true] | .init => [true] | .cons => [false, true] | .head => [true] | .tail => [true]
  | .look => [true, false] | .set => [true, false, false] | .one => [false] | .join => [true, true] | .insert => [true, false] | .least => [true] | .without => [true] | .merge => [true, true]
def Fn.ans : Fn → Bool
  | .first => true | .last => true | .head => true | .look => true | .least => true | _ => false
inductive Kd where
  | queue | deque | list | joined | heap
  deriving DecidableEq
def Kd.name : Kd → Str
  | .queue => "queue" | .deque => "deque" | .list => "list" | .joined => "joined" | .heap => "heap"
def Kd.fns : Kd → List Fn
  | .queue => [.empty, .put, .first, .rest]
  | .deque => [.empty, .front, .back, .first, .rest, .last, .init]
  | .list => [.empty, .cons, .head, .tail, .look, .set]
  | .joined => [.empty, .one, .join, .first, .rest]
  | .heap => [.empty, .insert, .least, .without, .merge]
inductive Arg where
  | i (n : Int)
  | of (k : Nat)
structure Deed where
  f : Fn
  args : List Arg
def Arg.d : Arg → PyData
  | .i n => .int n
  | .of k => .tuple [.str "of", .int (k : Int)]
def Deed.d (x : Deed) : PyData := .tuple [.str x.f.name, .tuple (x.args.map Arg.d)]
def worldD (ds : List Deed) : PyData := .tuple (ds.map Deed.d)
inductive Mean where
  | ver (xs : List Int)
  | ans (n : Int)
  | stuck
  | none
def intsD (xs : List Int) : List PyData := xs.map .int
def Mean.d : Mean → PyData
  | .ver xs => .tuple [.str "version", .tuple (intsD xs)]
  | .ans n => .tuple [.str "answer", .int n]
  | .stuck => .tuple [.str "stuck"]
  | .none => .tuple [.str "none"]
/-- the integer or the items that an argument stands for -/
inductive Pv where
  | n (i : Int)
  | xs (l : List Int)
def Pv.d : Pv → PyData
  | .n i => .int i
  | .xs l => .tuple (intsD l)
def sortI (l : List Int) : List Int := l.mergeSort fun a b => decide (a ≤ b)
theorem sortI_perm (l : List Int) : (sortI l).Perm l := List.mergeSort_perm _ _
theorem sortI_sorted (l : List Int) : (sortI l).Pairwise (· ≤ ·) := by
  have := List.pairwise_mergeSort (le := fun a b : Int => decide (a ≤ b)) (fun a b c h1 h2 => by simp at *; omega) (fun a b => by simp; omega) l
  exact this.imp fun h => by simpa using h
theorem sortI_eq {l l' : List Int} (p : l'.Perm l) (s : l'.Pairwise (· ≤ ·)) : l' = sortI l :=
  List.Perm.eq_of_pairwise (fun a b _ _ h1 h2 => Int.le_antisymm h1 h2) s (sortI_sorted l) (p.trans (sortI_perm l).symm)
def look (l : List Int) (i : Int) : Mean := if 0 ≤ i ∧ i < l.length then .ans (l.getD i.toNat 0) else .stuck
def mean : Fn → List Pv → Mean
  | .empty, [] => .ver []
  | .one, [.n x] => .ver [x]
  | .put, [.xs l, .n x] => .ver (l ++ [x])
  | .back, [.xs l, .n x] => .ver (l ++ [x])
  | .insert, [.xs l, .n x] => .ver (sortI (l ++ [x]))
  | .front, [.n x, .xs l] => .ver (x :: l)
  | .cons, [.n x, .xs l] => .ver (x :: l)
  | .join, [.xs l, .xs m] => .ver (l ++ m)
  | .merge, [.xs l, .xs m] => .ver (sortI (l ++ m))
  | .first, [.xs l] => look l 0
  | .head, [.xs l] => look l 0
  | .least, [.xs l] => look l 0
  | .last, [.xs l] => look l ((l.length : Int) - 1)
  | .look, [.xs l, .n i] => look l i
  | .rest, [.xs l] => if l = [] then .stuck else .ver (l.drop 1)
  | .tail, [.xs l] => if l = [] then .stuck else .ver (l.drop 1)
  | .without, [.xs l] => if l = [] then .stuck else .ver (l.drop 1)
  | .init, [.xs l] => if l = [] then .stuck else .ver l.dropLast
  | .set, [.xs l, .n i, .n x] => if 0 ≤ i ∧ i < l.length then .ver (l.set i.toNat x) else .stuck
  | _, _ => .none
def plain (found : List Mean) : Arg → Option Pv
  | .i n => some (.n n)
  | .of k => match found[k]? with
    | some (.ver l) => some (.xs l)
    | _ => Option.none
def plains (found : List Mean) : List Arg → Option (List Pv)
  | [] => some []
  | a :: r => match plain found a, plains found r with
    | some v, some vs => some (v :: vs)
    | _, _ => Option.none
def meant (x : Deed) (found : List Mean) : Mean := match plains found x.args with
  | some vs => mean x.f vs
  | Option.none => .none
def fit : Pv → Bool → Bool
  | .n _, b => !b
  | .xs _, b => b
/-- the arguments are of the function's sorts; versions are results of elder deeds that return versions -/
def argOk (ds : List Deed) (p : Nat) : Arg → Bool → Prop
  | .i _, b => b = false
  | .of k, b => b = true ∧ k < p ∧ ∃ x, ds[k]? = some x ∧ x.f.ans = false
inductive ArgsOk (ds : List Deed) (p : Nat) : List Arg → List Bool → Prop
  | nil : ArgsOk ds p [] []
  | cons {a : Arg} {b : Bool} {as : List Arg} {bs : List Bool} : argOk ds p a b → ArgsOk ds p as bs → ArgsOk ds p (a :: as) (b :: bs)
def deedOk (k : Kd) (ds : List Deed) (p : Nat) : Prop := ∃ x, ds[p]? = some x ∧ x.f ∈ k.fns ∧ ArgsOk ds p x.args x.f.sig
def worldOk (k : Kd) (ds : List Deed) : Prop := ∀ p, p < ds.length → deedOk k ds p
def means : List Deed → List Mean → List Mean
  | [], found => found
  | x :: r, found => means r (found ++ [meant x found])
/-! ### the program's small defs -/
section
variable {P : Program} {w : World} {K : PySem.W.Frag} {mg : Str → Option Value} {base : Heap}
/-- a tuple of the module -/
structure Cst (K : PySem.W.Frag) (mg : Str → Option Value) (x : Str) (a : Addr) (d : PyData) : Prop where
  m : mg x = some (.ref a)
  c : ∀ W H, Ac K W H (.ref a) d
structure TabC (K : PySem.W.Frag) (w : World) (mg : Str → Option Value) (x : Str) (a : Addr) (T : Str → Option Px.D) : Prop where
  m : mg x = some (.ref a)
  t : Tab K w a T
def isPos : PyData → Int → Bool
  | .int i, n => decide (0 ≤ i) && decide (i < n)
  | _, _ => false
def fPosition : PF := fun Δ Ψ => ∃ d n, Δ = [.v d, .v (.int n)] ∧ Ψ (.v (.bool (isPos d n)))
abbrev sPosition := top 7
theorem scPosition : FnScope ["thing", "size"] ["thing", "size"] (defScope sPosition) := ⟨rfl, rfl, rfl, by decide +kernel, rfl, by decide +kernel, by decide +kernel⟩
theorem okPosition {f f1 : Addr} {fd fd1 : FuncData} (F : Fun K "is_position" "is_position" sPosition f fd) (Dis_integer : DfD P w K mg base "is_integer" 1 f1 fd1 ["thing"] fInteger) : FnG P w K mg base CX0 2 f fd ["thing", "size"] (spD K IK.ks fPosition) := by
  have sc := scPosition
  refine FnG.data F sc (by decide) (fun Δ Ψ h => by obtain ⟨_, _, rfl, _⟩ := h; rfl) (fun cdv A outer s H E Δ Ψ noG hr h => ?_)
  obtain ⟨d, n, rfl, k⟩ := h
  refine ⟨_, _, (xss_one (xs_ret (xe_and (xe_call Dis_integer.ok noG (hr.mono (by decide)) (by rfl) Dis_integer.m Dis_integer.k Dis_integer.b (xp_cons (xe_var (pv 0)) xp_nil)) (xe_one (xe_chain op_le PLe op_lt PLt xe_int (xe_var (pv 0)) (xe_var (pv 1))))))), ?_⟩
  refine ⟨_, rfl, _, rfl, d, rfl, _, rfl, fun e => ?_, fun e => ?_⟩
  · cases d with
    | int i =>
      refine ⟨_, rfl, _, _, rfl, rfl, _, rfl, fun e1 => ⟨_, rfl, _, _, rfl, rfl, _, _, rfl, trivial, ?_⟩, fun e1 => ⟨_, _, rfl, trivial, ?_⟩⟩
      · have : isPos (.int i) n = decide (i < n) := by show (decide (0 ≤ i) && decide (i < n)) = _; rw [e1, Bool.true_and]
        rw [this] at k; exact k
      · have : isPos (.int i) n = false := by show (decide (0 ≤ i) && decide (i < n)) = _; rw [e1, Bool.false_and]
        rw [this] at k; exact k
    | _ => cases e
  · have : isPos d n = false := by cases d <;> first | rfl | cases e
    rw [this] at k
    exact ⟨_, _, rfl, trivial, k⟩
/-- of a pair ("of", k) -/
def fResult : PF := fun Δ Ψ => ∃ (k p : Nat), Δ = [.v (.tuple [.str "of", .int (k : Int)]), .v (.int (p : Int))] ∧ k < p ∧ Ψ (.v (.bool true))
theorem Blt.isi {T : String} {d : PyData} {b : Bool} (h : IsT T d b) : ∀ K : PySem.W.Frag, PySem.W.kitOne K (tyD d) (.type T) = some b := fun K => h.kit
abbrev sResult := top 8
theorem scResult : FnScope ["thing", "position"] ["thing", "position"] (defScope sResult) := ⟨rfl, rfl, rfl, by decide +kernel, rfl, by decide +kernel, by decide +kernel⟩
theorem okResult {f f1 : Addr} {fd fd1 : FuncData} (F : Fun K "is_result" "is_result" sResult f fd) (T : Blt mg) (Dis_position : DfD P w K mg base "is_position" 2 f1 fd1 ["thing", "size"] fPosition) : FnG P w K mg base CX0 3 f fd ["thing", "position"] (spD K IK.ks fResult) := by
  have sc := scResult
  refine FnG.data F sc (by decide) (fun Δ Ψ h => by obtain ⟨_, _, rfl, _⟩ := h; rfl) (fun cdv A outer s H E Δ Ψ noG hr h => ?_)
  obtain ⟨i, p, rfl, lt, k⟩ := h
  refine ⟨_, _, (xss_cons (xs_if (xt_w (xw_or (xt_not (xt_val (xe_isi (by rfl) T.isinstance (xe_var (pv 0)) (pe_bltn (v := .ty "tuple") (by rfl) T.tuple (by decide +kernel) rfl)))) (xw_or1 (xt_cmp op_ne PNe (xe_CB (xr_cons (xe_var (pv 0)) xr_nil) (fun _ p => pe_callB call_len (by rfl) T.len (by decide +kernel) p) PLen) xe_int (nomark _))))) (xss_one (xs_ret xe_bl)) xss_nil) 
      (xss_one (xs_ret (xe_and (xe_cmp op_eq PEq (xe_ix (xe_var (pv 0)) xe_int (fun _ _ => rfl)) xe_str (nomark _)) (xe_one (xe_call Dis_position.ok noG (hr.mono (by decide)) (by rfl) Dis_position.m Dis_position.k Dis_position.b (xp_cons (xe_ix (xe_var (pv 0)) xe_int (fun _ _ => rfl)) (xp_cons (xe_var (pv 1)) xp_nil)))))))), ?_⟩
  walk_at "px"
  have : isPos (.int (i : Int)) (p : Int) = true := by simp [isPos]; omega
  rw [this]; exact k
/-- of a pair of a text and a tuple -/
def fForm : PF := fun Δ Ψ => ∃ (s : Str) (ds : List PyData), Δ = [.v (.tuple [.str s, .tuple ds])] ∧ Ψ (.v (.bool true))
abbrev sForm := top 9
theorem scForm : FnScope ["thing"] ["thing"] (defScope sForm) := ⟨rfl, rfl, rfl, by decide +kernel, rfl, by decide +kernel, by decide +kernel⟩
theorem okForm {f : Addr} {fd : FuncData} (F : Fun K "has_deed_form" "has_deed_form" sForm f fd) (T : Blt mg) : FnG P w K mg base CX0 1 f fd ["thing"] (spD K IK.ks fForm) := by
  have sc := scForm
  refine FnG.data F sc (by decide) (fun Δ Ψ h => by obtain ⟨_, _, rfl, _⟩ := h; rfl) (fun cdv A outer s H E Δ Ψ noG hr h => ?_)
  obtain ⟨i, p, rfl, k⟩ := h
  refine ⟨_, _, (xss_cons (xs_if (xt_w (xw_or (xt_not (xt_val (xe_isi (by rfl) T.isinstance (xe_var (pv 0)) (pe_bltn (v := .ty "tuple") (by rfl) T.tuple (by decide +kernel) rfl)))) (xw_or1 (xt_cmp op_ne PNe (xe_CB (xr_cons (xe_var (pv 0)) xr_nil) (fun _ p => pe_callB call_len (by rfl) T.len (by decide +kernel) p) PLen) xe_int (nomark _))))) (xss_one (xs_ret xe_bl)) xss_nil) 
      (xss_one (xs_ret (xe_and (xe_isi (by rfl) T.isinstance (xe_ix (xe_var (pv 0)) xe_int (fun _ _ => rfl)) (pe_bltn (v := .ty "str") (by rfl) T.str (by decide +kernel) rfl)) (xe_one (xe_isi (by rfl) T.isinstance (xe_ix (xe_var (pv 0)) xe_int (fun _ _ => rfl)) (pe_bltn (v := .ty "tuple") (by rfl) T.tuple (by decide +kernel) rfl))))))), ?_⟩
  walk_at "px"
  exact k
end
end K59
end

/-! K59c -/
section
set_option Elab.async false
set_option linter.all false
set_option maxRecDepth 100000
set_option maxHeartbeats 4000000
namespace K59
open PySem PySem.Spec PyProof.Rows L2 Dh Px
local macro_rules | `(tactic| walk_at "px") => `(tactic| repeat (first
  | refine yT ?_ | refine yF ?_ | refine ⟨_, rfl, ?_⟩ | refine ⟨_, _, rfl, rfl, ?_⟩ | refine ⟨_, _, rfl, ?_⟩
  | refine ⟨_, _, rfl, isi (.tuple _), ?_⟩ | refine ⟨_, _, rfl, isi (.str _), ?_⟩ | refine ⟨_, _, rfl, isi (.int _), ?_⟩ | refine ⟨_, _, rfl, isi (.bool _), ?_⟩
  | refine ⟨True.intro, ?_⟩ | refine ⟨(Nat.le_of_ble_eq_true rfl : _ ≤ sizeLine), ?_⟩))
/-! ### rows of ints -/
theorem intsD_len (l : List Int) : (intsD l).length = l.length := by simp [intsD]
theorem intsD_at {l : List Int} {i : Int} (h0 : 0 ≤ i) (h1 : i < l.length) : atI (intsD l) i = some (.int (l.getD i.toNat 0)) := by
  have h2 : i.toNat < l.length := by omega
  unfold atI ixN
  rw [intsD_len, if_pos h0, if_pos h1]
  simp [intsD, h2, List.getD_eq_getElem?_getD]
theorem cut_from (l : List Int) (k : Nat) : Px.cutD (intsD l) (some (k : Int)) none = intsD (l.drop k) := by
  unfold Px.cutD
  rw [HT.sIx_nat, HT.sIx_none]
  unfold intsD
  rw [← List.map_drop, ← List.map_take]
  congr 1
  rw [List.length_map]
  rcases Nat.le_total k l.length with h | h
  · rw [Nat.min_eq_left h, List.take_of_length_le (by simp)]
  · rw [Nat.min_eq_right h, List.drop_eq_nil_of_le h, List.drop_eq_nil_of_le (Nat.le_refl _)]; simp
theorem cut_to (l : List Int) (k : Nat) : Px.cutD (intsD l) none (some (k : Int)) = intsD (l.take k) := by
  unfold Px.cutD
  rw [HT.sIx_nat, HT.sIx_none]
  unfold intsD
  rw [← List.map_drop, ← List.map_take]
  congr 1
  rw [List.length_map, List.drop_zero, Nat.sub_zero]
  rcases Nat.le_total k l.length with h | h
  · rw [Nat.min_eq_left h]
  · rw [Nat.min_eq_right h, List.take_of_length_le h, List.take_of_length_le (Nat.le_refl _)]
theorem cut_last (l : List Int) : Px.cutD (intsD l) none (some (-1)) = intsD l.dropLast := by
  unfold Px.cutD
  rw [HT.sIx_none]
  have e : HT.sIx (intsD l).length (intsD l).length (some (-1)) = l.length - 1 := by
    show (if (-1 : Int) < 0 then ((-1 : Int) + ((intsD l).length : Int)).toNat else min (-1 : Int).toNat (intsD l).length) = _
    rw [if_pos (show (-1 : Int) < 0 by decide), intsD_len]; omega
  rw [e, List.drop_zero, Nat.sub_zero, List.dropLast_eq_take]
  unfold intsD
  rw [← List.map_take]
theorem intsD_app (l m : List Int) : intsD l ++ intsD m = intsD (l ++ m) := by simp [intsD]
theorem intsD_emp (l : List Int) : (intsD l).isEmpty = l.isEmpty := by cases l <;> rfl
section
variable {P : Program} {w : World} {K : PySem.W.Frag} {mg : Str → Option Value} {base : Heap}
/-- what a def of plain meaning is called with, and gives -/
def fMean (f : Fn) (sg : List Bool) : PF := fun Δ Ψ => ∃ vs : List Pv, Δ = vs.map (fun p => .v p.d) ∧ vs.map (fun p => match p with | .xs _ => true | .n _ => false) = sg ∧ (∀ l, Pv.xs l ∈ vs → l.length ≤ 100) ∧ Ψ (.v (mean f vs).d)
theorem fMean_len {f : Fn} {sg : List Bool} {Δ : List D} {Ψ : D → Prop} (h : fMean f sg Δ Ψ) : Δ.length = sg.length := by
  obtain ⟨vs, rfl, rfl, _⟩ := h
  simp
theorem shape0 {vs : List Pv} (h : vs.map (fun p => match p with | .xs _ => true | .n _ => false) = []) : vs = [] := by simpa using h
theorem shapeX {vs : List Pv} {b : List Bool} (h : vs.map (fun p => match p with | .xs _ => true | .n _ => false) = true :: b) : ∃ l r, vs = .xs l :: r ∧ r.map (fun p => match p with | .xs _ => true | .n _ => false) = b := by
  cases vs with
  | nil => cases h
  | cons p r =>
    cases p with
    | n i => simp at h
    | xs l => exact ⟨l, r, rfl, by simpa using h⟩
theorem shapeN {vs : List Pv} {b : List Bool} (h : vs.map (fun p => match p with | .xs _ => true | .n _ => false) = false :: b) : ∃ l r, vs = .n l :: r ∧ r.map (fun p => match p with | .xs _ => true | .n _ => false) = b := by
  cases vs with
  | nil => cases h
  | cons p r =>
    cases p with
    | xs i => simp at h
    | n l => exact ⟨l, r, rfl, by simpa using h⟩
theorem sz {n : Nat} (h : n ≤ 1000) : n ≤ sizeLine := Nat.le_trans h (by decide)
abbrev sEmpty := top 25
theorem scEmpty : FnScope [] [] (defScope sEmpty) := ⟨rfl, rfl, rfl, by decide +kernel, rfl, by decide +kernel, by decide +kernel⟩
theorem okEmpty {f : Addr} {fd : FuncData} (F : Fun K "mean_empty" "mean_empty" sEmpty f fd) : FnG P w K mg base CX0 1 f fd [] (spD K IK.ks (fMean .empty [])) := by
  have sc := scEmpty
  refine FnG.data F sc (by decide) (fun Δ Ψ h => fMean_len h) (fun cdv A outer s H E Δ Ψ noG hr h => ?_)
  obtain ⟨vs, rfl, sh, _, k⟩ := h
  obtain rfl := shape0 sh
  refine ⟨_, _, (xss_one (xs_ret (xe_tup (xv_cons xe_str (xv_cons (xe_tup xv_nil) xv_nil))))), ?_⟩
  walk_at "px"
  exact k
abbrev sOne := top 26
theorem scOne : FnScope ["x"] ["x"] (defScope sOne) := ⟨rfl, rfl, rfl, by decide +kernel, rfl, by decide +kernel, by decide +kernel⟩
theorem okOne {f : Addr} {fd : FuncData} (F : Fun K "mean_one" "mean_one" sOne f fd) : FnG P w K mg base CX0 1 f fd ["x"] (spD K IK.ks (fMean .one [false])) := by
  have sc := scOne
  refine FnG.data F sc (by decide) (fun Δ Ψ h => fMean_len h) (fun cdv A outer s H E Δ Ψ noG hr h => ?_)
  obtain ⟨vs, rfl, sh, _, k⟩ := h
  obtain ⟨x, _, rfl, sh1⟩ := shapeN sh
  obtain rfl := shape0 sh1
  refine ⟨_, _, (xss_one (xs_ret (xe_tup (xv_cons xe_str (xv_cons (xe_tup (xv_cons (xe_var (pv 0)) xv_nil)) xv_nil))))), ?_⟩
  walk_at "px"
  exact k
abbrev sBehind := top 27
theorem scBehind : FnScope ["items", "x"] ["items", "x"] (defScope sBehind) := ⟨rfl, rfl, rfl, by decide +kernel, rfl, by decide +kernel, by decide +kernel⟩
theorem okBehind {f : Addr} {fd : FuncData} (F : Fun K "mean_behind" "mean_behind" sBehind f fd) : FnG P w K mg base CX0 1 f fd ["items", "x"] (spD K IK.ks (fMean .put [true, false])) := by
  have sc := scBehind
  refine FnG.data F sc (by decide) (fun Δ Ψ h => fMean_len h) (fun cdv A outer s H E Δ Ψ noG hr h => ?_)
  obtain ⟨vs, rfl, sh, sm, k⟩ := h
  obtain ⟨l, _, rfl, sh1⟩ := shapeX sh
  obtain ⟨x, _, rfl, sh2⟩ := shapeN sh1
  obtain rfl := shape0 sh2
  have ll := sm l (by simp)
  refine ⟨_, _, (xss_one (xs_ret (xe_tup (xv_cons xe_str (xv_cons (xe_tup (xv_star (xe_var (pv 0)) (xv_cons (xe_var (pv 1)) xv_nil))) xv_nil))))), ?_⟩
  walk_at "px"
  refine ⟨sz (by simp [intsD]; omega), ?_⟩
  walk_at "px"
  have : mean .put [.xs l, .n x] = .ver (l ++ [x]) := rfl
  rw [this, Mean.d, ← intsD_app] at k
  exact k
abbrev sBefore := top 28
theorem scBefore : FnScope ["x", "items"] ["x", "items"] (defScope sBefore) := ⟨rfl, rfl, rfl, by decide +kernel, rfl, by decide +kernel, by decide +kernel⟩
theorem okBefore {f : Addr} {fd : FuncData} (F : Fun K "mean_before" "mean_before" sBefore f fd) : FnG P w K mg base CX0 1 f fd ["x", "items"] (spD K IK.ks (fMean .front [false, true])) := by
  have sc := scBefore
  refine FnG.data F sc (by decide) (fun Δ Ψ h => fMean_len h) (fun cdv A outer s H E Δ Ψ noG hr h => ?_)
  obtain ⟨vs, rfl, sh, sm, k⟩ := h
  obtain ⟨x, _, rfl, sh1⟩ := shapeN sh
  obtain ⟨l, _, rfl, sh2⟩ := shapeX sh1
  obtain rfl := shape0 sh2
  have ll := sm l (by simp)
  refine ⟨_, _, (xss_one (xs_ret (xe_tup (xv_cons xe_str (xv_cons (xe_tup (xv_cons (xe_var (pv 0)) (xv_star (xe_var (pv 1)) xv_nil))) xv_nil))))), ?_⟩
  walk_at "px"
  refine ⟨sz (by simp [intsD]; omega), ?_⟩
  walk_at "px"
  have e : (PyData.int x :: (intsD l ++ [])) = intsD (x :: l) := by simp [intsD]
  have k' : Ψ (.v (.tuple [.str "version", .tuple (intsD (x :: l))])) := k
  rw [← e] at k'
  exact k'
abbrev sLook := top 31
theorem scLook : FnScope ["items", "i"] ["items", "i"] (defScope sLook) := ⟨rfl, rfl, rfl, by decide +kernel, rfl, by decide +kernel, by decide +kernel⟩
theorem okLook {f f1 aS : Addr} {fd fd1 : FuncData} (F : Fun K "mean_look" "mean_look" sLook f fd) (T : Blt mg) (cS : Cst K mg "STUCK" aS (.tuple [.str "stuck"])) (Dis_position : DfD P w K mg base "is_position" 2 f1 fd1 ["thing", "size"] fPosition) : FnG P w K mg base CX0 3 f fd ["items", "i"] (spD K IK.ks (fMean .look [true, false])) := by
  have sc := scLook
  refine FnG.data F sc (by decide) (fun Δ Ψ h => fMean_len h) (fun cdv A outer s H E Δ Ψ noG hr h => ?_)
  obtain ⟨vs, rfl, sh, sm, k⟩ := h
  obtain ⟨l, _, rfl, sh1⟩ := shapeX sh
  obtain ⟨x, _, rfl, sh2⟩ := shapeN sh1
  obtain rfl := shape0 sh2
  refine ⟨_, _, (xss_one (xs_ret (xe_if (xt_val (xe_call Dis_position.ok noG (hr.mono (by decide)) (by rfl) Dis_position.m Dis_position.k Dis_position.b (xp_cons (xe_var (pv 1)) (xp_cons (xe_CB (xr_cons (xe_var (pv 0)) xr_nil) (fun _ p => pe_callB call_len (by rfl) T.len (by decide +kernel) p) PLen) xp_nil)))) (xe_tup (xv_cons xe_str (xv_cons (xe_ix (xe_var (pv 0)) (xe_var (pv 1)) (fun _ _ => rfl)) xv_nil))) (xe_c (pe_glob (v := .ref aS) (by rfl) cS.m rfl) cS.c)))), ?_⟩
  have hlen : (intsD l).length = l.length := intsD_len l
  walk_at "px"
  have k' : Ψ (.v (look l x).d) := k
  refine ⟨fun e => ?_, fun e => ?_⟩
  · have hx : 0 ≤ x ∧ x < l.length := by
      have e' : isPos (.int x) ((intsD l).length : Int) = true := e
      rw [hlen] at e'; simpa [isPos] using e'
    unfold look at k'
    rw [if_pos hx] at k'
    walk_at "px"
    refine ⟨.int _, intsD_at hx.1 hx.2, ?_⟩
    walk_at "px"
    exact k'
  · have hx : ¬ (0 ≤ x ∧ x < l.length) := by
      intro z
      have e' : isPos (.int x) ((intsD l).length : Int) = false := e
      rw [hlen] at e'
      simp [isPos] at e'
      omega
    unfold look at k'
    rw [if_neg hx] at k'
    walk_at "px"
    exact k'
abbrev sFirst := top 29
theorem scFirst : FnScope ["items"] ["items"] (defScope sFirst) := ⟨rfl, rfl, rfl, by decide +kernel, rfl, by decide +kernel, by decide +kernel⟩
theorem okFirst {f f1 : Addr} {fd fd1 : FuncData} (F : Fun K "mean_first" "mean_first" sFirst f fd) (Dmean_look : DfD P w K mg base "mean_look" 3 f1 fd1 ["items", "i"] (fMean .look [true, false])) : FnG P w K mg base CX0 4 f fd ["items"] (spD K IK.ks (fMean .first [true])) := by
  have sc := scFirst
  refine FnG.data F sc (by decide) (fun Δ Ψ h => fMean_len h) (fun cdv A outer s H E Δ Ψ noG hr h => ?_)
  obtain ⟨vs, rfl, sh, sm, k⟩ := h
  obtain ⟨l, _, rfl, sh1⟩ := shapeX sh
  obtain rfl := shape0 sh1
  have ll := sm l (by simp)
  refine ⟨_, _, (xss_one (xs_ret (xe_call Dmean_look.ok noG (hr.mono (by decide)) (by rfl) Dmean_look.m Dmean_look.k Dmean_look.b (xp_cons (xe_var (pv 0)) (xp_cons xe_int xp_nil))))), ?_⟩
  walk_at "px"
  refine ⟨[.xs l, .n 0], rfl, rfl, fun m hm => ?_, ?_⟩
  · simp at hm; subst hm; exact ll
  walk_at "px"
  exact k
abbrev sLast := top 30
theorem scLast : FnScope ["items"] ["items"] (defScope sLast) := ⟨rfl, rfl, rfl, by decide +kernel, rfl, by decide +kernel, by decide +kernel⟩
theorem okLast {f f1 : Addr} {fd fd1 : FuncData} (F : Fun K "mean_last" "mean_last" sLast f fd) (T : Blt mg) (Dmean_look : DfD P w K mg base "mean_look" 3 f1 fd1 ["items", "i"] (fMean .look [true, false])) : FnG P w K mg base CX0 4 f fd ["items"] (spD K IK.ks (fMean .last [true])) := by
  have sc := scLast
  refine FnG.data F sc (by decide) (fun Δ Ψ h => fMean_len h) (fun cdv A outer s H E Δ Ψ noG hr h => ?_)
  obtain ⟨vs, rfl, sh, sm, k⟩ := h
  obtain ⟨l, _, rfl, sh1⟩ := shapeX sh
  obtain rfl := shape0 sh1
  have ll := sm l (by simp)
  refine ⟨_, _, (xss_one (xs_ret (xe_call Dmean_look.ok noG (hr.mono (by decide)) (by rfl) Dmean_look.m Dmean_look.k Dmean_look.b (xp_cons (xe_var (pv 0)) (xp_cons (xe_op op_sub PSub (xe_CB (xr_cons (xe_var (pv 0)) xr_nil) (fun _ p => pe_callB call_len (by rfl) T.len (by decide +kernel) p) PLen) xe_int) xp_nil))))), ?_⟩
  walk_at "px"
  refine ⟨[.xs l, .n (((intsD l).length : Int) - 1)], rfl, rfl, fun m hm => ?_, ?_⟩
  · simp at hm; subst hm; exact ll
  walk_at "px"
  rw [intsD_len]
  exact k
abbrev sRest := top 32
theorem scRest : FnScope ["items"] ["items"] (defScope sRest) := ⟨rfl, rfl, rfl, by decide +kernel, rfl, by decide +kernel, by decide +kernel⟩
theorem okRest {f aS : Addr} {fd : FuncData} (F : Fun K "mean_rest" "mean_rest" sRest f fd) (cS : Cst K mg "STUCK" aS (.tuple [.str "stuck"])) : FnG P w K mg base CX0 1 f fd ["items"] (spD K IK.ks (fMean .rest [true])) := by
  have sc := scRest
  refine FnG.data F sc (by decide) (fun Δ Ψ h => fMean_len h) (fun cdv A outer s H E Δ Ψ noG hr h => ?_)
  obtain ⟨vs, rfl, sh, sm, k⟩ := h
  obtain ⟨l, _, rfl, sh1⟩ := shapeX sh
  obtain rfl := shape0 sh1
  have ll := sm l (by simp)
  refine ⟨_, _, (xss_one (xs_ret (xe_if (xt_tru (xe_var (pv 0)) (fun _ p => pt_truth p (fun _ => rfl))) (xe_tup (xv_cons xe_str (xv_cons (xe_slice sl_tupA PSlT (xe_var (pv 0)) (xo_some xe_int) xo_none) xv_nil))) (xe_c (pe_glob (v := .ref aS) (by rfl) cS.m rfl) cS.c)))), ?_⟩
  walk_at "px"
  have k' : Ψ (.v (if l = [] then Mean.stuck else .ver (l.drop 1)).d) := k
  cases l with
  | nil =>
    walk_at "px"
    exact k'
  | cons x r =>
    walk_at "px"
    have e := cut_from (x :: r) 1
    rw [if_neg (by simp)] at k'
    have k2 : Ψ (.v (.tuple [.str "version", .tuple (intsD ((x :: r).drop 1))])) := k'
    rw [← e] at k2
    exact k2
abbrev sInit := top 33
theorem scInit : FnScope ["items"] ["items"] (defScope sInit) := ⟨rfl, rfl, rfl, by decide +kernel, rfl, by decide +kernel, by decide +kernel⟩
theorem okInit {f aS : Addr} {fd : FuncData} (F : Fun K "mean_init" "mean_init" sInit f fd) (cS : Cst K mg "STUCK" aS (.tuple [.str "stuck"])) : FnG P w K mg base CX0 1 f fd ["items"] (spD K IK.ks (fMean .init [true])) := by
  have sc := scInit
  refine FnG.data F sc (by decide) (fun Δ Ψ h => fMean_len h) (fun cdv A outer s H E Δ Ψ noG hr h => ?_)
  obtain ⟨vs, rfl, sh, sm, k⟩ := h
  obtain ⟨l, _, rfl, sh1⟩ := shapeX sh
  obtain rfl := shape0 sh1
  have ll := sm l (by simp)
  refine ⟨_, _, (xss_one (xs_ret (xe_if (xt_tru (xe_var (pv 0)) (fun _ p => pt_truth p (fun _ => rfl))) (xe_tup (xv_cons xe_str (xv_cons (xe_slice sl_tupA PSlT (xe_var (pv 0)) xo_none (xo_some (xe_neg xe_int))) xv_nil))) (xe_c (pe_glob (v := .ref aS) (by rfl) cS.m rfl) cS.c)))), ?_⟩
  walk_at "px"
  have k' : Ψ (.v (if l = [] then Mean.stuck else .ver l.dropLast).d) := k
  cases l with
  | nil =>
    walk_at "px"
    exact k'
  | cons x r =>
    walk_at "px"
    have e := cut_last (x :: r)
    rw [if_neg (by simp)] at k'
    have k2 : Ψ (.v (.tuple [.str "version", .tuple (intsD (x :: r).dropLast)])) := k'
    rw [← e] at k2
    exact k2
abbrev sSet := top 34
theorem scSet : FnScope ["items", "i", "x"] ["items", "i", "x"] (defScope sSet) := ⟨rfl, rfl, rfl, by decide +kernel, rfl, by decide +kernel, by decide +kernel⟩
theorem set_ints (l : List Int) {i : Nat} (x : Int) (h : i < l.length) : intsD (l.take i) ++ (.int x :: (intsD (l.drop (i + 1)) ++ [])) = intsD (l.set i x) := by
  rw [List.set_eq_take_append_cons_drop, if_pos h]
  simp [intsD]
theorem okSet {f f1 aS : Addr} {fd fd1 : FuncData} (F : Fun K "mean_set" "mean_set" sSet f fd) (T : Blt mg) (cS : Cst K mg "STUCK" aS (.tuple [.str "stuck"])) (Dis_position : DfD P w K mg base "is_position" 2 f1 fd1 ["thing", "size"] fPosition) : FnG P w K mg base CX0 3 f fd ["items", "i", "x"] (spD K IK.ks (fMean .set [true, false, false])) := by
  have sc := scSet
  refine FnG.data F sc (by decide) (fun Δ Ψ h => fMean_len h) (fun cdv A outer s H E Δ Ψ noG hr h => ?_)
  obtain ⟨vs, rfl, sh, sm, k⟩ := h
  obtain ⟨l, _, rfl, sh1⟩ := shapeX sh
  obtain ⟨i, _, rfl, sh2⟩ := shapeN sh1
  obtain ⟨x, _, rfl, sh3⟩ := shapeN sh2
  obtain rfl := shape0 sh3
  have ll := sm l (by simp)
  have hlen : (intsD l).length = l.length := intsD_len l
  refine ⟨_, _, (xss_cons (xs_if (xt_not (xt_val (xe_call Dis_position.ok noG (hr.mono (by decide)) (by rfl) Dis_position.m Dis_position.k Dis_position.b (xp_cons (xe_var (pv 1)) (xp_cons (xe_CB (xr_cons (xe_var (pv 0)) xr_nil) (fun _ p => pe_callB call_len (by rfl) T.len (by decide +kernel) p) PLen) xp_nil))))) (xss_one (xs_ret (xe_c (pe_glob (v := .ref aS) (by rfl) cS.m rfl) cS.c))) xss_nil) 
      (xss_one (xs_ret (xe_tup (xv_cons xe_str (xv_cons (xe_tup (xv_star (xe_slice sl_tupA PSlT (xe_var (pv 0)) xo_none (xo_some (xe_var (pv 1)))) (xv_cons (xe_var (pv 2)) (xv_star (xe_slice sl_tupA PSlT (xe_var (pv 0)) (xo_some (xe_op op_add PAdd (xe_var (pv 1)) xe_int)) xo_none) xv_nil)))) xv_nil)))))), ?_⟩
  have k' : Ψ (.v (if 0 ≤ i ∧ i < l.length then Mean.ver (l.set i.toNat x) else .stuck).d) := k
  walk_at "px"
  refine ⟨fun e => ?_, fun e => ?_⟩
  · have hx : ¬ (0 ≤ i ∧ i < l.length) := by
      intro z
      have e' : (!isPos (.int i) ((intsD l).length : Int)) = true := e
      rw [hlen] at e'
      simp [isPos] at e'
      omega
    rw [if_neg hx] at k'
    walk_at "px"
    exact k'
  · have hx : 0 ≤ i ∧ i < l.length := by
      have e' : (!isPos (.int i) ((intsD l).length : Int)) = false := e
      rw [hlen] at e'; simpa [isPos] using e'
    rw [if_pos hx] at k'
    obtain ⟨j, rfl⟩ : ∃ j : Nat, i = (j : Int) := ⟨i.toNat, by omega⟩
    have hj : j < l.length := by omega
    have e1 := cut_to l j
    have e2 : Px.cutD (intsD l) (some ((j : Int) + 1)) none = intsD (l.drop (j + 1)) := cut_from l (j + 1)
    walk_at "px"
    refine ⟨?_, ?_⟩
    · show (Px.cutD (intsD l) none (some (j : Int)) ++ _).length ≤ sizeLine
      refine sz ?_
      rw [e1]
      show (_ ++ (_ :: (Px.cutD (intsD l) (some ((j : Int) + 1)) none ++ []))).length ≤ 1000
      rw [e2]
      simp [intsD]; omega
    walk_at "px"
    have k2 : Ψ (.v (.tuple [.str "version", .tuple (intsD (l.set j x))])) := k'
    rw [← set_ints l x hj, ← e1, ← e2] at k2
    exact k2
abbrev sJoin := top 35
theorem scJoin : FnScope ["first", "second"] ["first", "second"] (defScope sJoin) := ⟨rfl, rfl, rfl, by decide +kernel, rfl, by decide +kernel, by decide +kernel⟩
theorem okJoin {f : Addr} {fd : FuncData} (F : Fun K "mean_join" "mean_join" sJoin f fd) : FnG P w K mg base CX0 1 f fd ["first", "second"] (spD K IK.ks (fMean .join [true, true])) := by
  have sc := scJoin
  refine FnG.data F sc (by decide) (fun Δ Ψ h => fMean_len h) (fun cdv A outer s H E Δ Ψ noG hr h => ?_)
  obtain ⟨vs, rfl, sh, sm, k⟩ := h
  obtain ⟨l, _, rfl, sh1⟩ := shapeX sh
  obtain ⟨m, _, rfl, sh2⟩ := shapeX sh1
  obtain rfl := shape0 sh2
  have l1 := sm l (by simp)
  have l2 := sm m (by simp)
  refine ⟨_, _, (xss_one (xs_ret (xe_tup (xv_cons xe_str (xv_cons (xe_op op_catA PCatT (xe_var (pv 0)) (xe_var (pv 1))) xv_nil))))), ?_⟩
  walk_at "px"
  refine ⟨sz (by simp [intsD]; omega), ?_⟩
  walk_at "px"
  have k2 : Ψ (.v (.tuple [.str "version", .tuple (intsD (l ++ m))])) := k
  rw [← intsD_app] at k2
  exact k2
end
end K59
end

/-! K59e -/
section
set_option Elab.async false
set_option linter.all false
set_option maxRecDepth 100000
set_option maxHeartbeats 4000000
namespace K59
open PySem PySem.Spec PyProof.Rows L2 Dh Px
local macro_rules | `(tactic| walk_at "px") => `(tactic| repeat (first
  | refine yT ?_ | refine yF ?_ | refine ⟨_, rfl, ?_⟩ | refine ⟨_, _, rfl, rfl, ?_⟩ | refine ⟨_, _, rfl, ?_⟩
  | refine ⟨_, _, rfl, isi (.tuple _), ?_⟩ | refine ⟨_, _, rfl, isi (.str _), ?_⟩ | refine ⟨_, _, rfl, isi (.int _), ?_⟩ | refine ⟨_, _, rfl, isi (.bool _), ?_⟩
  | refine ⟨True.intro, ?_⟩ | refine ⟨rfl, ?_⟩ | refine ⟨(Nat.le_of_ble_eq_true rfl : _ ≤ sizeLine), ?_⟩))
section
variable {P : Program} {w : World} {K : PySem.W.Frag} {mg : Str → Option Value} {base : Heap}
abbrev sMerge := top 37
theorem scMerge : FnScope ["first", "second"] ["first", "second"] (defScope sMerge) := ⟨rfl, rfl, rfl, by decide +kernel, rfl, by decide +kernel, by decide +kernel⟩
theorem okMerge {f : Addr} {fd : FuncData} (F : Fun K "mean_merge" "mean_merge" sMerge f fd) (T : Blt mg) : FnG P w K mg base CX0 1 f fd ["first", "second"] (spD K IK.ks (fMean .merge [true, true])) := by
  have sc := scMerge
  refine FnG.data F sc (by decide) (fun Δ Ψ h => fMean_len h) (fun cdv A outer s H E Δ Ψ noG hr h => ?_)
  obtain ⟨vs, rfl, sh, sm, k⟩ := h
  obtain ⟨l, _, rfl, sh1⟩ := shapeX sh
  obtain ⟨m, _, rfl, sh2⟩ := shapeX sh1
  obtain rfl := shape0 sh2
  have l1 := sm l (by simp)
  have l2 := sm m (by simp)
  refine ⟨_, _, (xss_one (xs_ret (xe_tup (xv_cons xe_str (xv_cons (xe_CB (xr_cons (xe_CB (xr_cons (xe_op op_catA PCatT (xe_var (pv 0)) (xe_var (pv 1))) xr_nil) (fun _ p => pe_callB cr_sortedTp (by rfl) T.sorted (by decide +kernel) p) PSortTp) xr_nil) (fun _ p => pe_callTy call_tuple_of (by rfl) T.tuple (by decide +kernel) p) PTupOf) xv_nil))))), ?_⟩
  walk_at "px"
  refine ⟨sz (by simp [intsD]; omega), ?_⟩
  walk_at "px"
  refine ⟨l ++ m, intsD_app l m, fun ns' hp hs => ?_⟩
  walk_at "px"
  rw [sortI_eq hp hs]
  exact k
abbrev sInsert := top 36
theorem scInsert : FnScope ["items", "x"] ["items", "x"] (defScope sInsert) := ⟨rfl, rfl, rfl, by decide +kernel, rfl, by decide +kernel, by decide +kernel⟩
theorem okInsert {f f1 : Addr} {fd fd1 : FuncData} (F : Fun K "mean_insert" "mean_insert" sInsert f fd) (Dmean_merge : DfD P w K mg base "mean_merge" 1 f1 fd1 ["first", "second"] (fMean .merge [true, true])) : FnG P w K mg base CX0 2 f fd ["items", "x"] (spD K IK.ks (fMean .insert [true, false])) := by
  have sc := scInsert
  refine FnG.data F sc (by decide) (fun Δ Ψ h => fMean_len h) (fun cdv A outer s H E Δ Ψ noG hr h => ?_)
  obtain ⟨vs, rfl, sh, sm, k⟩ := h
  obtain ⟨l, _, rfl, sh1⟩ := shapeX sh
  obtain ⟨x, _, rfl, sh2⟩ := shapeN sh1
  obtain rfl := shape0 sh2
  have l1 := sm l (by simp)
  refine ⟨_, _, (xss_one (xs_ret (xe_call Dmean_merge.ok noG (hr.mono (by decide)) (by rfl) Dmean_merge.m Dmean_merge.k Dmean_merge.b (xp_cons (xe_var (pv 0)) (xp_cons (xe_tup (xv_cons (xe_var (pv 1)) xv_nil)) xp_nil))))), ?_⟩
  walk_at "px"
  refine ⟨[.xs l, .xs [x]], rfl, rfl, fun m hm => ?_, ?_⟩
  · simp at hm
    rcases hm with rfl | rfl
    · exact l1
    · simp
  walk_at "px"
  exact k
/-! ### what a deed means, by the program -/
def kindsT : Str → Option Px.D := fun z => (([Kd.queue, .deque, .list, .joined, .heap].find? fun k => decide (k.name = z)).map fun k => .v (.tuple (k.fns.map fun f => .str f.name)))
def allFn : List Fn := [.empty, .put, .first, .rest, .front, .back, .last, .init, .cons, .head, .tail, .look, .set, .one, .join, .insert, .least, .without, .merge]
def sortD (b : Bool) : PyData := .str (if b then "version" else "integer")
def paramsT : Str → Option Px.D := fun z => (allFn.find? fun f => decide (f.name = z)).map fun f => .v (.tuple (f.sig.map sortD))
theorem kindsT_at (k : Kd) : kindsT k.name = some (.v (.tuple (k.fns.map fun f => .str f.name))) := by cases k <;> rfl
theorem paramsT_at (f : Fn) : paramsT f.name = some (.v (.tuple (f.sig.map sortD))) := by cases f <;> rfl
def kindB : Str → Option Bool := fun z => if ([Kd.queue, .deque, .list, .joined, .heap].any fun k => decide (k.name = z)) = true then some true else none
theorem kindB_at (k : Kd) : kindB k.name = some true := by cases k <;> rfl
theorem inKind {k : Kd} {f : Fn} (h : f ∈ k.fns) : inV (toV (.str f.name)) ((k.fns.map fun f => PyData.str f.name).map toV) = true := by
  have e : ∀ x ∈ k.fns, eqV (toV (PyData.str x.name)) (toV (PyData.str x.name)) = true := fun x _ => by simp [toV, eqV]
  unfold inV
  rw [List.any_eq_true]
  exact ⟨toV (.str f.name), by rw [List.map_map]; exact List.mem_map.mpr ⟨f, h, rfl⟩, e f h⟩
def ansD : List PyData := [.str "first", .str "last", .str "head", .str "look", .str "least"]
theorem ans_in (f : Fn) : inV (toV (.str f.name)) (ansD.map toV) = f.ans := by cases f <;> rfl
theorem flat_names (k : Kd) : (k.fns.map fun f => PyData.str f.name).all flatD = true := by cases k <;> rfl
def fGiven : PF := fun Δ Ψ => ∃ (b : Bool) (a : Arg) (ds : List Deed) (p : Nat), Δ = [.v (sortD b), .v a.d, .v (worldD ds), .v (.int (p : Int))] ∧ argOk ds p a b ∧ Ψ (.v (.bool true))
theorem world_at {ds : List Deed} {k : Nat} {x : Deed} (h : ds[k]? = some x) : atI (ds.map Deed.d) (k : Int) = some x.d := by
  have hl : k < ds.length := (List.getElem?_eq_some_iff.mp h).1
  unfold atI ixN
  rw [List.length_map, if_pos (by omega), if_pos (by omega)]
  show (ds.map Deed.d)[(k : Int).toNat]? = _
  rw [Int.toNat_natCast, List.getElem?_map, h]; rfl
abbrev sGiven := top 21
theorem scGiven : FnScope ["sort", "argument", "things", "position"] ["sort", "argument", "things", "position"] (defScope sGiven) := ⟨rfl, rfl, rfl, by decide +kernel, rfl, by decide +kernel, by decide +kernel⟩
theorem okGiven {f f1 f2 aA : Addr} {fd fd1 fd2 : FuncData} (F : Fun K "is_given" "is_given" sGiven f fd) (Dis_integer : DfD P w K mg base "is_integer" 1 f1 fd1 ["thing"] fInteger) (Dis_result : DfD P w K mg base "is_result" 3 f2 fd2 ["thing", "position"] fResult) (cA : Cst K mg "ANSWERING" aA (.tuple ansD)) :
    FnG P w K mg base CX0 4 f fd ["sort", "argument", "things", "position"] (spD K IK.ks fGiven) := by
  have sc := scGiven
  refine FnG.data F sc (by decide) (fun Δ Ψ h => by obtain ⟨_, _, _, _, rfl, _⟩ := h; rfl) (fun cdv A outer s H E Δ Ψ noG hr h => ?_)
  obtain ⟨b, a, ds, p, rfl, ok, k⟩ := h
  refine ⟨_, _, (xss_cons (xs_if (xt_cmp op_eq PEq (xe_var (pv 0)) xe_str (nomark _)) (xss_one (xs_ret (xe_call Dis_integer.ok noG (hr.mono (by decide)) (by rfl) Dis_integer.m Dis_integer.k Dis_integer.b (xp_cons (xe_var (pv 1)) xp_nil)))) xss_nil) 
      (xss_one (xs_ret (xe_and (xe_call Dis_result.ok noG (hr.mono (by decide)) (by rfl) Dis_result.m Dis_result.k Dis_result.b (xp_cons (xe_var (pv 1)) (xp_cons (xe_var (pv 3)) xp_nil))) (xe_one (xe_cmp op_notIn_seq PNotIn (xe_ix (xe_ix (xe_var (pv 2)) (xe_ix (xe_var (pv 1)) xe_int (fun _ _ => rfl)) (fun _ _ => rfl)) xe_int (fun _ _ => rfl)) (xe_c (pe_glob (v := .ref aA) (by rfl) cA.m rfl) cA.c) (by rfl))))))), ?_⟩
  cases a with
  | i n =>
    have e : b = false := ok
    subst e
    walk_at "px"
    exact k
  | of j =>
    obtain ⟨rfl, lt, x, hx, ha⟩ := ok
    walk_at "px"
    refine ⟨lt, ?_⟩
    walk_at "px"
    refine ⟨x.d, world_at hx, ?_⟩
    walk_at "px"
    rw [ans_in, ha]
    exact k
def fDeed : PF := fun Δ Ψ => ∃ (kd : Kd) (ds : List Deed) (p : Nat), Δ = [.v (.str kd.name), .v (worldD ds), .v (.int (p : Int))] ∧ deedOk kd ds p ∧ Ψ (.v (.bool true))
theorem ArgsOk.len {ds : List Deed} {p : Nat} : ∀ {as : List Arg} {bs : List Bool}, ArgsOk ds p as bs → as.length = bs.length
  | _, _, .nil => rfl
  | _, _, .cons _ b => by simp [ArgsOk.len b]
theorem ArgsOk.zip {ds : List Deed} {p : Nat} : ∀ {as : List Arg} {bs : List Bool}, ArgsOk ds p as bs → ∀ d ∈ zipD (bs.map sortD) (as.map Arg.d), ∃ a b, d = .tuple [sortD b, a.d] ∧ argOk ds p a b
  | _, _, .nil, d, h => by cases h
  | _, _, @ArgsOk.cons _ _ a b as bs h1 h2, d, h => by
    have h' : d ∈ PyData.tuple [sortD b, a.d] :: zipD (bs.map sortD) (as.map Arg.d) := h
    rcases List.mem_cons.mp h' with rfl | h'
    · exact ⟨a, b, rfl, h1⟩
    · exact ArgsOk.zip h2 d h'
theorem sig_few (f : Fn) : f.sig.length ≤ 3 := by cases f <;> decide
theorem bools_all : ∀ (ds : List PyData), boolsOf (ds.map fun _ => PyData.bool true) = some (ds.map fun _ => true)
  | [] => rfl
  | d :: r => by simp only [List.map_cons, boolsOf, bools_all r]; rfl
theorem all_true (ds : List PyData) : (ds.map fun _ => true).all id = true := by induction ds with | nil => rfl | cons d r ih => simpa using ih
abbrev sDeed := top 20
abbrev namesDeed : List Str := ["kind", "things", "position", "thing", "f", "arguments", "sort", "argument"]
theorem scDeed : FnScope namesDeed ["kind", "things", "position"] (defScope sDeed) := ⟨rfl, rfl, rfl, by decide +kernel, rfl, by decide +kernel, by decide +kernel⟩
theorem okDeed {f f1 f2 aK aP : Addr} {fd fd1 fd2 : FuncData} (F : Fun K "is_kind_deed" "is_kind_deed" sDeed f fd) (T : Blt mg) (Dhas_deed_form : DfD P w K mg base "has_deed_form" 1 f1 fd1 ["thing"] fForm) (Dis_given : DfD P w K mg base "is_given" 4 f2 fd2 ["sort", "argument", "things", "position"] fGiven)
    (tK : TabC K w mg "KINDS" aK kindsT) (tP : TabC K w mg "PARAMETERS" aP paramsT) : FnG P w K mg base CX0 5 f fd ["kind", "things", "position"] (spD K IK.ks fDeed) := by
  have sc := scDeed
  refine FnG.data F sc (by decide) (fun Δ Ψ h => by obtain ⟨_, _, _, rfl, _⟩ := h; rfl) (fun cdv A outer s H E Δ Ψ noG hr h => ?_)
  obtain ⟨kd, ds, p, rfl, ⟨x, hx, hf, ha⟩, k⟩ := h
  refine ⟨_, _, (xss_cons (xs_set (i := 3) sc.nd rfl (Or.inl rfl) (xe_ix (xe_var (pv 1)) (xe_var (pv 2)) (fun _ _ => rfl))) 
      (xss_cons (xs_if (xt_w (xw_or (xt_not (xt_val (xe_call Dhas_deed_form.ok noG (hr.mono (by decide)) (by rfl) Dhas_deed_form.m Dhas_deed_form.k Dhas_deed_form.b (xp_cons (xe_var (pv 3)) xp_nil)))) (xw_or1 (xt_cmp op_notIn_seq PNotIn (xe_ix (xe_var (pv 3)) xe_int (fun _ _ => rfl)) (xe_kd tK.t (pe_glob (v := .ref aK) (by rfl) tK.m rfl) (xe_var (pv 0)) (fun _ _ => rfl)) (by rfl))))) (xss_one (xs_ret xe_bl)) xss_nil) 
      (xss_cons (xs_asg (xe_var (pv 3)) (xg_tup (by rfl) (xgs_cons (xg_name (i := 4) sc.nd rfl (Or.inl rfl)) (xgs_cons (xg_name (i := 5) sc.nd rfl (Or.inl rfl)) xgs_nil)))) 
      (xss_cons (xs_if (xt_cmp op_ne PNe (xe_CB (xr_cons (xe_var (pv 5)) xr_nil) (fun _ p => pe_callB call_len (by rfl) T.len (by decide +kernel) p) PLen) (xe_CB (xr_cons (xe_kd tP.t (pe_glob (v := .ref aP) (by rfl) tP.m rfl) (xe_var (pv 4)) (fun _ _ => rfl)) xr_nil) (fun _ p => pe_callB call_len (by rfl) T.len (by decide +kernel) p) PLen) (nomark _)) (xss_one (xs_ret xe_bl)) xss_nil) 
      (xss_one (xs_ret (xe_CB (xr_cons (xe_lc (own := [("sort", 6), ("argument", 7)]) (g := gTup K 2 (gCons (gName 6) (gCons (gName 7) gNil))) (tt := tYes) (te := (tCall (spD K IK.ks _) [] (fun _ _ _ => False) (tCons (tVar 6) (tCons (tVar 7) (tCons (tVar 1) (tCons (tVar 2) tNil)))))) rfl sc.nd (xc_zipT (by rfl) T.zip (xe_kd tP.t (pe_glob (v := .ref aP) (by rfl) tP.m rfl) (xe_var (pv 4)) (fun _ _ => rfl)) (xe_var (pv 5))) (blkOk_by (N := namesDeed) (sc := defScope sDeed) (by decide +kernel)) (fun _ _ _ _ _ => (xg_tup (by rfl) (xgs_cons (xg_name (i := 6) sc.nd rfl (Or.inl rfl)) (xgs_cons (xg_name (i := 7) sc.nd rfl (Or.inl rfl)) xgs_nil)))) (fun _ _ _ _ _ => xts_nil) (fun _ _ _ _ _ => (xe_call Dis_given.ok noG (hr.mono (by decide)) (by rfl) Dis_given.m Dis_given.k Dis_given.b (xp_cons (xe_var (pv 6)) (xp_cons (xe_var (pv 7)) (xp_cons (xe_var (pv 1)) (xp_cons (xe_var (pv 2)) xp_nil))))))) xr_nil) (fun _ p => pe_callB (cr_all rfl) (by rfl) T.all (by decide +kernel) p) PAll))))))), ?_⟩
  have hlen : (x.args.map Arg.d).length = (x.f.sig.map sortD).length := by rw [List.length_map, List.length_map, ha.len]
  walk_at "px"
  refine ⟨x.d, world_at hx, ?_⟩
  walk_at "px"
  refine ⟨_, _, rfl, kindsT_at kd, ?_⟩
  walk_at "px"
  refine ⟨flat_names kd, ?_⟩
  rw [inKind hf]
  walk_at "px"
  refine ⟨_, _, rfl, paramsT_at x.f, ?_⟩
  walk_at "px"
  rw [hlen]
  walk_at "px"
  refine ⟨fun e => absurd e (by simp), fun _ => ?_⟩
  walk_at "px"
  refine ⟨_, _, rfl, paramsT_at x.f, ?_⟩
  walk_at "px"
  have hz : (zipD (x.f.sig.map sortD) (x.args.map Arg.d)).length ≤ sizeLine := by
    rw [zip_len, List.length_map]
    have := sig_few x.f
    exact sz (by omega)
  refine comp_map (fun _ => .bool true) rfl ⟨rfl, rfl⟩ hz (fun d hd N hN => ?_) ?_
  · obtain ⟨a, b, rfl, ok⟩ := ha.zip d hd
    walk_at "px"
    refine ⟨b, a, ds, p, rfl, ok, ?_⟩
    walk_at "px"
    exact hN _ rfl
  · walk_at "px"
    refine ⟨_, bools_all _, ?_⟩
    rw [all_true]
    walk_at "px"
    exact k
/-! ### the world is one of its kind -/
def fKind : PF := fun Δ Ψ => ∃ kd : Kd, Δ = [.v (.str kd.name)] ∧ Ψ (.v .none)
abbrev sKind := top 18
theorem scKind : FnScope ["kind"] ["kind"] (defScope sKind) := ⟨rfl, rfl, rfl, by decide +kernel, rfl, by decide +kernel, by decide +kernel⟩
theorem okKind {f aK : Addr} {fd : FuncData} {es : Array DictEntry} {n : Nat} (F : Fun K "check_kind" "check_kind" sKind f fd) (T : Blt mg) (mK : mg "KINDS" = some (.ref aK)) (iK : TabIn K w aK es n kindB) : FnG P w K mg base CX0 1 f fd ["kind"] (spD K IK.ks fKind) := by
  have sc := scKind
  refine FnG.data F sc (by decide) (fun Δ Ψ h => by obtain ⟨_, rfl, _⟩ := h; rfl) (fun cdv A outer s H E Δ Ψ noG hr h => ?_)
  obtain ⟨kd, rfl, k⟩ := h
  refine ⟨_, _, (xss_one (xs_if (xt_w (xw_or (xt_not (xt_val (xe_isi (by rfl) T.isinstance (xe_var (pv 0)) (pe_bltn (v := .ty "str") (by rfl) T.str (by decide +kernel) rfl)))) (xw_or1 (xt_notInKd iK (pe_glob (v := .ref aK) (by rfl) mK rfl) (xe_var (pv 0)) (by rfl))))) xss_never xss_nil)), ?_⟩
  walk_at "px"
  refine ⟨_, _, rfl, kindB_at kd, ?_⟩
  walk_at "px"
  exact k
def fWorld : PF := fun Δ Ψ => ∃ (kd : Kd) (ds : List Deed), Δ = [.v (.str kd.name), .v (worldD ds)] ∧ worldOk kd ds ∧ ds.length ≤ 100 ∧ Ψ (.v (.bool true))
abbrev sWorld := top 19
theorem scWorld : FnScope ["kind", "thing", "position"] ["kind", "thing"] (defScope sWorld) := ⟨rfl, rfl, rfl, by decide +kernel, rfl, by decide +kernel, by decide +kernel⟩
theorem range_mem {n : Nat} {d : PyData} (h : d ∈ rangeD 0 n) : ∃ p : Nat, p < n ∧ d = .int (p : Int) := by
  unfold rangeD at h
  obtain ⟨p, hp, rfl⟩ := List.mem_map.mp h
  exact ⟨p, List.mem_range.mp hp, by rw [Int.zero_add]⟩
theorem okWorld {f f1 f2 : Addr} {fd fd1 fd2 : FuncData} (F : Fun K "is_kind_world" "is_kind_world" sWorld f fd) (T : Blt mg) (Dcheck_kind : DfD P w K mg base "check_kind" 1 f1 fd1 ["kind"] fKind) (Dis_kind_deed : DfD P w K mg base "is_kind_deed" 5 f2 fd2 ["kind", "things", "position"] fDeed) : FnG P w K mg base CX0 6 f fd ["kind", "thing"] (spD K IK.ks fWorld) := by
  have sc := scWorld
  refine FnG.data F sc (by decide) (fun Δ Ψ h => by obtain ⟨_, _, rfl, _⟩ := h; rfl) (fun cdv A outer s H E Δ Ψ noG hr h => ?_)
  obtain ⟨kd, ds, rfl, ok, few, k⟩ := h
  refine ⟨_, _, (xss_cons (xs_expr (xe_call Dcheck_kind.ok noG (hr.mono (by decide)) (by rfl) Dcheck_kind.m Dcheck_kind.k Dcheck_kind.b (xp_cons (xe_var (pv 0)) xp_nil))) 
      (xss_cons (xs_if (xt_not (xt_val (xe_isi (by rfl) T.isinstance (xe_var (pv 1)) (pe_bltn (v := .ty "tuple") (by rfl) T.tuple (by decide +kernel) rfl)))) (xss_one (xs_ret xe_bl)) xss_nil) 
      (xss_cons (xs_for PassesOwn.never rfl (xi_range1S (by rfl) T.range (xr_cons (xe_CB (xr_cons (xe_var (pv 1)) xr_nil) (fun _ p => pe_callB call_len (by rfl) T.len (by decide +kernel) p) PLen) xr_nil)) (xg_name (i := 2) sc.nd rfl (Or.inl rfl))
        (xss_one (xs_if (xt_not (xt_val (xe_call Dis_kind_deed.ok noG (hr.mono (by decide)) (by rfl) Dis_kind_deed.m Dis_kind_deed.k Dis_kind_deed.b (xp_cons (xe_var (pv 0)) (xp_cons (xe_var (pv 1)) (xp_cons (xe_var (pv 2)) xp_nil)))))) (xss_one (xs_ret xe_bl)) xss_nil))) 
      (xss_one (xs_ret xe_bl))))), ?_⟩
  walk_at "px"
  have hl : (ds.map Deed.d).length = ds.length := List.length_map _
  refine ⟨by omega, by omega, ?_⟩
  rw [hl, Int.toNat_natCast]
  refine loop_inv (fun r Γ => ∃ c : Option D, Γ = [some (.v (.str kd.name)), some (.v (worldD ds)), c] ∧ ∀ d ∈ r, d ∈ rangeD 0 ds.length) ?_ ?_ _ _ ⟨none, rfl, fun _ h => h⟩
  · rintro d r Γ N ⟨c, rfl, hr'⟩ hN
    obtain ⟨p, hp, rfl⟩ := range_mem (hr' d List.mem_cons_self)
    walk_at "px"
    refine ⟨kd, ds, p, rfl, ok p hp, ?_⟩
    walk_at "px"
    exact hN _ ⟨_, rfl, fun d hd => hr' d (List.mem_cons_of_mem _ hd)⟩
  · rintro Γ ⟨c, rfl, _⟩
    walk_at "px"
    exact k
end
end K59
end

/-! K59f -/
section
set_option Elab.async false
set_option linter.all false
set_option maxRecDepth 100000
set_option maxHeartbeats 4000000
namespace K59
open PySem PySem.Spec PyProof.Rows L2 Dh Px
local macro_rules | `(tactic| walk_at "px") => `(tactic| repeat (first
  | refine yT ?_ | refine yF ?_ | refine ⟨_, rfl, ?_⟩ | refine ⟨_, _, rfl, rfl, ?_⟩ | refine ⟨_, _, rfl, ?_⟩
  | refine ⟨_, _, rfl, isi (.tuple _), ?_⟩ | refine ⟨_, _, rfl, isi (.str _), ?_⟩ | refine ⟨_, _, rfl, isi (.int _), ?_⟩ | refine ⟨_, _, rfl, isi (.bool _), ?_⟩
  | refine ⟨True.intro, ?_⟩ | refine ⟨rfl, ?_⟩ | refine ⟨(Nat.le_of_ble_eq_true rfl : _ ≤ sizeLine), ?_⟩))
def optD : Option Pv → PyData
  | some v => v.d
  | none => .none
def meansD (ms : List Mean) : List PyData := ms.map Mean.d
theorem meansD_at {ms : List Mean} {k : Nat} {m : Mean} (h : ms[k]? = some m) : atI (meansD ms) (k : Int) = some m.d := by
  have hl : k < ms.length := (List.getElem?_eq_some_iff.mp h).1
  unfold atI ixN meansD
  rw [List.length_map, if_pos (by omega), if_pos (by omega)]
  show (ms.map Mean.d)[(k : Int).toNat]? = _
  rw [Int.toNat_natCast, List.getElem?_map, h]; rfl
section
variable {P : Program} {w : World} {K : PySem.W.Frag} {mg : Str → Option Value} {base : Heap}
def fPlain : PF := fun Δ Ψ => ∃ (a : Arg) (ms : List Mean), Δ = [.v a.d, .ro (.list (meansD ms))] ∧ (∀ k, a = .of k → k < ms.length) ∧ Ψ (.v (optD (plain ms a)))
abbrev sPlain := top 23
theorem scPlain : FnScope ["argument", "found", "word"] ["argument", "found"] (defScope sPlain) := ⟨rfl, rfl, rfl, by decide +kernel, rfl, by decide +kernel, by decide +kernel⟩
theorem okPlain {f f1 : Addr} {fd fd1 : FuncData} (F : Fun K "plain" "plain" sPlain f fd) (Dis_integer : DfD P w K mg base "is_integer" 1 f1 fd1 ["thing"] fInteger) : FnG P w K mg base CX0 2 f fd ["argument", "found"] (spD K IK.ks fPlain) := by
  have sc := scPlain
  refine FnG.data F sc (by decide) (fun Δ Ψ h => by obtain ⟨_, _, rfl, _⟩ := h; rfl) (fun cdv A outer s H E Δ Ψ noG hr h => ?_)
  obtain ⟨a, ms, rfl, hk, k⟩ := h
  refine ⟨_, _, (xss_cons (xs_if (xt_val (xe_call Dis_integer.ok noG (hr.mono (by decide)) (by rfl) Dis_integer.m Dis_integer.k Dis_integer.b (xp_cons (xe_var (pv 0)) xp_nil))) (xss_one (xs_ret (xe_var (pv 0)))) xss_nil) 
      (xss_cons (xs_set (i := 2) sc.nd rfl (Or.inl rfl) (xe_ix (xe_ix (xe_var (pv 1)) (xe_ix (xe_var (pv 0)) xe_int (fun _ _ => rfl)) (fun _ _ => rfl)) xe_int (fun _ _ => rfl))) 
      (xss_one (xs_ret (xe_if (xt_cmp op_eq PEq (xe_var (pv 2)) xe_str (nomark _)) (xe_ix (xe_ix (xe_var (pv 1)) (xe_ix (xe_var (pv 0)) xe_int (fun _ _ => rfl)) (fun _ _ => rfl)) xe_int (fun _ _ => rfl)) xe_non))))), ?_⟩
  cases a with
  | i n =>
    walk_at "px"
    exact k
  | of j =>
    have lt := hk j rfl
    have hm : ms[j]? = some ms[j] := List.getElem?_eq_getElem lt
    have e : plain ms (.of j) = match ms[j] with | .ver l => some (.xs l) | _ => none := by
      show (match ms[j]? with | some (.ver l) => some (Pv.xs l) | _ => none) = _
      rw [hm]
      cases ms[j] <;> rfl
    have hat := meansD_at hm
    rw [e] at k
    generalize ms[j] = m at hat k
    walk_at "px"
    refine ⟨m.d, hat, ?_⟩
    cases m with
    | ver l =>
      walk_at "px"
      refine ⟨_, hat, ?_⟩
      walk_at "px"
      exact k
    | ans n => walk_at "px"; exact k
    | stuck => walk_at "px"; exact k
    | none => walk_at "px"; exact k
def shapes (vs : List Pv) : List Bool := vs.map (fun p => match p with | .xs _ => true | .n _ => false)
def fMeaning : PF := fun Δ Ψ => ∃ (f : Fn) (ps : List (Option Pv)), Δ = [.v (.str f.name), .v (.list (ps.map optD))] ∧ ps.length ≤ 10 ∧
  ((∃ vs : List Pv, ps = vs.map some ∧ shapes vs = f.sig ∧ (∀ l, Pv.xs l ∈ vs → l.length ≤ 100) ∧ Ψ (.v (mean f vs).d)) ∨ (none ∈ ps ∧ Ψ (.v Mean.none.d)))
/-- the defs of the table -/
def MT (P : Program) (w : World) (K : PySem.W.Frag) (mg : Str → Option Value) (base : Heap) (aM : Addr) (f : Fn) : Prop :=
  ∃ (g : Addr) (fd : FuncData) (ps : List Str) (k : Nat), k ≤ 4 ∧ KDct K w aM f.name (.ref g) ∧ FnG P w K mg base CX0 k g fd ps (spD K IK.ks (fMean f f.sig)) ∧ PySem.W.keepIn K (.ref g) = true ∧ Binds K fd ps []
theorem bools_map {α : Type} (q : α → Bool) : ∀ (ds : List α), boolsOf (ds.map fun d => PyData.bool (q d)) = some (ds.map q)
  | [] => rfl
  | d :: r => by simp only [List.map_cons, boolsOf, bools_map q r]; rfl
theorem isNone_opt (p : Option Pv) : isNone (optD p) = p.isNone := by
  cases p with
  | none => rfl
  | some v => cases v <;> rfl
abbrev sMeaning := top 24
abbrev namesMg : List Str := ["f", "parts", "mean", "part"]
theorem scMeaning : FnScope namesMg ["f", "parts"] (defScope sMeaning) := ⟨rfl, rfl, rfl, by decide +kernel, rfl, by decide +kernel, by decide +kernel⟩
theorem okMeaning {f aM aN : Addr} {fd : FuncData} (F : Fun K "meaning" "meaning" sMeaning f fd) (T : Blt mg) (cN : Cst K mg "NONE" aN (.tuple [.str "none"])) (mM : mg "MEANINGS" = some (.ref aM)) (mt : ∀ f, MT P w K mg base aM f) : FnG P w K mg base CX0 5 f fd ["f", "parts"] (spD K IK.ks fMeaning) := by
  have sc := scMeaning
  refine FnG.data F sc (by decide) (fun Δ Ψ h => by obtain ⟨_, _, rfl, _⟩ := h; rfl) (fun cdv A outer s H E Δ Ψ noG hr h => ?_)
  obtain ⟨fn, ps, rfl, few, k⟩ := h
  obtain ⟨g, gd, qs, kk, hkk, kd, G, kp, bg⟩ := mt fn
  have tb : Tab K w aM (fun z => if z = fn.name then some (.raw (.ref g)) else none) := ⟨fun z c hc => by
    by_cases q : z = fn.name
    · rw [if_pos q] at hc
      cases hc
      exact ⟨_, by rw [q]; exact kd, .inr rfl⟩
    · rw [if_neg q] at hc; cases hc⟩
  refine ⟨_, _, (xss_cons (xs_if (xt_val (xe_CB (xr_cons (xe_lc (own := [("part", 3)]) (g := gName 3) (tt := tYes) (te := (tOp _ (tVar 3) (tC _))) rfl sc.nd (xc_list (xe_var (pv 1))) (blkOk_by (N := namesMg) (sc := defScope sMeaning) (by decide +kernel)) (fun _ _ _ _ _ => (xg_name (i := 3) sc.nd rfl (Or.inl rfl))) (fun _ _ _ _ _ => xts_nil) (fun _ _ _ _ _ => (xe_cmp op_isN PIsN (xe_var (pv 3)) xe_non (nomark _)))) xr_nil) (fun _ p => pe_callB (cr_any rfl) (by rfl) T.any (by decide +kernel) p) PAny)) (xss_one (xs_ret (xe_c (pe_glob (v := .ref aN) (by rfl) cN.m rfl) cN.c))) xss_nil) 
      (xss_cons (xs_set (i := 2) sc.nd rfl (Or.inl rfl) (xe_kd tb (pe_glob (v := .ref aM) (by rfl) mM rfl) (xe_var (pv 0)) (fun _ _ => rfl))) 
      (xss_one (xs_ret (xe_starV (i := 2) G noG (hr.mono hkk) kp bg rfl (.inl rfl) (xe_var (pv 1))))))), ?_⟩
  walk_at "px"
  refine comp_map (fun d => .bool (isNone d)) rfl rfl (by rw [List.length_map]; exact sz (by omega)) (fun d hd N hN => ?_) ?_
  · walk_at "px"
    exact hN _ rfl
  walk_at "px"
  rw [List.map_map]
  refine ⟨_, bools_map (fun p => isNone (optD p)) ps, ?_⟩
  have e : (ps.map fun p => isNone (optD p)).any id = ps.any (·.isNone) := by
    rw [List.any_map]
    congr 1
    funext p
    exact isNone_opt p
  rw [e]
  walk_at "px"
  refine ⟨fun e1 => ?_, fun e1 => ?_⟩
  · rcases k with ⟨vs, rfl, _⟩ | ⟨_, k⟩
    · rw [List.any_eq_true] at e1
      obtain ⟨p, hp, hn⟩ := e1
      obtain ⟨v, _, rfl⟩ := List.mem_map.mp hp
      cases hn
    · walk_at "px"
      exact k
  · rcases k with ⟨vs, rfl, h1, h2, k⟩ | ⟨hn, _⟩
    · walk_at "px"
      refine ⟨_, _, rfl, if_pos rfl, ?_⟩
      walk_at "px"
      refine ⟨vs, ?_, h1, h2, ?_⟩
      · simp only [List.map_map]
        rfl
      walk_at "px"
      exact k
    · have : ps.any (·.isNone) = true := List.any_eq_true.mpr ⟨none, hn, rfl⟩
      rw [this] at e1; cases e1
end
end K59
end

/-! K59g -/
section
set_option Elab.async false
set_option linter.all false
set_option maxRecDepth 100000
set_option maxHeartbeats 4000000
namespace K59
open PySem PySem.Spec PyProof.Rows L2 Dh Px
local macro_rules | `(tactic| walk_at "px") => `(tactic| repeat (first
  | refine yT ?_ | refine yF ?_ | refine ⟨_, rfl, ?_⟩ | refine ⟨_, _, rfl, rfl, ?_⟩ | refine ⟨_, _, rfl, ?_⟩
  | refine ⟨_, _, rfl, isi (.tuple _), ?_⟩ | refine ⟨_, _, rfl, isi (.str _), ?_⟩ | refine ⟨_, _, rfl, isi (.int _), ?_⟩ | refine ⟨_, _, rfl, isi (.bool _), ?_⟩
  | refine ⟨⟨_, rfl⟩, ?_⟩ | refine ⟨True.intro, ?_⟩ | refine ⟨rfl, ?_⟩ | refine ⟨(Nat.le_of_ble_eq_true rfl : _ ≤ sizeLine), ?_⟩))
/-! ### the meanings of a row of deeds -/
theorem means_app : ∀ (a b : List Deed) (ms : List Mean), means (a ++ b) ms = means b (means a ms)
  | [], _, _ => rfl
  | x :: a, b, ms => means_app a b _
theorem means_snoc (a : List Deed) (x : Deed) : means (a ++ [x]) [] = means a [] ++ [meant x (means a [])] := by rw [means_app]; rfl
theorem means_len : ∀ (a : List Deed) (ms : List Mean), (means a ms).length = ms.length + a.length
  | [], _ => rfl
  | x :: a, ms => by
    show (means a _).length = _
    rw [means_len a]; simp; omega
theorem means_pre : ∀ (a : List Deed) (ms : List Mean), ms <+: means a ms
  | [], _ => List.prefix_refl _
  | x :: a, ms => (List.prefix_append ms _).trans (means_pre a _)
theorem plain_of {ms : List Mean} {k : Nat} {v : Pv} (h : plain ms (.of k) = some v) : ∃ l, v = .xs l ∧ ms[k]? = some (.ver l) := by
  have h' : (match ms[k]? with | some (.ver l) => some (Pv.xs l) | _ => none) = some v := h
  cases e : ms[k]? with
  | none => rw [e] at h'; cases h'
  | some m =>
    rw [e] at h'
    cases m with
    | ver l => cases h'; exact ⟨l, rfl, rfl⟩
    | ans n => cases h'
    | stuck => cases h'
    | none => cases h'
def isX : Pv → Bool
  | .xs _ => true
  | .n _ => false
theorem shapes_cons (v : Pv) (vs : List Pv) : shapes (v :: vs) = isX v :: shapes vs := by cases v <;> rfl
/-- the arguments' shapes -/
theorem plains_shape {ds : List Deed} {p : Nat} {ms : List Mean} : ∀ {as : List Arg} {bs : List Bool} {vs : List Pv}, ArgsOk ds p as bs → plains ms as = some vs → shapes vs = bs
  | _, _, vs, .nil, h => by cases h; rfl
  | _, _, vs, @ArgsOk.cons _ _ a b as bs h1 h2, h => by
    unfold plains at h
    cases e1 : plain ms a with
    | none => rw [e1] at h; cases h
    | some v =>
      cases e2 : plains ms as with
      | none => rw [e1, e2] at h; cases h
      | some ws =>
        rw [e1, e2] at h; cases h
        have r := plains_shape h2 e2
        have hb : isX v = b := by
          cases a with
          | i n =>
            cases e1
            have : b = false := h1
            rw [this]; rfl
          | of k =>
            obtain ⟨rfl, _⟩ := h1
            obtain ⟨l, rfl, _⟩ := plain_of e1
            rfl
        rw [shapes_cons, r, hb]
theorem plains_some {ms : List Mean} : ∀ {as : List Arg} {vs : List Pv}, plains ms as = some vs → as.map (plain ms) = vs.map some
  | [], vs, h => by cases h; rfl
  | a :: as, vs, h => by
    unfold plains at h
    cases e1 : plain ms a with
    | none => rw [e1] at h; cases h
    | some v =>
      cases e2 : plains ms as with
      | none => rw [e1, e2] at h; cases h
      | some ws =>
        rw [e1, e2] at h; cases h
        rw [List.map_cons, List.map_cons, e1, plains_some e2]
theorem plains_none {ms : List Mean} : ∀ {as : List Arg}, plains ms as = none → none ∈ as.map (plain ms)
  | [], h => by cases h
  | a :: as, h => by
    unfold plains at h
    cases e1 : plain ms a with
    | none => simp [e1]
    | some v =>
      cases e2 : plains ms as with
      | none => exact List.mem_cons_of_mem _ (plains_none e2)
      | some ws => rw [e1, e2] at h; cases h
theorem plains_mem {ms : List Mean} : ∀ {as : List Arg} {vs : List Pv} {l : List Int}, plains ms as = some vs → Pv.xs l ∈ vs → Mean.ver l ∈ ms
  | [], vs, l, h, hl => by cases h; cases hl
  | a :: as, vs, l, h, hl => by
    unfold plains at h
    cases e1 : plain ms a with
    | none => rw [e1] at h; cases h
    | some v =>
      cases e2 : plains ms as with
      | none => rw [e1, e2] at h; cases h
      | some ws =>
        rw [e1, e2] at h; cases h
        rcases List.mem_cons.mp hl with rfl | hl
        · cases a with
          | i n => cases e1
          | of k =>
            obtain ⟨l', e3, hk⟩ := plain_of e1
            cases e3
            exact List.mem_of_getElem? hk
        · exact plains_mem e2 hl
theorem args_lt {ds : List Deed} {p : Nat} : ∀ {as : List Arg} {bs : List Bool}, ArgsOk ds p as bs → ∀ a ∈ as, ∀ k, a = .of k → k < p
  | _, _, .nil, a, h, k, e => by cases h
  | _, _, @ArgsOk.cons _ _ a' b as bs h1 h2, a, h, k, e => by
    rcases List.mem_cons.mp h with rfl | h
    · subst e; exact h1.2.1
    · exact args_lt h2 a h k e
section
variable {P : Program} {w : World} {K : PySem.W.Frag} {mg : Str → Option Value} {base : Heap}
def small (ms : List Mean) : Prop := ∀ l, Mean.ver l ∈ ms → l.length ≤ 100
def fMeanings : PF := fun Δ Ψ => ∃ (kd : Kd) (ds : List Deed), Δ = [.v (.str kd.name), .v (worldD ds)] ∧ worldOk kd ds ∧ ds.length ≤ 100 ∧ small (means ds []) ∧ Ψ (.v (.tuple (meansD (means ds []))))
abbrev sMeanings := top 22
abbrev namesMs : List Str := ["kind", "world", "found", "f", "arguments", "argument"]
theorem scMeanings : FnScope namesMs ["kind", "world"] (defScope sMeanings) := ⟨rfl, rfl, rfl, by decide +kernel, rfl, by decide +kernel, by decide +kernel⟩
theorem okMeanings {f f1 f2 f3 : Addr} {fd fd1 fd2 fd3 : FuncData} (F : Fun K "meanings" "meanings" sMeanings f fd) (T : Blt mg) (Dis_kind_world : DfD P w K mg base "is_kind_world" 6 f1 fd1 ["kind", "thing"] fWorld) (Dmeaning : DfD P w K mg base "meaning" 5 f2 fd2 ["f", "parts"] fMeaning) (Dplain : DfD P w K mg base "plain" 2 f3 fd3 ["argument", "found"] fPlain) :
    FnG P w K mg base CX0 7 f fd ["kind", "world"] (spD K IK.ks fMeanings) := by
  have sc := scMeanings
  refine FnG.data F sc (by decide) (fun Δ Ψ h => by obtain ⟨_, _, rfl, _⟩ := h; rfl) (fun cdv A outer s H E Δ Ψ noG hr h => ?_)
  obtain ⟨kd, ds, rfl, ok, few, sm, k⟩ := h
  refine ⟨_, _, (xss_cons (xs_if (xt_not (xt_val (xe_call Dis_kind_world.ok noG (hr.mono (by decide)) (by rfl) Dis_kind_world.m Dis_kind_world.k Dis_kind_world.b (xp_cons (xe_var (pv 0)) (xp_cons (xe_var (pv 1)) xp_nil))))) xss_never xss_nil) 
      (xss_cons (xs_set (i := 2) sc.nd rfl (Or.inr rfl) (xe_lst xv_nil)) 
      (xss_cons (xs_for PassesOwn.never rfl (xi_tupS (xe_frz (xe_var (pv 1)))) (xg_tup (by rfl) (xgs_cons (xg_name (i := 3) sc.nd rfl (Or.inl rfl)) (xgs_cons (xg_name (i := 4) sc.nd rfl (Or.inl rfl)) xgs_nil)))
        (xss_one (xs_expr (xe_append (i := 2) (xe_call Dmeaning.ok noG (hr.mono (by decide)) (by rfl) Dmeaning.m Dmeaning.k Dmeaning.b (xp_cons (xe_var (pv 3)) (xp_cons (xe_lc (own := [("argument", 5)]) (g := gName 5) (tt := tYes) (te := (tCall (spD K IK.ks _) [] (fun _ _ _ => False) (tCons (tVar 5) (tCons (tVar 2) tNil)))) rfl sc.nd (xc_tup (xe_var (pv 4))) (blkOk_by (N := namesMs) (sc := defScope sMeanings) (by decide +kernel)) (fun _ _ _ _ _ => (xg_name (i := 5) sc.nd rfl (Or.inl rfl))) (fun _ _ _ _ _ => xts_nil) (fun _ _ _ _ _ => (xe_call Dplain.ok noG (hr.mono (by decide)) (by rfl) Dplain.m Dplain.k Dplain.b (xp_cons (xe_var (pv 5)) (xp_cons (xe_var (pv 2)) xp_nil))))) xp_nil))) (fun _ p => pe_bm PySem.F.plainAttrs_list PySem.F.slot_list_append PySem.F.type_list_append mt_append (pv 2) p))))) 
      (xss_one (xs_ret (xe_CB (xr_cons (xe_var (pv 2)) xr_nil) (fun _ p => pe_callTy call_tuple_of (by rfl) T.tuple (by decide +kernel) p) PTupOf)))))), ?_⟩
  walk_at "px"
  refine ⟨ok, few, ?_⟩
  walk_at "px"
  refine loop_inv (fun r Γ => ∃ (a b : List Deed) (c3 c4 : Option D), ds = a ++ b ∧ r = b.map Deed.d ∧ Γ = [some (.v (.str kd.name)), some (.v (worldD ds)), some (.own (.list (meansD (means a [])))), c3, c4, none]) ?_ ?_ _ _ ⟨[], ds, none, none, rfl, rfl, rfl⟩
  · rintro d r Γ N ⟨a, b, c3, c4, e, hr', rfl⟩ hN
    cases b with
    | nil => cases hr'
    | cons x b =>
      cases hr'
      have hp : ds[a.length]? = some x := by rw [e]; simp
      obtain ⟨x', hx', hf, ha⟩ := ok a.length (by rw [e]; simp)
      rw [hp] at hx'; cases hx'
      have hms : (means a []).length = a.length := by rw [means_len]; simp
      have hal : x.args.length ≤ 3 := by rw [ha.len]; exact sig_few _
      have pre : means a [] <+: means ds [] := by rw [e, means_app]; exact means_pre _ _
      have smA : small (means a []) := fun l hl => sm l (pre.subset hl)
      walk_at "px"
      refine Px.comp_map (fun d => optD (plain (means a []) (match d with | .int n => .i n | .tuple [_, .int k] => .of k.toNat | _ => .i 0))) rfl rfl (by rw [List.length_map]; exact sz (by omega)) (fun d hd N' hN' => ?_) ?_
      · obtain ⟨y, hy, rfl⟩ := List.mem_map.mp hd
        walk_at "px"
        refine ⟨fun k hk => by rw [hms]; exact args_lt ha y hy k hk, ?_⟩
        walk_at "px"
        have e2 : (match y.d with | .int n => Arg.i n | .tuple [_, .int k] => .of k.toNat | _ => .i 0) = y := by cases y <;> rfl
        have := hN' [some (.v (.str kd.name)), some (.v (worldD ds)), some (.own (.list (meansD (means a [])))), some (.v (.str x.f.name)), some (.v (.tuple (x.args.map Arg.d))), some (.v y.d)] rfl
        rw [e2] at this
        exact this
      · have e3 : (x.args.map Arg.d).map (fun d => optD (plain (means a []) (match d with | .int n => .i n | .tuple [_, .int k] => .of k.toNat | _ => .i 0))) = (x.args.map (plain (means a []))).map optD := by
          rw [List.map_map, List.map_map]
          refine List.map_congr_left fun y _ => ?_
          cases y <;> rfl
        rw [e3]
        have fin : meansD (means a []) ++ [(meant x (means a [])).d] = meansD (means (a ++ [x]) []) := by rw [means_snoc]; simp [meansD]
        have lenOk : (meansD (means a [])).length < sizeLine := by
          unfold meansD
          rw [List.length_map, hms]
          have : a.length ≤ 100 := by rw [e] at few; simp at few; omega
          exact Nat.lt_of_le_of_lt this (by decide)
        have nxt : ∀ c3 c4, N [some (.v (.str kd.name)), some (.v (worldD ds)), some (.own (.list (meansD (means a []) ++ [(meant x (means a [])).d]))), c3, c4, none] := fun c3 c4 => by
          rw [fin]
          exact hN _ ⟨a ++ [x], b, c3, c4, by rw [e]; simp, rfl, rfl⟩
        walk_at "px"
        refine ⟨by rw [List.length_map]; omega, ?_⟩
        have em : meant x (means a []) = match plains (means a []) x.args with | some vs => mean x.f vs | none => .none := rfl
        cases hpl : plains (means a []) x.args with
        | some vs =>
          rw [hpl] at em
          refine .inl ⟨vs, plains_some hpl, plains_shape ha hpl, fun l hl => smA l (plains_mem hpl hl), ?_⟩
          refine ⟨_, _, _, rfl, rfl, lenOk, ?_⟩
          rw [em] at nxt
          exact nxt _ _
        | none =>
          rw [hpl] at em
          refine .inr ⟨plains_none hpl, ?_⟩
          refine ⟨_, _, _, rfl, rfl, lenOk, ?_⟩
          rw [em] at nxt
          exact nxt _ _
  · rintro Γ ⟨a, b, c3, c4, e, hr', rfl⟩
    cases b with
    | cons x b => cases hr'
    | nil =>
      rw [List.append_nil] at e
      subst e
      walk_at "px"
      exact k
end
end K59
end

/-! K59h -/
section
set_option Elab.async false
set_option linter.all false
set_option maxRecDepth 100000
set_option maxHeartbeats 4000000
namespace K59
open PySem PySem.Spec PyProof.Rows L2 Dh Px
local macro_rules | `(tactic| walk_at "px") => `(tactic| repeat (first
  | refine yT ?_ | refine yF ?_ | refine ⟨_, rfl, ?_⟩ | refine ⟨_, _, rfl, rfl, ?_⟩ | refine ⟨_, _, rfl, ?_⟩
  | refine ⟨_, _, rfl, isi (.tuple _), ?_⟩ | refine ⟨_, _, rfl, isi (.str _), ?_⟩ | refine ⟨_, _, rfl, isi (.int _), ?_⟩ | refine ⟨_, _, rfl, isi (.bool _), ?_⟩
  | refine ⟨⟨_, rfl⟩, ?_⟩ | refine ⟨True.intro, ?_⟩ | refine ⟨rfl, ?_⟩ | refine ⟨(Nat.le_of_ble_eq_true rfl : _ ≤ sizeLine), ?_⟩))
/-! ### the law's own small defs; used and branched -/
theorem room70 {k : Nat} {A : Around} (r : Room k A) : A.units + 70 < cLine := by have := r.un; omega
theorem room65 {k : Nat} {A : Around} (r : Room k A) : A.units + 65 < cLine := by have := r.un; omega
theorem lt20 {n : Nat} (h : Nat.ble n 20 = true) : n < sizeLine := Nat.lt_of_le_of_lt (Nat.le_of_ble_eq_true h) (by decide)
section
variable {P : Program} {w : World} {K : PySem.W.Frag} {mg : Str → Option Value} {base : Heap}
def fPick : PF := fun Δ Ψ => ∃ (c : D) (ds : List PyData), Δ = [.deck, c] ∧ (c = .v (.tuple ds) ∨ c = .v (.list ds) ∨ c = .ro (.list ds)) ∧ 1 ≤ ds.length ∧ ds.length ≤ 1000 ∧ ∀ d ∈ ds, Ψ (.v d)
theorem atI_pick {ds : List PyData} {i : Int} (h0 : 0 ≤ i) (h1 : i < ds.length) : ∃ d ∈ ds, atI ds i = some d := by
  unfold atI ixN
  rw [if_pos h0, if_pos h1]
  have l : i.toNat < ds.length := by omega
  exact ⟨ds[i.toNat], List.getElem_mem l, List.getElem?_eq_getElem l⟩
abbrev s_lawPick : Stmt := top 44
abbrev n_lawPick : List Str := ["deck", "some"]
theorem sc_lawPick : FnScope n_lawPick ["deck", "some"] (defScope s_lawPick) := ⟨rfl, rfl, rfl, by decide +kernel, rfl, by decide +kernel, by decide +kernel⟩
theorem ok_lawPick {f : Addr} {fd : FuncData} (F : Fun K "_law_pick" "_law_pick" s_lawPick f fd) (T : Blt mg) {f_0 : Addr} {fd_0 : FuncData} (D_law_draw : DfD P w K mg base "_law_draw" 1 f_0 fd_0 ["deck", "below"] fDraw) : FnG P w K mg base CX0 2 f fd ["deck", "some"] (spD K IK.ks fPick) := by
  have sc := sc_lawPick
  refine FnG.data F sc (by decide) (fun Δ Ψ h => by first | (obtain ⟨rfl, _⟩ := h; rfl) | (obtain ⟨_, rfl, _⟩ := h; rfl) | (obtain ⟨_, _, rfl, _⟩ := h; rfl) | (obtain ⟨_, _, _, rfl, _⟩ := h; rfl) | (obtain ⟨_, _, _, _, rfl, _⟩ := h; rfl) | (obtain ⟨_, _, _, _, _, rfl, _⟩ := h; rfl)) (fun cdv A outer s H E Δ Ψ noG hr h => ?_)
  obtain ⟨c, ds, rfl, hc, l1, l2, k⟩ := h
  refine ⟨_, _, (xss_one (xs_ret (xe_ix (xe_var (pv 1)) (xe_call D_law_draw.ok noG (hr.mono (by decide)) (by rfl) D_law_draw.m D_law_draw.k D_law_draw.b (xp_cons (xe_var (pv 0)) (xp_cons (xe_CB (xr_cons (xe_var (pv 1)) xr_nil) (fun _ p => pe_callB call_len (by rfl) T.len (by decide +kernel) p) PLen) xp_nil))) (fun _ _ => rfl)))), ?_⟩
  rcases hc with rfl | rfl | rfl
  all_goals
    walk_at "px"
    refine ⟨by omega, by omega, fun i i0 i1 => ?_⟩
    obtain ⟨d, hd, e⟩ := atI_pick i0 i1
    walk_at "px"
    refine ⟨d, e, ?_⟩
    walk_at "px"
    exact k d hd
/-- the letters of a function: what it is given, what it returns -/
def Fn.sgn : Fn → Str
  | .empty => "v" | .put => "vnv" | .first => "vn" | .rest => "vv" | .front => "nvv" | .back => "vnv" | .last => "vn" | .init => "vv" | .cons => "nvv" | .head => "vn" | .tail => "vv"
  | .look => "vnn" | .set => "vnnv" | .one => "nv" | .join => "vvv" | .insert => "vnv" | .least => "vn" | .without => "vv" | .merge => "vvv"
def tableD (k : Kd) : KD := k.fns.map fun f => (.inr f.name, .str f.sgn)
def fTable : PF := fun Δ Ψ => ∃ kd : Kd, Δ = [.v (.str kd.name)] ∧ Ψ (.v (dkD (tableD kd)))
abbrev s_lawFunctions : Stmt := top 45
abbrev n_lawFunctions : List Str := ["kind", "table"]
theorem sc_lawFunctions : FnScope n_lawFunctions ["kind"] (defScope s_lawFunctions) := ⟨rfl, rfl, rfl, by decide +kernel, rfl, by decide +kernel, by decide +kernel⟩
theorem ok_lawFunctions {f : Addr} {fd : FuncData} (F : Fun K "_law_functions" "_law_functions" s_lawFunctions f fd) (T : Blt mg) : FnG P w K mg base CX0 1 f fd ["kind"] (spD K IK.ks fTable) := by
  have sc := sc_lawFunctions
  refine FnG.data F sc (by decide) (fun Δ Ψ h => by first | (obtain ⟨rfl, _⟩ := h; rfl) | (obtain ⟨_, rfl, _⟩ := h; rfl) | (obtain ⟨_, _, rfl, _⟩ := h; rfl) | (obtain ⟨_, _, _, rfl, _⟩ := h; rfl) | (obtain ⟨_, _, _, _, rfl, _⟩ := h; rfl) | (obtain ⟨_, _, _, _, _, rfl, _⟩ := h; rfl)) (fun cdv A outer s H E Δ Ψ noG hr h => ?_)
  have hu := hu_of hr
  obtain ⟨kd, rfl, k⟩ := h
  refine ⟨_, _, (xss_cons (xs_set (i := 1) sc.nd rfl (Or.inl rfl) (xe_dict (xps_cons xe_str (xe_dict (xps_cons xe_str xe_str (xps_cons xe_str xe_str (xps_cons xe_str xe_str (xps_cons xe_str xe_str xps_nil))))) xps_nil))) 
      (xss_cons (xs_asg (xe_dict (xps_cons xe_str xe_str (xps_cons xe_str xe_str (xps_cons xe_str xe_str (xps_cons xe_str xe_str (xps_cons xe_str xe_str (xps_cons xe_str xe_str xps_nil))))))) (xg_dput (i := 1) (k := .inr "list") hu (pv 1) pe_str)) 
      (xss_cons (xs_asg (xe_dict (xps_cons xe_str xe_str (xps_cons xe_str xe_str (xps_cons xe_str xe_str (xps_cons xe_str xe_str (xps_cons xe_str xe_str xps_nil)))))) (xg_dput (i := 1) (k := .inr "heap") hu (pv 1) pe_str)) 
      (xss_cons (xs_asg (xe_dict (xps_cons xe_str xe_str (xps_cons xe_str xe_str (xps_cons xe_str xe_str (xps_cons xe_str xe_str (xps_cons xe_str xe_str (xps_cons xe_str xe_str (xps_cons xe_str xe_str xps_nil)))))))) (xg_dput (i := 1) (k := .inr "deque") hu (pv 1) pe_str)) 
      (xss_cons (xs_asg (xe_dict (xps_cons xe_str xe_str (xps_cons xe_str xe_str (xps_cons xe_str xe_str (xps_cons xe_str xe_str (xps_cons xe_str xe_str xps_nil)))))) (xg_dput (i := 1) (k := .inr "joined") hu (pv 1) pe_str)) 
      (xss_one (xs_ret (xe_dget hu (xe_var (pv 1)) (xe_var (pv 0)))))))))), ?_⟩
  cases kd <;> repeat (first | refine yT ?_ | refine yF ?_ | refine ⟨.inr _, rfl, ?_⟩ | refine ⟨_, rfl, lt20 rfl, ?_⟩ | refine ⟨_, rfl, ?_⟩ | refine ⟨_, _, rfl, rfl, ?_⟩ | refine ⟨_, _, rfl, ?_⟩ | refine ⟨True.intro, ?_⟩ | refine ⟨rfl, ?_⟩ | refine ⟨(Nat.le_of_ble_eq_true rfl : _ ≤ sizeLine), ?_⟩ | refine ⟨(Nat.le_of_ble_eq_true rfl : _ ≤ 15), ?_⟩)
  case queue => refine ⟨_, .inr "queue", dkD (tableD .queue), rfl, rfl, rfl, ?_⟩; refine ⟨_, _, rfl, ?_⟩; exact ⟨trivial, k⟩
  case deque => refine ⟨_, .inr "deque", dkD (tableD .deque), rfl, rfl, rfl, ?_⟩; refine ⟨_, _, rfl, ?_⟩; exact ⟨trivial, k⟩
  case list => refine ⟨_, .inr "list", dkD (tableD .list), rfl, rfl, rfl, ?_⟩; refine ⟨_, _, rfl, ?_⟩; exact ⟨trivial, k⟩
  case joined => refine ⟨_, .inr "joined", dkD (tableD .joined), rfl, rfl, rfl, ?_⟩; refine ⟨_, _, rfl, ?_⟩; exact ⟨trivial, k⟩
  case heap => refine ⟨_, .inr "heap", dkD (tableD .heap), rfl, rfl, rfl, ?_⟩; refine ⟨_, _, rfl, ?_⟩; exact ⟨trivial, k⟩
end
end K59
end

/-! K59i -/
section
set_option Elab.async false
set_option linter.all false
set_option maxRecDepth 100000
set_option maxHeartbeats 8000000
namespace K59
open PySem PySem.Spec PyProof.Rows L2 Dh Px
local macro_rules | `(tactic| walk_at "px") => `(tactic| repeat (first
  | refine yT ?_ | refine yF ?_ | refine ⟨_, rfl, ?_⟩ | refine ⟨_, _, rfl, rfl, ?_⟩ | refine ⟨_, _, rfl, ?_⟩
  | refine ⟨_, _, rfl, isi (.tuple _), ?_⟩ | refine ⟨_, _, rfl, isi (.str _), ?_⟩ | refine ⟨_, _, rfl, isi (.int _), ?_⟩ | refine ⟨_, _, rfl, isi (.bool _), ?_⟩
  | refine ⟨⟨_, rfl⟩, ?_⟩ | refine ⟨True.intro, ?_⟩ | refine ⟨rfl, ?_⟩ | refine ⟨(Nat.le_of_ble_eq_true rfl : _ ≤ sizeLine), ?_⟩))
/-! ### what a row of the law gives: a meaning or an integer -/
inductive Rw where
  | m (x : Mean)
  | n (i : Int)
def Rw.d : Rw → PyData
  | .m x => x.d
  | .n i => .int i
def Rw.pv : Rw → Option Pv
  | .m (.ver l) => some (.xs l)
  | .m _ => none
  | .n i => some (.n i)
def pvs : List Rw → Option (List Pv)
  | [] => some []
  | r :: rs => match r.pv, pvs rs with
    | some v, some vs => some (v :: vs)
    | _, _ => none
def lawMean (f : Fn) (rows : List Rw) : Mean := match pvs rows with
  | some vs => mean f vs
  | none => .none
def Rw.bad : PyData → Bool
  | .tuple (.str s :: _) => decide (s ≠ "version")
  | _ => false
theorem bad_pv (r : Rw) : Rw.bad r.d = r.pv.isNone := by
  cases r with
  | n i => rfl
  | m x => cases x <;> rfl
theorem bads_none : ∀ {rows : List Rw}, pvs rows = none → ((rows.map Rw.d).filter Rw.bad).isEmpty = false
  | [], h => by cases h
  | r :: rs, h => by
    unfold pvs at h
    rw [List.map_cons]
    cases e : r.pv with
    | none => rw [List.filter_cons_of_pos (by rw [bad_pv, e]; rfl)]; rfl
    | some v =>
      cases e2 : pvs rs with
      | none => rw [List.filter_cons_of_neg (by rw [bad_pv, e]; simp)]; exact bads_none e2
      | some vs => rw [e, e2] at h; cases h
theorem bads_some : ∀ {rows : List Rw} {vs : List Pv}, pvs rows = some vs → ((rows.map Rw.d).filter Rw.bad).isEmpty = true
  | [], _, _ => rfl
  | r :: rs, vs, h => by
    unfold pvs at h
    rw [List.map_cons]
    cases e : r.pv with
    | none => rw [e] at h; cases h
    | some v =>
      cases e2 : pvs rs with
      | none => rw [e, e2] at h; cases h
      | some ws => rw [List.filter_cons_of_neg (by rw [bad_pv, e]; simp)]; exact bads_some e2
/-- row[1] of a meaning, an integer itself -/
def inner1 : PyData → PyData
  | .tuple (_ :: x :: _) => x
  | d => d
theorem some_of : ∀ {rows : List Rw} {vs : List Pv}, pvs rows = some vs → (rows.map Rw.d).map inner1 = vs.map Pv.d
  | [], vs, h => by cases h; rfl
  | r :: rs, vs, h => by
    unfold pvs at h
    cases e : r.pv with
    | none => rw [e] at h; cases h
    | some v =>
      cases e2 : pvs rs with
      | none => rw [e, e2] at h; cases h
      | some ws =>
        rw [e, e2] at h; cases h
        have hv : inner1 r.d = v.d := by
          cases r with
          | n i => cases e; rfl
          | m x => cases x <;> cases e; rfl
        rw [List.map_cons, List.map_cons, List.map_cons, hv, some_of e2]
theorem some_mem : ∀ {rows : List Rw} {vs : List Pv}, pvs rows = some vs → ∀ r ∈ rows, r.pv.isSome = true
  | [], vs, h, r, hr => by cases hr
  | r :: rs, vs, h, x, hx => by
    unfold pvs at h
    cases e : r.pv with
    | none => rw [e] at h; cases h
    | some v =>
      cases e2 : pvs rs with
      | none => rw [e, e2] at h; cases h
      | some ws =>
        rcases List.mem_cons.mp hx with rfl | hx
        · rw [e]; rfl
        · exact some_mem e2 x hx
theorem Mean.flat (x : Mean) : Flat 2 x.d := by
  cases x with
  | ver l =>
    refine Flat.tup fun d hd => ?_
    rcases List.mem_cons.mp hd with rfl | hd
    · exact Flat.str (by decide +kernel)
    · rw [List.mem_singleton.mp hd]
      exact Flat.tup (n := 0) fun e he => by obtain ⟨i, _, rfl⟩ := List.mem_map.mp he; exact Flat.int i
  | ans n =>
    refine Flat.tup fun d hd => ?_
    rcases List.mem_cons.mp hd with rfl | hd
    · exact Flat.str (by decide +kernel)
    · rw [List.mem_singleton.mp hd]; exact Flat.int n
  | stuck => exact Flat.tup fun d hd => by rw [List.mem_singleton.mp hd]; exact Flat.str (by decide +kernel)
  | none => exact Flat.tup fun d hd => by rw [List.mem_singleton.mp hd]; exact Flat.str (by decide +kernel)
theorem Rw.flat (r : Rw) : Flat 2 r.d := by
  cases r with
  | m x => exact x.flat
  | n i => exact Flat.int i
theorem intsD_shaped (l : List Int) : SeqAt.shaped (.tuple (intsD l)) = true :=
  (Flat.tup (n := 0) fun e he => by obtain ⟨i, _, rfl⟩ := List.mem_map.mp he; exact Flat.int i).ok (by decide)
theorem eqv_xs (l : List Int) : PyData.eqv (Pv.xs l).d (.tuple []) = l.isEmpty := by
  show PyData.eqv (.tuple (intsD l)) (.tuple []) = _
  rw [eqv_nilT, intsD_emp]
theorem nil_shapedT : SeqAt.shaped (.tuple []) = true := by decide
theorem nil_shapedL : SeqAt.shaped (.list []) = true := by decide
theorem last_at (x : Int) (r : List Int) : atI (intsD (x :: r)) (-1) = some (.int ((x :: r).getD (((x :: r).length : Int) - 1).toNat 0)) := by
  have e2 : (((x :: r).length : Int) - 1).toNat = r.length := by simp
  unfold atI ixN
  rw [intsD_len, if_neg (show ¬ (0 ≤ (-1 : Int)) by decide), if_pos (show -((x :: r).length : Int) ≤ -1 by simp; omega)]
  have e3 : ((-1 : Int) + ((x :: r).length : Int)).toNat = r.length := by simp; omega
  show (intsD (x :: r))[((-1 : Int) + ((x :: r).length : Int)).toNat]? = _
  rw [e3, e2]
  unfold intsD
  rw [List.getElem?_map, List.getD_eq_getElem?_getD]
  rw [List.getElem?_eq_getElem (by simp)]
  rfl
section
variable {P : Program} {w : World} {K : PySem.W.Frag} {mg : Str → Option Value} {base : Heap}
def fLawMean : PF := fun Δ Ψ => ∃ (f : Fn) (rows : List Rw), Δ = [.v (.str f.name), .v (.list (rows.map Rw.d))] ∧ rows.length ≤ 10 ∧ (∀ vs, pvs rows = some vs → shapes vs = f.sig ∧ ∀ l, Pv.xs l ∈ vs → l.length ≤ 100) ∧ Ψ (.v (lawMean f rows).d)
abbrev s_lawMeaning : Stmt := top 46
abbrev n_lawMeaning : List Str := ["f", "rows", "some", "items", "row"]
theorem sc_lawMeaning : FnScope n_lawMeaning ["f", "rows"] (defScope s_lawMeaning) := ⟨rfl, rfl, rfl, by decide +kernel, rfl, by decide +kernel, by decide +kernel⟩
theorem ok_lawMeaning {f : Addr} {fd : FuncData} (F : Fun K "_law_meaning" "_law_meaning" s_lawMeaning f fd) (T : Blt mg) : FnG P w K mg base CX0 1 f fd ["f", "rows"] (spD K IK.ks fLawMean) := by
  have sc := sc_lawMeaning
  refine FnG.data F sc (by decide) (fun Δ Ψ h => by first | (obtain ⟨rfl, _⟩ := h; rfl) | (obtain ⟨_, rfl, _⟩ := h; rfl) | (obtain ⟨_, _, rfl, _⟩ := h; rfl) | (obtain ⟨_, _, _, rfl, _⟩ := h; rfl) | (obtain ⟨_, _, _, _, rfl, _⟩ := h; rfl) | (obtain ⟨_, _, _, _, _, rfl, _⟩ := h; rfl)) (fun cdv A outer s H E Δ Ψ noG hr h => ?_)
  obtain ⟨fn, rows, rfl, few, ok, k⟩ := h
  refine ⟨_, _, (xss_cons (xs_if (xt_cmp (op_neD hr.units) PNeD (xe_lc (own := [("row", 4)]) (g := gName 4) (tt := (tAnd (tB (tCB (rIsi K) (tCons (tVar 4) (tCons (tC _) tNil)))) (tTest (tOp _ (tOp (rIx K) (tVar 4) (tC _)) (tC _))))) (te := (tVar 4)) rfl sc.nd (xc_list (xe_var (pv 1))) (blkOk_by ( N := n_lawMeaning) (sc := defScope s_lawMeaning) (by decide +kernel)) (fun _ _ _ _ _ => (xg_name (i := 4) sc.nd rfl (Or.inl rfl))) (fun _ _ _ _ _ => (xts_one (xt_w (xw_and (xt_val (xe_isi (by rfl) T.isinstance (xe_var (pv 4)) (pe_bltn (v := .ty "tuple") (by rfl) T.tuple (by decide +kernel) rfl))) (xw_and1 (xt_cmp op_ne PNe (xe_ix (xe_var (pv 4)) xe_int (fun _ _ => rfl)) xe_str (nomark _))))))) (fun _ _ _ _ _ => (xe_var (pv 4)))) (xe_lst xv_nil) (nomark _)) (xss_one (xs_ret (xe_tup (xv_cons xe_str xv_nil)))) xss_nil) 
      (xss_cons (xs_setLc (i := 2) (own := [("row", 4)]) (g := gName 4) (tt := tYes) (te := (tIf (tB (tCB (rIsi K) (tCons (tVar 4) (tCons (tC _) tNil)))) (tOp (rIx K) (tVar 4) (tC _)) (tVar 4))) rfl sc.nd rfl rfl (sw_true rfl rfl rfl (by decide +kernel)) (xc_list (xe_var (pv 1))) (blkOk_by ( N := n_lawMeaning) (sc := defScope s_lawMeaning) (by decide +kernel)) (fun _ _ _ _ _ => (xg_name (i := 4) sc.nd rfl (Or.inl rfl))) (fun _ _ _ _ _ => xts_nil) (fun _ _ _ _ _ => (xe_if (xt_val (xe_isi (by rfl) T.isinstance (xe_var (pv 4)) (pe_bltn (v := .ty "tuple") (by rfl) T.tuple (by decide +kernel) rfl))) (xe_ix (xe_var (pv 4)) xe_int (fun _ _ => rfl)) (xe_var (pv 4))))) 
      (xss_cons (xs_if (xt_cmp op_eq PEq (xe_var (pv 0)) xe_str (nomark _)) (xss_one (xs_ret (xe_tup (xv_cons xe_str (xv_cons (xe_tup xv_nil) xv_nil))))) xss_nil) 
      (xss_cons (xs_if (xt_cmp op_in_seq PIn (xe_var (pv 0)) (xe_tup (xv_cons xe_str (xv_cons xe_str (xv_cons xe_str xv_nil)))) (by rfl)) (xss_one (xs_ret (xe_tup (xv_cons xe_str (xv_cons (xe_op op_catA PCatT (xe_tup (xv_cons (xe_ix (xe_var (pv 2)) xe_int (fun _ _ => rfl)) xv_nil)) (xe_if (xt_cmp op_ne PNe (xe_var (pv 0)) xe_str (nomark _)) (xe_ix (xe_var (pv 2)) xe_int (fun _ _ => rfl)) (xe_tup xv_nil))) xv_nil))))) xss_nil) 
      (xss_cons (xs_set (i := 3) sc.nd rfl (Or.inl rfl) (xe_ix (xe_var (pv 2)) xe_int (fun _ _ => rfl))) 
      (xss_cons (xs_if (xt_cmp op_in_seq PIn (xe_var (pv 0)) (xe_tup (xv_cons xe_str (xv_cons xe_str (xv_cons xe_str xv_nil)))) (by rfl)) (xss_one (xs_ret (xe_tup (xv_cons xe_str (xv_cons (xe_op op_catA PCatT (xe_var (pv 3)) (xe_if (xt_cmp op_eq PEq (xe_var (pv 0)) xe_str (nomark _)) (xe_ix (xe_var (pv 2)) xe_int (fun _ _ => rfl)) (xe_tup (xv_cons (xe_ix (xe_var (pv 2)) xe_int (fun _ _ => rfl)) xv_nil)))) xv_nil))))) xss_nil) 
      (xss_cons (xs_if (xt_cmp op_in_seq PIn (xe_var (pv 0)) (xe_tup (xv_cons xe_str (xv_cons xe_str xv_nil))) (by rfl)) (xss_one (xs_ret (xe_tup (xv_cons xe_str (xv_cons (xe_CB (xr_cons (xe_CB (xr_cons (xe_op op_catA PCatT (xe_var (pv 3)) (xe_if (xt_cmp op_eq PEq (xe_var (pv 0)) xe_str (nomark _)) (xe_ix (xe_var (pv 2)) xe_int (fun _ _ => rfl)) (xe_tup (xv_cons (xe_ix (xe_var (pv 2)) xe_int (fun _ _ => rfl)) xv_nil)))) xr_nil) (fun _ p => pe_callB cr_sortedTp (by rfl) T.sorted (by decide +kernel) p) PSortTp) xr_nil) (fun _ p => pe_callTy call_tuple_of (by rfl) T.tuple (by decide +kernel) p) PTupOf) xv_nil))))) xss_nil) 
      (xss_cons (xs_if (xt_cmp op_in_seq PIn (xe_var (pv 0)) (xe_tup (xv_cons xe_str (xv_cons xe_str xv_nil))) (by rfl)) (xss_cons (xs_if (xt_not (xt_ch op_le PLe op_lt PLt xe_int (xe_ix (xe_var (pv 2)) xe_int (fun _ _ => rfl)) (xe_CB (xr_cons (xe_var (pv 3)) xr_nil) (fun _ p => pe_callB call_len (by rfl) T.len (by decide +kernel) p) PLen))) (xss_one (xs_ret (xe_tup (xv_cons xe_str xv_nil)))) xss_nil) 
        (xss_one (xs_ret (xe_if (xt_cmp op_eq PEq (xe_var (pv 0)) xe_str (nomark _)) (xe_tup (xv_cons xe_str (xv_cons (xe_ix (xe_var (pv 3)) (xe_ix (xe_var (pv 2)) xe_int (fun _ _ => rfl)) (fun _ _ => rfl)) xv_nil))) (xe_tup (xv_cons xe_str (xv_cons (xe_op op_catA PCatT (xe_op op_catA PCatT (xe_slice sl_tupA PSlT (xe_var (pv 3)) xo_none (xo_some (xe_ix (xe_var (pv 2)) xe_int (fun _ _ => rfl)))) (xe_tup (xv_cons (xe_ix (xe_var (pv 2)) xe_int (fun _ _ => rfl)) xv_nil))) (xe_slice sl_tupA PSlT (xe_var (pv 3)) (xo_some (xe_op op_add PAdd (xe_ix (xe_var (pv 2)) xe_int (fun _ _ => rfl)) xe_int)) xo_none)) xv_nil))))))) xss_nil) 
      (xss_cons (xs_if (xt_cmp (op_eqD hr.units) PEqD (xe_var (pv 3)) (xe_tup xv_nil) (nomark _)) (xss_one (xs_ret (xe_tup (xv_cons xe_str xv_nil)))) xss_nil) 
      (xss_cons (xs_if (xt_cmp op_in_seq PIn (xe_var (pv 0)) (xe_tup (xv_cons xe_str (xv_cons xe_str xv_nil))) (by rfl)) (xss_one (xs_ret (xe_if (xt_cmp op_eq PEq (xe_var (pv 0)) xe_str (nomark _)) (xe_tup (xv_cons xe_str (xv_cons (xe_ix (xe_var (pv 3)) (xe_neg xe_int) (fun _ _ => rfl)) xv_nil))) (xe_tup (xv_cons xe_str (xv_cons (xe_slice sl_tupA PSlT (xe_var (pv 3)) xo_none (xo_some (xe_neg xe_int))) xv_nil)))))) xss_nil) 
      (xss_one (xs_ret (xe_if (xt_cmp op_in_seq PIn (xe_var (pv 0)) (xe_tup (xv_cons xe_str (xv_cons xe_str (xv_cons xe_str xv_nil)))) (by rfl)) (xe_tup (xv_cons xe_str (xv_cons (xe_ix (xe_var (pv 3)) xe_int (fun _ _ => rfl)) xv_nil))) (xe_tup (xv_cons xe_str (xv_cons (xe_slice sl_tupA PSlT (xe_var (pv 3)) (xo_some xe_int) xo_none) xv_nil)))))))))))))))), ?_⟩
  walk_at "px"
  refine comp_fm Rw.bad id rfl rfl (by rw [List.length_map]; exact sz (by omega)) (fun d hd N1 N0 h1 h0 => ?_) ?_
  · obtain ⟨r, hr, rfl⟩ := List.mem_map.mp hd
    cases r with
    | n i =>
      walk_at "px"
      exact h0 rfl _ rfl
    | m x =>
      cases x with
      | ver l => walk_at "px"; exact h0 rfl _ rfl
      | ans i => walk_at "px"; exact h1 rfl _ rfl
      | stuck => walk_at "px"; exact h1 rfl _ rfl
      | none => walk_at "px"; exact h1 rfl _ rfl
  rw [List.map_id]
  have shp : SeqAt.shaped (.list ((rows.map Rw.d).filter Rw.bad)) = true := (Flat.lst (n := 2) fun d hd => by
    obtain ⟨r, _, rfl⟩ := List.mem_map.mp (List.mem_filter.mp hd).1
    exact r.flat).ok (by decide)
  walk_at "px"
  refine ⟨shp, nil_shapedL, ?_⟩
  rw [eqv_nilL]
  cases hp : pvs rows with
  | none =>
    rw [bads_none hp]
    walk_at "px"
    have : lawMean fn rows = .none := by unfold lawMean; rw [hp]
    rw [this] at k
    exact k
  | some vs =>
    rw [bads_some hp]
    obtain ⟨sh, sm⟩ := ok vs hp
    have : lawMean fn rows = mean fn vs := by unfold lawMean; rw [hp]
    rw [this] at k
    clear this
    walk_at "px"
    refine comp_map inner1 rfl rfl (by rw [List.length_map]; exact sz (by omega)) (fun d hd N hN => ?_) ?_
    · obtain ⟨r, hr, rfl⟩ := List.mem_map.mp hd
      have hs := some_mem hp r hr
      cases r with
      | n i => walk_at "px"; exact hN _ rfl
      | m x =>
        cases x with
        | ver l => walk_at "px"; exact hN _ rfl
        | ans i => cases hs
        | stuck => cases hs
        | none => cases hs
    rw [some_of hp]
    clear hp ok shp
    cases fn
    case empty =>
      obtain rfl := shape0 sh
      walk_at "px"
      exact k
    case one =>
      obtain ⟨x, _, rfl, sh1⟩ := shapeN sh
      obtain rfl := shape0 sh1
      walk_at "px"
      exact k
    case cons =>
      obtain ⟨x, _, rfl, sh1⟩ := shapeN sh
      obtain ⟨l, _, rfl, sh2⟩ := shapeX sh1
      obtain rfl := shape0 sh2
      have ll := sm l (by simp)
      walk_at "px"
      refine ⟨sz (by simp [intsD]; omega), ?_⟩
      walk_at "px"
      exact k
    case front =>
      obtain ⟨x, _, rfl, sh1⟩ := shapeN sh
      obtain ⟨l, _, rfl, sh2⟩ := shapeX sh1
      obtain rfl := shape0 sh2
      have ll := sm l (by simp)
      walk_at "px"
      refine ⟨sz (by simp [intsD]; omega), ?_⟩
      walk_at "px"
      exact k
    case put =>
      obtain ⟨l, _, rfl, sh1⟩ := shapeX sh
      obtain ⟨x, _, rfl, sh2⟩ := shapeN sh1
      obtain rfl := shape0 sh2
      have ll := sm l (by simp)
      walk_at "px"
      refine ⟨sz (by simp [intsD]; omega), ?_⟩
      walk_at "px"
      rw [show intsD l ++ [(Pv.n x).d] = intsD (l ++ [x]) from intsD_app l [x]]
      exact k
    case back =>
      obtain ⟨l, _, rfl, sh1⟩ := shapeX sh
      obtain ⟨x, _, rfl, sh2⟩ := shapeN sh1
      obtain rfl := shape0 sh2
      have ll := sm l (by simp)
      walk_at "px"
      refine ⟨sz (by simp [intsD]; omega), ?_⟩
      walk_at "px"
      rw [show intsD l ++ [(Pv.n x).d] = intsD (l ++ [x]) from intsD_app l [x]]
      exact k
    case join =>
      obtain ⟨l, _, rfl, sh1⟩ := shapeX sh
      obtain ⟨m, _, rfl, sh2⟩ := shapeX sh1
      obtain rfl := shape0 sh2
      have ll := sm l (by simp)
      have lm := sm m (by simp)
      walk_at "px"
      refine ⟨sz (by simp [intsD]; omega), ?_⟩
      walk_at "px"
      rw [show intsD l ++ intsD m = intsD (l ++ m) from intsD_app l m]
      exact k
    case insert =>
      obtain ⟨l, _, rfl, sh1⟩ := shapeX sh
      obtain ⟨x, _, rfl, sh2⟩ := shapeN sh1
      obtain rfl := shape0 sh2
      have ll := sm l (by simp)
      walk_at "px"
      refine ⟨sz (by simp [intsD]; omega), ?_⟩
      walk_at "px"
      refine ⟨l ++ [x], intsD_app l [x], fun ns' hp hs => ?_⟩
      walk_at "px"
      rw [sortI_eq hp hs]
      exact k
    case merge =>
      obtain ⟨l, _, rfl, sh1⟩ := shapeX sh
      obtain ⟨m, _, rfl, sh2⟩ := shapeX sh1
      obtain rfl := shape0 sh2
      have ll := sm l (by simp)
      have lm := sm m (by simp)
      walk_at "px"
      refine ⟨sz (by simp [intsD]; omega), ?_⟩
      walk_at "px"
      refine ⟨l ++ m, intsD_app l m, fun ns' hp hs => ?_⟩
      walk_at "px"
      rw [sortI_eq hp hs]
      exact k
    case first =>
      obtain ⟨l, _, rfl, sh1⟩ := shapeX sh
      obtain rfl := shape0 sh1
      have ll := sm l (by simp)
      have k' : Ψ (.v (look l 0).d) := k
      unfold look at k'
      walk_at "px"
      refine ⟨intsD_shaped l, nil_shapedT, ?_⟩
      rw [eqv_xs]
      cases l with
      | nil =>
        walk_at "px"
        exact k'
      | cons x r =>
        rw [if_pos (by simp)] at k'
        walk_at "px"
        refine ⟨_, intsD_at (l := x :: r) (i := 0) (by decide) (by simp), ?_⟩
        walk_at "px"
        exact k'
    case head =>
      obtain ⟨l, _, rfl, sh1⟩ := shapeX sh
      obtain rfl := shape0 sh1
      have ll := sm l (by simp)
      have k' : Ψ (.v (look l 0).d) := k
      unfold look at k'
      walk_at "px"
      refine ⟨intsD_shaped l, nil_shapedT, ?_⟩
      rw [eqv_xs]
      cases l with
      | nil =>
        walk_at "px"
        exact k'
      | cons x r =>
        rw [if_pos (by simp)] at k'
        walk_at "px"
        refine ⟨_, intsD_at (l := x :: r) (i := 0) (by decide) (by simp), ?_⟩
        walk_at "px"
        exact k'
    case least =>
      obtain ⟨l, _, rfl, sh1⟩ := shapeX sh
      obtain rfl := shape0 sh1
      have ll := sm l (by simp)
      have k' : Ψ (.v (look l 0).d) := k
      unfold look at k'
      walk_at "px"
      refine ⟨intsD_shaped l, nil_shapedT, ?_⟩
      rw [eqv_xs]
      cases l with
      | nil =>
        walk_at "px"
        exact k'
      | cons x r =>
        rw [if_pos (by simp)] at k'
        walk_at "px"
        refine ⟨_, intsD_at (l := x :: r) (i := 0) (by decide) (by simp), ?_⟩
        walk_at "px"
        exact k'
    case rest =>
      obtain ⟨l, _, rfl, sh1⟩ := shapeX sh
      obtain rfl := shape0 sh1
      have ll := sm l (by simp)
      have k' : Ψ (.v (if l = [] then Mean.stuck else .ver (l.drop 1)).d) := k
      walk_at "px"
      refine ⟨intsD_shaped l, nil_shapedT, ?_⟩
      rw [eqv_xs]
      cases l with
      | nil =>
        walk_at "px"
        exact k'
      | cons x r =>
        walk_at "px"
        have e := cut_from (x :: r) 1
        rw [if_neg (by simp)] at k'
        have k2 : Ψ (.v (.tuple [.str "version", .tuple (intsD ((x :: r).drop 1))])) := k'
        rw [← e] at k2
        exact k2
    case tail =>
      obtain ⟨l, _, rfl, sh1⟩ := shapeX sh
      obtain rfl := shape0 sh1
      have ll := sm l (by simp)
      have k' : Ψ (.v (if l = [] then Mean.stuck else .ver (l.drop 1)).d) := k
      walk_at "px"
      refine ⟨intsD_shaped l, nil_shapedT, ?_⟩
      rw [eqv_xs]
      cases l with
      | nil =>
        walk_at "px"
        exact k'
      | cons x r =>
        walk_at "px"
        have e := cut_from (x :: r) 1
        rw [if_neg (by simp)] at k'
        have k2 : Ψ (.v (.tuple [.str "version", .tuple (intsD ((x :: r).drop 1))])) := k'
        rw [← e] at k2
        exact k2
    case without =>
      obtain ⟨l, _, rfl, sh1⟩ := shapeX sh
      obtain rfl := shape0 sh1
      have ll := sm l (by simp)
      have k' : Ψ (.v (if l = [] then Mean.stuck else .ver (l.drop 1)).d) := k
      walk_at "px"
      refine ⟨intsD_shaped l, nil_shapedT, ?_⟩
      rw [eqv_xs]
      cases l with
      | nil =>
        walk_at "px"
        exact k'
      | cons x r =>
        walk_at "px"
        have e := cut_from (x :: r) 1
        rw [if_neg (by simp)] at k'
        have k2 : Ψ (.v (.tuple [.str "version", .tuple (intsD ((x :: r).drop 1))])) := k'
        rw [← e] at k2
        exact k2
    case init =>
      obtain ⟨l, _, rfl, sh1⟩ := shapeX sh
      obtain rfl := shape0 sh1
      have ll := sm l (by simp)
      have k' : Ψ (.v (if l = [] then Mean.stuck else .ver l.dropLast).d) := k
      walk_at "px"
      refine ⟨intsD_shaped l, nil_shapedT, ?_⟩
      rw [eqv_xs]
      cases l with
      | nil =>
        walk_at "px"
        exact k'
      | cons x r =>
        walk_at "px"
        have e := cut_last (x :: r)
        rw [if_neg (by simp)] at k'
        have k2 : Ψ (.v (.tuple [.str "version", .tuple (intsD (x :: r).dropLast)])) := k'
        rw [← e] at k2
        exact k2
    case last =>
      obtain ⟨l, _, rfl, sh1⟩ := shapeX sh
      obtain rfl := shape0 sh1
      have ll := sm l (by simp)
      have k' : Ψ (.v (look l ((l.length : Int) - 1)).d) := k
      unfold look at k'
      walk_at "px"
      refine ⟨intsD_shaped l, nil_shapedT, ?_⟩
      rw [eqv_xs]
      cases l with
      | nil =>
        walk_at "px"
        exact k'
      | cons x r =>
        rw [if_pos (by constructor <;> simp <;> omega)] at k'
        walk_at "px"
        refine ⟨_, last_at x r, ?_⟩
        walk_at "px"
        exact k'
    case look =>
      obtain ⟨l, _, rfl, sh1⟩ := shapeX sh
      obtain ⟨i, _, rfl, sh2⟩ := shapeN sh1
      obtain rfl := shape0 sh2
      have l1 := sm l (by simp)
      have k' : Ψ (.v (look l i).d) := k
      unfold look at k'
      walk_at "px"
      refine ⟨fun e1 => ?_, fun e1 => ?_⟩
      · have h1 : 0 ≤ i := of_decide_eq_true e1
        walk_at "px"
        refine ⟨fun e2 => ?_, fun e2 => ?_⟩
        · have h2 : ¬ i < ((intsD l).length : Int) := fun z => by
            have e2' : (!decide (i < ((intsD l).length : Int))) = true := e2
            rw [decide_eq_true z] at e2'; cases e2'
          rw [intsD_len] at h2
          rw [if_neg (by omega)] at k'
          walk_at "px"
          exact k'
        · have h2 : i < ((intsD l).length : Int) := by
            have e2' : (!decide (i < ((intsD l).length : Int))) = false := e2
            simpa using e2'
          rw [intsD_len] at h2
          rw [if_pos ⟨h1, h2⟩] at k'
          walk_at "px"
          refine ⟨_, intsD_at h1 h2, ?_⟩
          walk_at "px"
          exact k'
      · have h1 : ¬ 0 ≤ i := of_decide_eq_false e1
        rw [if_neg (by omega)] at k'
        walk_at "px"
        exact k'
    case set =>
      obtain ⟨l, _, rfl, sh1⟩ := shapeX sh
      obtain ⟨i, _, rfl, sh2⟩ := shapeN sh1
      obtain ⟨x, _, rfl, sh3⟩ := shapeN sh2
      obtain rfl := shape0 sh3
      have l1 := sm l (by simp)
      have k' : Ψ (.v (if 0 ≤ i ∧ i < l.length then Mean.ver (l.set i.toNat x) else .stuck).d) := k
      walk_at "px"
      refine ⟨fun e1 => ?_, fun e1 => ?_⟩
      · have h1 : 0 ≤ i := of_decide_eq_true e1
        walk_at "px"
        refine ⟨fun e2 => ?_, fun e2 => ?_⟩
        · have h2 : ¬ i < ((intsD l).length : Int) := fun z => by
            have e2' : (!decide (i < ((intsD l).length : Int))) = true := e2
            rw [decide_eq_true z] at e2'; cases e2'
          rw [intsD_len] at h2
          rw [if_neg (by omega)] at k'
          walk_at "px"
          exact k'
        · have h2 : i < ((intsD l).length : Int) := by
            have e2' : (!decide (i < ((intsD l).length : Int))) = false := e2
            simpa using e2'
          rw [intsD_len] at h2
          rw [if_pos ⟨h1, h2⟩] at k'
          obtain ⟨j, rfl⟩ : ∃ j : Nat, i = (j : Int) := ⟨i.toNat, by omega⟩
          have hj : j < l.length := by omega
          have e1' := cut_to l j
          have e2' : Px.cutD (intsD l) (some ((j : Int) + 1)) none = intsD (l.drop (j + 1)) := cut_from l (j + 1)
          walk_at "px"
          refine ⟨?_, ?_⟩
          · show (Px.cutD (intsD l) none (some (j : Int))).length + _ ≤ sizeLine
            refine sz ?_
            rw [e1']
            simp [intsD]; omega
          walk_at "px"
          refine ⟨?_, ?_⟩
          · show (Px.cutD (intsD l) none (some (j : Int)) ++ _).length + (Px.cutD (intsD l) (some ((j : Int) + 1)) none).length ≤ sizeLine
            refine sz ?_
            rw [e1', e2']
            simp [intsD]; omega
          walk_at "px"
          have k2 : Ψ (.v (.tuple [.str "version", .tuple (intsD (l.set j x))])) := k'
          have k3 : Ψ (.v (.tuple [.str "version", .tuple ((Px.cutD (intsD l) none (some (j : Int)) ++ [.int x]) ++ Px.cutD (intsD l) (some ((j : Int) + 1)) none)])) := by
            rw [e1', e2', List.append_assoc]
            have := set_ints l x hj
            rw [List.append_nil] at this
            rw [show intsD (l.take j) ++ ([PyData.int x] ++ intsD (l.drop (j + 1))) = intsD (l.set j x) from this]
            exact k2
          exact k3
      · have h1 : ¬ 0 ≤ i := of_decide_eq_false e1
        rw [if_neg (by omega)] at k'
        walk_at "px"
        exact k'
end
end K59
end

/-! K59j -/
section
set_option Elab.async false
set_option linter.all false
set_option maxRecDepth 100000
set_option maxHeartbeats 8000000
namespace K59
open PySem PySem.Spec PyProof.Rows L2 Dh Px
local macro_rules | `(tactic| walk_at "px") => `(tactic| repeat (first
  | refine yT ?_ | refine yF ?_ | refine ⟨_, rfl, ?_⟩ | refine ⟨_, _, rfl, rfl, ?_⟩ | refine ⟨_, _, rfl, ?_⟩
  | refine ⟨_, _, rfl, isi (.tuple _), ?_⟩ | refine ⟨_, _, rfl, isi (.str _), ?_⟩ | refine ⟨_, _, rfl, isi (.int _), ?_⟩ | refine ⟨_, _, rfl, isi (.bool _), ?_⟩
  | refine ⟨⟨_, rfl⟩, ?_⟩ | refine ⟨True.intro, ?_⟩ | refine ⟨rfl, ?_⟩ | refine ⟨(Nat.le_of_ble_eq_true rfl : _ ≤ sizeLine), ?_⟩))
/-! ### the law's meanings of a world -/
def rwOf (ms : List Mean) : Arg → Rw
  | .i n => .n n
  | .of k => .m (ms.getD k .none)
theorem rw_pv {ms : List Mean} {a : Arg} (h : ∀ k, a = .of k → k < ms.length) : (rwOf ms a).pv = plain ms a := by
  cases a with
  | i n => rfl
  | of k =>
    have lt := h k rfl
    have e : ms[k]? = some ms[k] := List.getElem?_eq_getElem lt
    have eg : ms.getD k .none = ms[k] := by rw [List.getD_eq_getElem?_getD, e]; rfl
    show (Rw.m (ms.getD k .none)).pv = (match ms[k]? with | some (.ver l) => some (Pv.xs l) | _ => none)
    rw [eg, e]
    cases ms[k] <;> rfl
theorem rw_pvs {ms : List Mean} : ∀ {as : List Arg}, (∀ a ∈ as, ∀ k, a = .of k → k < ms.length) → pvs (as.map (rwOf ms)) = plains ms as
  | [], _ => rfl
  | a :: as, h => by
    have h1 := rw_pv (h a List.mem_cons_self)
    have h2 := rw_pvs (as := as) fun b hb => h b (List.mem_cons_of_mem _ hb)
    show (match (rwOf ms a).pv, pvs (as.map (rwOf ms)) with | some v, some vs => some (v :: vs) | _, _ => none) = _
    rw [h1, h2]; rfl
theorem rw_mean {ms : List Mean} {x : Deed} (h : ∀ a ∈ x.args, ∀ k, a = .of k → k < ms.length) : lawMean x.f (x.args.map (rwOf ms)) = meant x ms := by
  unfold lawMean meant
  rw [rw_pvs h] <;> rfl
def dOfRw (ms : List Mean) : PyData → PyData
  | .tuple [_, .int k] => (ms.getD k.toNat .none).d
  | d => d
theorem dOfRw_ok (ms : List Mean) (a : Arg) : dOfRw ms a.d = (rwOf ms a).d := by cases a <;> rfl
section
variable {P : Program} {w : World} {K : PySem.W.Frag} {mg : Str → Option Value} {base : Heap}
def fLawMeanings : PF := fun Δ Ψ => ∃ (kd : Kd) (ds : List Deed), Δ = [.v (worldD ds)] ∧ worldOk kd ds ∧ ds.length ≤ 100 ∧ small (means ds []) ∧ Ψ (.own (.list (meansD (means ds []))))
abbrev s_lawMeanings : Stmt := top 47
abbrev n_lawMeanings : List Str := ["world", "found", "f", "rows", "row"]
theorem sc_lawMeanings : FnScope n_lawMeanings ["world"] (defScope s_lawMeanings) := ⟨rfl, rfl, rfl, by decide +kernel, rfl, by decide +kernel, by decide +kernel⟩
theorem ok_lawMeanings {f : Addr} {fd : FuncData} (F : Fun K "_law_meanings" "_law_meanings" s_lawMeanings f fd) (T : Blt mg) {f_0 : Addr} {fd_0 : FuncData} (D_law_meaning : DfD P w K mg base "_law_meaning" 1 f_0 fd_0 ["f", "rows"] fLawMean) : FnG P w K mg base CX0 2 f fd ["world"] (spD K IK.ks fLawMeanings) := by
  have sc := sc_lawMeanings
  refine FnG.data F sc (by decide) (fun Δ Ψ h => by first | (obtain ⟨rfl, _⟩ := h; rfl) | (obtain ⟨_, rfl, _⟩ := h; rfl) | (obtain ⟨_, _, rfl, _⟩ := h; rfl) | (obtain ⟨_, _, _, rfl, _⟩ := h; rfl) | (obtain ⟨_, _, _, _, rfl, _⟩ := h; rfl) | (obtain ⟨_, _, _, _, _, rfl, _⟩ := h; rfl)) (fun cdv A outer s H E Δ Ψ noG hr h => ?_)
  obtain ⟨kd, ds, rfl, ok, few, sm, k⟩ := h
  refine ⟨_, _, (xss_cons (xs_set (i := 1) sc.nd rfl (Or.inr rfl) (xe_lst xv_nil)) 
      (xss_cons (xs_for PassesOwn.never rfl (xi_tupS (xe_var (pv 0))) (xg_tup (by rfl) (xgs_cons (xg_name (i := 2) sc.nd rfl (Or.inl rfl)) (xgs_cons (xg_name (i := 3) sc.nd rfl (Or.inl rfl)) xgs_nil)))
        (xss_one (xs_expr (xe_append (i := 1) (xe_call D_law_meaning.ok noG (hr.mono (by decide)) (by rfl) D_law_meaning.m D_law_meaning.k D_law_meaning.b (xp_cons (xe_var (pv 2)) (xp_cons (xe_lc (own := [("row", 4)]) (g := gName 4) (tt := tYes) (te := (tIf (tB (tCB (rIsi K) (tCons (tVar 4) (tCons (tC _) tNil)))) (tOp (rIx K) (tVar 1) (tOp (rIx K) (tVar 4) (tC _))) (tVar 4))) rfl sc.nd (xc_tup (xe_var (pv 3))) (blkOk_by ( N := n_lawMeanings) (sc := defScope s_lawMeanings) (by decide +kernel)) (fun _ _ _ _ _ => (xg_name (i := 4) sc.nd rfl (Or.inl rfl))) (fun _ _ _ _ _ => xts_nil) (fun _ _ _ _ _ => (xe_if (xt_val (xe_isi (by rfl) T.isinstance (xe_var (pv 4)) (pe_bltn (v := .ty "tuple") (by rfl) T.tuple (by decide +kernel) rfl))) (xe_ix (xe_var (pv 1)) (xe_ix (xe_var (pv 4)) xe_int (fun _ _ => rfl)) (fun _ _ => rfl)) (xe_var (pv 4))))) xp_nil))) (fun _ p => pe_bm PySem.F.plainAttrs_list PySem.F.slot_list_append PySem.F.type_list_append mt_append (pv 1) p))))) 
      (xss_one (xs_ret (xe_var (pv 1)))))), ?_⟩
  walk_at "px"
  refine loop_inv (fun r Γ => ∃ (a b : List Deed) (c2 c3 : Option D), ds = a ++ b ∧ r = b.map Deed.d ∧ Γ = [some (.v (worldD ds)), some (.own (.list (meansD (means a [])))), c2, c3, none]) ?_ ?_ _ _ ⟨[], ds, none, none, rfl, rfl, rfl⟩
  · rintro d r Γ N ⟨a, b, c2, c3, e, hr', rfl⟩ hN
    cases b with
    | nil => cases hr'
    | cons x b =>
      cases hr'
      have hp : ds[a.length]? = some x := by rw [e]; simp
      obtain ⟨x', hx', hf, ha⟩ := ok a.length (by rw [e]; simp)
      rw [hp] at hx'; cases hx'
      have hms : (means a []).length = a.length := by rw [means_len]; simp
      have hal : x.args.length ≤ 3 := by rw [ha.len]; exact sig_few _
      have pre : means a [] <+: means ds [] := by rw [e, means_app]; exact means_pre _ _
      have smA : small (means a []) := fun l hl => sm l (pre.subset hl)
      have lt : ∀ y ∈ x.args, ∀ k, y = .of k → k < (means a []).length := fun y hy k hk => by rw [hms]; exact args_lt ha y hy k hk
      walk_at "px"
      refine Px.comp_map (dOfRw (means a [])) rfl rfl (by rw [List.length_map]; exact sz (by omega)) (fun d hd N' hN' => ?_) ?_
      · obtain ⟨y, hy, rfl⟩ := List.mem_map.mp hd
        have hN2 := hN'
        rw [dOfRw_ok] at hN2
        cases y with
        | i n =>
          walk_at "px"
          exact hN2 _ rfl
        | of j =>
          have lj := lt _ hy j rfl
          have hm : (means a [])[j]? = some (means a [])[j] := List.getElem?_eq_getElem lj
          have ej : rwOf (means a []) (.of j) = .m (means a [])[j] := by show Rw.m ((means a []).getD j .none) = _; rw [List.getD_eq_getElem?_getD, hm]; rfl
          rw [ej] at hN2
          walk_at "px"
          refine ⟨_, meansD_at hm, ?_⟩
          walk_at "px"
          exact hN2 _ rfl
      have e3 : (x.args.map Arg.d).map (dOfRw (means a [])) = (x.args.map (rwOf (means a []))).map Rw.d := by
        rw [List.map_map, List.map_map]
        exact List.map_congr_left fun y _ => dOfRw_ok _ y
      rw [e3]
      have fin : meansD (means a []) ++ [(meant x (means a [])).d] = meansD (means (a ++ [x]) []) := by rw [means_snoc]; simp [meansD]
      have lenOk : (meansD (means a [])).length < sizeLine := by
        unfold meansD
        rw [List.length_map, hms]
        have : a.length ≤ 100 := by rw [e] at few; simp at few; omega
        exact Nat.lt_of_le_of_lt this (by decide)
      have nxt : ∀ c2 c3, N [some (.v (worldD ds)), some (.own (.list (meansD (means a []) ++ [(meant x (means a [])).d]))), c2, c3, none] := fun c2 c3 => by
        rw [fin]
        exact hN _ ⟨a ++ [x], b, c2, c3, by rw [e]; simp, rfl, rfl⟩
      walk_at "px"
      refine ⟨by rw [List.length_map]; omega, fun vs hvs => ?_, ?_⟩
      · rw [rw_pvs lt] at hvs
        exact ⟨plains_shape ha hvs, fun l hl => smA l (plains_mem hvs hl)⟩
      rw [rw_mean lt]
      refine ⟨_, _, _, rfl, rfl, lenOk, ?_⟩
      exact nxt _ _
  · rintro Γ ⟨a, b, c2, c3, e, hr', rfl⟩
    cases b with
    | cons x b => cases hr'
    | nil =>
      rw [List.append_nil] at e
      subst e
      walk_at "px"
      exact k
/-! ### what a deed uses -/
def ofs (as : List Arg) : List Int := as.filterMap fun a => match a with | .of k => some (k : Int) | .i _ => none
def notInt (d : PyData) : Bool := !isInteger d
def itsOf : PyData → Int
  | .tuple [_, .int k] => k
  | _ => 0
theorem ofs_eq : ∀ as : List Arg, (((as.map Arg.d).filter notInt).map itsOf) = ofs as
  | [] => rfl
  | .i n :: as => by
    rw [List.map_cons, List.filter_cons_of_neg (by simp [notInt, Arg.d, isInteger])]
    exact ofs_eq as
  | .of k :: as => by
    rw [List.map_cons, List.filter_cons_of_pos (by simp [notInt, Arg.d, isInteger]), List.map_cons, ofs_eq as]
    rfl
theorem pIx_mono {ds : List PyData} {Ψ Ψ' : D → Prop} (h : ∀ c, Ψ c → Ψ' c) (q : pIx ds Ψ) : pIx ds Ψ' := by
  unfold pIx at q ⊢
  split at q
  · obtain ⟨c, h1, h2⟩ := q; exact ⟨c, h1, h _ h2⟩
  · obtain ⟨c, h1, h2⟩ := q; exact ⟨c, h1, h _ h2⟩
  · obtain ⟨h0, c, h1, h2⟩ := q; exact ⟨h0, c, h1, h _ h2⟩
  · exact q.elim
def fUsed : PF := fun Δ Ψ => ∃ x : Deed, Δ = [.v x.d] ∧ x.args.length ≤ 10 ∧ ∀ ns, ascOf (ofs x.args) ns → Ψ (.own (.list (ns.map .int)))
abbrev s_used : Stmt := top 13
abbrev n_used : List Str := ["deed", "argument"]
theorem sc_used : FnScope n_used ["deed"] (defScope s_used) := ⟨rfl, rfl, rfl, by decide +kernel, rfl, by decide +kernel, by decide +kernel⟩
theorem ok_used {f : Addr} {fd : FuncData} (F : Fun K "used" "used" s_used f fd) (T : Blt mg) {f_0 : Addr} {fd_0 : FuncData} (Dis_integer : DfD P w K mg base "is_integer" 1 f_0 fd_0 ["thing"] fInteger) : FnG P w K mg base CX0 2 f fd ["deed"] (spD K IK.ks fUsed) := by
  have sc := sc_used
  refine FnG.data F sc (by decide) (fun Δ Ψ h => by first | (obtain ⟨rfl, _⟩ := h; rfl) | (obtain ⟨_, rfl, _⟩ := h; rfl) | (obtain ⟨_, _, rfl, _⟩ := h; rfl) | (obtain ⟨_, _, _, rfl, _⟩ := h; rfl) | (obtain ⟨_, _, _, _, rfl, _⟩ := h; rfl) | (obtain ⟨_, _, _, _, _, rfl, _⟩ := h; rfl)) (fun cdv A outer s H E Δ Ψ noG hr h => ?_)
  obtain ⟨x, rfl, few, k⟩ := h
  refine ⟨_, _, (xss_one (xs_ret (xe_sortedSc (own := [("argument", 1)]) (g := gName 1) (tt := (tNot (tB (tCall (spD K IK.ks _) [] (fun _ _ _ => False) (tCons (tVar 1) tNil))))) (te := (tOp (rIx K) (tVar 1) (tC _))) rfl sc.nd (by rfl) T.sorted (xc_tup (xe_ix (xe_var (pv 0)) xe_int (fun _ _ => rfl))) (blkOk_by ( N := n_used) (sc := defScope s_used) (by decide +kernel)) (fun _ _ _ _ _ => (xg_name (i := 1) sc.nd rfl (Or.inl rfl))) (fun _ _ _ _ _ => (xts_one (xt_not (xt_val (xe_call Dis_integer.ok noG (hr.mono (by decide)) (by rfl) Dis_integer.m Dis_integer.k Dis_integer.b (xp_cons (xe_var (pv 1)) xp_nil)))))) (fun _ _ _ _ _ => (xe_ix (xe_var (pv 1)) xe_int (fun _ _ => rfl)))))), ?_⟩
  walk_at "px"
  refine compI_fm notInt itsOf rfl rfl (by rw [List.length_map]; omega) (fun d hd N1 N0 h1 h0 => ?_) (fun N N' Γ2 hN hh => ?_) ?_
  · obtain ⟨y, hy, rfl⟩ := List.mem_map.mp hd
    cases y with
    | i n =>
      walk_at "px"
      exact h0 rfl _ rfl
    | of j =>
      walk_at "px"
      exact h1 rfl _ rfl
  · obtain ⟨r, h1, d, e, h3, h4, h5⟩ := hh
    exact ⟨r, h1, d, e, h3, h4, pIx_mono (fun c => hN c _) h5⟩
  rw [ofs_eq]
  intro ns hns
  walk_at "px"
  exact k ns hns
end
end K59
end

/-! K59k -/
section
set_option Elab.async false
set_option linter.all false
set_option maxRecDepth 100000
set_option maxHeartbeats 8000000
namespace K59
open PySem PySem.Spec PyProof.Rows L2 Dh Px
local macro_rules | `(tactic| walk_at "px") => `(tactic| repeat (first
  | refine yT ?_ | refine yF ?_ | refine ⟨_, rfl, ?_⟩ | refine ⟨_, _, rfl, rfl, ?_⟩ | refine ⟨_, _, rfl, ?_⟩
  | refine ⟨_, _, rfl, isi (.tuple _), ?_⟩ | refine ⟨_, _, rfl, isi (.str _), ?_⟩ | refine ⟨_, _, rfl, isi (.int _), ?_⟩ | refine ⟨_, _, rfl, isi (.bool _), ?_⟩
  | refine ⟨⟨_, rfl⟩, ?_⟩ | refine ⟨True.intro, ?_⟩ | refine ⟨rfl, ?_⟩ | refine ⟨(Nat.le_of_ble_eq_true rfl : _ ≤ sizeLine), ?_⟩))
/-! ### a branched world -/
def Arg.isOf (k : Nat) : Arg → Bool
  | .of j => decide (j = k)
  | .i _ => false
def uses (k : Nat) (x : Deed) : Bool := x.args.any (Arg.isOf k)
def copies {α : Type} (m : Nat) (xs : List α) : List α := (List.replicate m xs).flatten
def branch (ds : List Deed) (k m : Nat) : List Deed := ds ++ copies m (ds.filter (uses k))
theorem copies_mem {α : Type} {m : Nat} {xs : List α} {x : α} (h : x ∈ copies m xs) : x ∈ xs := by
  unfold copies at h
  obtain ⟨l, hl, hx⟩ := List.mem_flatten.mp h
  rw [(List.mem_replicate.mp hl).2] at hx
  exact hx
theorem copies_map {α β : Type} (f : α → β) (m : Nat) (xs : List α) : (copies m xs).map f = copies m (xs.map f) := by
  unfold copies
  rw [List.map_flatten, List.map_replicate]
theorem copies_len {α : Type} (m : Nat) (xs : List α) : (copies m xs).length = m * xs.length := by
  unfold copies
  simp [List.length_flatten, List.map_replicate, List.sum_replicate_nat]
def argIs (k : Nat) : PyData → Bool
  | .tuple [_, .int j] => decide (j = (k : Int))
  | _ => false
def usesD (k : Nat) : PyData → Bool
  | .tuple [_, .tuple as] => as.any (argIs k)
  | _ => false
theorem argIs_d (k : Nat) (a : Arg) : argIs k a.d = a.isOf k := by
  cases a with
  | i n => rfl
  | of j =>
    show decide ((j : Int) = (k : Int)) = decide (j = k)
    exact decide_eq_decide.mpr Int.ofNat_inj
theorem usesD_d (k : Nat) (x : Deed) : usesD k x.d = uses k x := by
  show (x.args.map Arg.d).any (argIs k) = x.args.any (Arg.isOf k)
  rw [List.any_map]
  congr 1
  funext a
  exact argIs_d k a
theorem filter_d (k : Nat) (ds : List Deed) : (ds.map Deed.d).filter (usesD k) = (ds.filter (uses k)).map Deed.d := by
  rw [List.filter_map]
  congr 1
  refine List.filter_congr fun x _ => ?_
  exact usesD_d k x
theorem mem_ofs (k : Nat) (as : List Arg) : (k : Int) ∈ ofs as ↔ as.any (Arg.isOf k) = true := by
  unfold ofs
  rw [List.mem_filterMap, List.any_eq_true]
  constructor
  · rintro ⟨a, ha, e⟩
    refine ⟨a, ha, ?_⟩
    cases a with
    | i n => cases e
    | of j =>
      have : (j : Int) = (k : Int) := Option.some.inj e
      exact decide_eq_true (Int.ofNat_inj.mp this)
  · rintro ⟨a, ha, e⟩
    refine ⟨a, ha, ?_⟩
    cases a with
    | i n => cases e
    | of j => rw [of_decide_eq_true e]
theorem inV_ints (i : Int) : ∀ ns : List Int, inV (.int i) ((ns.map PyData.int).map toV) = decide (i ∈ ns)
  | [] => by simp [inV]
  | n :: ns => by
    have ih := inV_ints i ns
    unfold inV at ih ⊢
    rw [List.map_cons, List.map_cons, List.any_cons, ih]
    simp only [toV, eqV, List.mem_cons]
    by_cases h : n = i
    · subst h; simp
    · have h' : ¬ i = n := fun z => h z.symm
      simp [h, h']
theorem worldOk.mem {kd : Kd} {ds : List Deed} (ok : worldOk kd ds) {x : Deed} (h : x ∈ ds) : ∃ q, q < ds.length ∧ ds[q]? = some x ∧ x.f ∈ kd.fns ∧ ArgsOk ds q x.args x.f.sig := by
  obtain ⟨q, hq, e⟩ := List.getElem_of_mem h
  obtain ⟨y, hy, hf, ha⟩ := ok q hq
  have e' : ds[q]? = some x := by rw [List.getElem?_eq_getElem hq, e]
  rw [e'] at hy; cases hy
  exact ⟨q, hq, e', hf, ha⟩
theorem worldOk.few {kd : Kd} {ds : List Deed} (ok : worldOk kd ds) {x : Deed} (h : x ∈ ds) : x.args.length ≤ 3 := by
  obtain ⟨q, _, _, _, ha⟩ := ok.mem h
  rw [ha.len]; exact sig_few _
theorem worldOk.lt {kd : Kd} {ds : List Deed} (ok : worldOk kd ds) {x : Deed} (h : x ∈ ds) : ∀ a ∈ x.args, ∀ k, a = .of k → k < ds.length := by
  obtain ⟨q, hq, _, _, ha⟩ := ok.mem h
  intro a h1 k e
  exact Nat.lt_trans (args_lt ha a h1 k e) hq
theorem ArgsOk.more {ds es : List Deed} {p q : Nat} (l : p ≤ q) : ∀ {as : List Arg} {bs : List Bool}, ArgsOk ds p as bs → ArgsOk (ds ++ es) q as bs
  | _, _, .nil => .nil
  | _, _, @ArgsOk.cons _ _ a b as bs h1 h2 => by
    refine .cons ?_ (ArgsOk.more l h2)
    cases a with
    | i n => exact h1
    | of k =>
      obtain ⟨e, lt, x, hx, ha⟩ := h1
      have hk : k < ds.length := (List.getElem?_eq_some_iff.mp hx).1
      exact ⟨e, Nat.lt_of_lt_of_le lt l, x, by rw [List.getElem?_append_left hk]; exact hx, ha⟩
theorem worldOk.more {kd : Kd} {ds es : List Deed} (ok : worldOk kd ds) (h : ∀ x ∈ es, x ∈ ds) : worldOk kd (ds ++ es) := by
  intro p hp
  by_cases lt : p < ds.length
  · obtain ⟨x, hx, hf, ha⟩ := ok p lt
    exact ⟨x, by rw [List.getElem?_append_left lt]; exact hx, hf, ha.more (Nat.le_refl _)⟩
  · have hp2 : p - ds.length < es.length := by rw [List.length_append] at hp; omega
    have e : (ds ++ es)[p]? = some es[p - ds.length] := by
      rw [List.getElem?_append_right (by omega), List.getElem?_eq_getElem hp2]
    obtain ⟨q, hq, _, hf, ha⟩ := ok.mem (h _ (List.getElem_mem hp2))
    exact ⟨_, e, hf, ha.more (by omega)⟩
theorem plain_more {ms ms' : List Mean} {a : Arg} (h : ∀ k, a = .of k → k < ms.length) : plain (ms ++ ms') a = plain ms a := by
  cases a with
  | i n => rfl
  | of k =>
    show (match (ms ++ ms')[k]? with | some (.ver l) => some (Pv.xs l) | _ => none) = (match ms[k]? with | some (.ver l) => some (Pv.xs l) | _ => none)
    rw [List.getElem?_append_left (h k rfl)]
theorem plains_more {ms ms' : List Mean} : ∀ {as : List Arg}, (∀ a ∈ as, ∀ k, a = .of k → k < ms.length) → plains (ms ++ ms') as = plains ms as
  | [], _ => rfl
  | a :: as, h => by
    unfold plains
    rw [plain_more (h a List.mem_cons_self), plains_more fun b hb => h b (List.mem_cons_of_mem _ hb)]
theorem meant_more {ms ms' : List Mean} {x : Deed} (h : ∀ a ∈ x.args, ∀ k, a = .of k → k < ms.length) : meant x (ms ++ ms') = meant x ms := by
  unfold meant
  rw [plains_more h]
theorem means_rest {ms : List Mean} : ∀ {es : List Deed} {ms' : List Mean}, (∀ x ∈ es, ∀ a ∈ x.args, ∀ k, a = .of k → k < ms.length) → means es (ms ++ ms') = ms ++ ms' ++ es.map fun x => meant x ms
  | [], ms', _ => by simp [means]
  | x :: es, ms', h => by
    show means es (ms ++ ms' ++ [meant x (ms ++ ms')]) = _
    rw [meant_more (h x List.mem_cons_self), List.append_assoc, means_rest fun y hy => h y (List.mem_cons_of_mem _ hy)]
    simp
theorem means_at {ds : List Deed} {j : Nat} {x : Deed} {kd : Kd} (ok : worldOk kd ds) (h : ds[j]? = some x) : (means ds [])[j]? = some (meant x (means ds [])) := by
  have hj : j < ds.length := (List.getElem?_eq_some_iff.mp h).1
  have e : ds = ds.take j ++ x :: ds.drop (j + 1) := by
    have := List.getElem?_eq_some_iff.mp h
    obtain ⟨_, e2⟩ := this
    conv => lhs; rw [← List.take_append_drop j ds, List.drop_eq_getElem_cons hj, e2]
  have tl : (means (ds.take j) []).length = j := by rw [means_len]; simp; omega
  obtain ⟨x', hx', _, ha⟩ := ok j hj
  rw [h] at hx'; cases hx'
  have e3 : means ds [] = means (ds.take j) [] ++ [meant x (means (ds.take j) [])] ++ (means ds []).drop (j + 1) := by
    have p1 : means (ds.take j ++ [x]) [] <+: means ds [] := by
      conv => rhs; rw [e, show ds.take j ++ x :: ds.drop (j + 1) = (ds.take j ++ [x]) ++ ds.drop (j + 1) by simp, means_app]
      exact means_pre _ _
    rw [means_snoc] at p1
    obtain ⟨r, hr⟩ := p1
    have hl : (means (ds.take j) [] ++ [meant x (means (ds.take j) [])]).length = j + 1 := by simp [tl]
    rw [← hr]
    congr 1
    rw [← hl, List.drop_left]
  have e4 : meant x (means ds []) = meant x (means (ds.take j) []) := by
    rw [e3, List.append_assoc]
    exact meant_more fun a h1 k e => by rw [tl]; exact args_lt ha a h1 k e
  rw [e4, e3, List.append_assoc, List.getElem?_append_right (by omega), tl]
  simp
theorem means_branch {kd : Kd} {ds : List Deed} (ok : worldOk kd ds) (k m : Nat) : means (branch ds k m) [] = means ds [] ++ copies m ((ds.filter (uses k)).map fun x => meant x (means ds [])) := by
  unfold branch
  rw [means_app]
  have hl : (means ds []).length = ds.length := by rw [means_len]; simp
  have := means_rest (ms := means ds []) (ms' := []) (es := copies m (ds.filter (uses k))) fun x hx a h1 j e => by
    rw [hl]
    exact ok.lt (List.mem_filter.mp (copies_mem hx)).1 a h1 j e
  rw [List.append_nil] at this
  rw [this, copies_map]
theorem branch_ok {kd : Kd} {ds : List Deed} (ok : worldOk kd ds) (k m : Nat) : worldOk kd (branch ds k m) := ok.more fun x hx => (List.mem_filter.mp (copies_mem hx)).1
/-- who uses k, by position -/
def usersFrom (k : Nat) : Nat → List Deed → List Nat
  | _, [] => []
  | i, x :: r => if uses k x = true then i :: usersFrom k (i + 1) r else usersFrom k (i + 1) r
theorem users_lt (k : Nat) : ∀ (i : Nat) (ds : List Deed), ∀ j ∈ usersFrom k i ds, i ≤ j ∧ j < i + ds.length ∧ ∃ x, ds[j - i]? = some x ∧ uses k x = true
  | _, [], _, h => by cases h
  | i, x :: r, j, h => by
    unfold usersFrom at h
    by_cases u : uses k x = true
    · rw [if_pos u] at h
      rcases List.mem_cons.mp h with rfl | h
      · exact ⟨Nat.le_refl _, by simp, x, by simp, u⟩
      · obtain ⟨h1, h2, y, h3, h4⟩ := users_lt k (i + 1) r j h
        refine ⟨by omega, by simp; omega, y, ?_, h4⟩
        rw [show j - i = (j - (i + 1)) + 1 by omega, List.getElem?_cons_succ]; exact h3
    · rw [if_neg u] at h
      obtain ⟨h1, h2, y, h3, h4⟩ := users_lt k (i + 1) r j h
      refine ⟨by omega, by simp; omega, y, ?_, h4⟩
      rw [show j - i = (j - (i + 1)) + 1 by omega, List.getElem?_cons_succ]; exact h3
theorem users_map {α : Type} (k : Nat) (F : Nat → α) (G : Deed → α) : ∀ (i : Nat) (ds : List Deed), (∀ j x, ds[j]? = some x → F (i + j) = G x) → (usersFrom k i ds).map F = (ds.filter (uses k)).map G
  | _, [], _ => rfl
  | i, x :: r, h => by
    have ih := users_map k F G (i + 1) r fun j y hy => by
      have := h (j + 1) y (by simpa using hy)
      rw [← this]; congr 1; omega
    unfold usersFrom
    by_cases u : uses k x = true
    · rw [if_pos u, List.filter_cons_of_pos u, List.map_cons, List.map_cons, ih, ← h 0 x (by simp)]; simp
    · rw [if_neg u, List.filter_cons_of_neg u, ih]
section
variable {P : Program} {w : World} {K : PySem.W.Frag} {mg : Str → Option Value} {base : Heap}
def fBranched : PF := fun Δ Ψ => ∃ (kd : Kd) (ds : List Deed) (k m : Nat), Δ = [.v (.str kd.name), .v (worldD ds), .v (.int (k : Int)), .v (.int (m : Int))] ∧ worldOk kd ds ∧ ds.length ≤ 60 ∧ (∃ x, ds[k]? = some x ∧ x.f.ans = false) ∧ m ≤ 3 ∧ Ψ (.v (worldD (branch ds k m)))
abbrev s_branched : Stmt := top 40
abbrev n_branched : List Str := ["kind", "world", "k", "m", "users", "deed"]
theorem sc_branched : FnScope n_branched ["kind", "world", "k", "m"] (defScope s_branched) := ⟨rfl, rfl, rfl, by decide +kernel, rfl, by decide +kernel, by decide +kernel⟩
theorem ok_branched {f : Addr} {fd : FuncData} (F : Fun K "branched" "branched" s_branched f fd) (T : Blt mg) {f_0 : Addr} {fd_0 : FuncData} (Dis_kind_world : DfD P w K mg base "is_kind_world" 6 f_0 fd_0 ["kind", "thing"] fWorld) {f_1 : Addr} {fd_1 : FuncData} (Dis_position : DfD P w K mg base "is_position" 2 f_1 fd_1 ["thing", "size"] fPosition) {f_2 : Addr} {fd_2 : FuncData} (Dis_integer : DfD P w K mg base "is_integer" 1 f_2 fd_2 ["thing"] fInteger) {f_3 : Addr} {fd_3 : FuncData} (Dused : DfD P w K mg base "used" 2 f_3 fd_3 ["deed"] fUsed) {aANSWERING : Addr} (cANSWERING : Cst K mg "ANSWERING" aANSWERING (.tuple ansD)) : FnG P w K mg base CX0 7 f fd ["kind", "world", "k", "m"] (spD K IK.ks fBranched) := by
  have sc := sc_branched
  refine FnG.data F sc (by decide) (fun Δ Ψ h => by first | (obtain ⟨rfl, _⟩ := h; rfl) | (obtain ⟨_, rfl, _⟩ := h; rfl) | (obtain ⟨_, _, rfl, _⟩ := h; rfl) | (obtain ⟨_, _, _, rfl, _⟩ := h; rfl) | (obtain ⟨_, _, _, _, rfl, _⟩ := h; rfl) | (obtain ⟨_, _, _, _, _, rfl, _⟩ := h; rfl)) (fun cdv A outer s H E Δ Ψ noG hr h => ?_)
  obtain ⟨kd, ds, j, m, rfl, ok, few, ⟨x, hx, hans⟩, hm, k⟩ := h
  refine ⟨_, _, (xss_cons (xs_if (xt_not (xt_val (xe_call Dis_kind_world.ok noG (hr.mono (by decide)) (by rfl) Dis_kind_world.m Dis_kind_world.k Dis_kind_world.b (xp_cons (xe_var (pv 0)) (xp_cons (xe_var (pv 1)) xp_nil))))) (xss_one xs_never) xss_nil) 
      (xss_cons (xs_if (xt_w (xw_or (xt_not (xt_val (xe_call Dis_position.ok noG (hr.mono (by decide)) (by rfl) Dis_position.m Dis_position.k Dis_position.b (xp_cons (xe_var (pv 2)) (xp_cons (xe_CB (xr_cons (xe_var (pv 1)) xr_nil) (fun _ p => pe_callB call_len (by rfl) T.len (by decide +kernel) p) PLen) xp_nil))))) (xw_or1 (xt_cmp op_in_seq PIn (xe_ix (xe_ix (xe_var (pv 1)) (xe_var (pv 2)) (fun _ _ => rfl)) xe_int (fun _ _ => rfl)) (xe_c (pe_glob (v := .ref aANSWERING) (by rfl) cANSWERING.m rfl) cANSWERING.c) (by rfl))))) (xss_one xs_never) xss_nil) 
      (xss_cons (xs_if (xt_w (xw_or (xt_not (xt_val (xe_call Dis_integer.ok noG (hr.mono (by decide)) (by rfl) Dis_integer.m Dis_integer.k Dis_integer.b (xp_cons (xe_var (pv 3)) xp_nil)))) (xw_or1 (xt_cmp op_lt PLt (xe_var (pv 3)) xe_int (nomark _))))) (xss_one xs_never) xss_nil) 
      (xss_cons (xs_set (i := 4) sc.nd rfl (Or.inl rfl) (xe_CB (xr_cons (xe_lc (own := [("deed", 5)]) (g := gName 5) (tt := (tTest (tOp (rIn K false) (tVar 2) (tCall (spD K IK.ks _) [] (fun _ _ _ => False) (tCons (tVar 5) tNil))))) (te := (tVar 5)) rfl sc.nd (xc_tup (xe_var (pv 1))) (blkOk_by ( N := n_branched) (sc := defScope s_branched) (by decide +kernel)) (fun _ _ _ _ _ => (xg_name (i := 5) sc.nd rfl (Or.inl rfl))) (fun _ _ _ _ _ => (xts_one (xt_cmp op_in_seq PIn (xe_var (pv 2)) (xe_call Dused.ok noG (hr.mono (by decide)) (by rfl) Dused.m Dused.k Dused.b (xp_cons (xe_var (pv 5)) xp_nil)) (by rfl)))) (fun _ _ _ _ _ => (xe_var (pv 5)))) xr_nil) (fun _ p => pe_callTy call_tuple_of (by rfl) T.tuple (by decide +kernel) p) PTupOf)) 
      (xss_one (xs_ret (xe_op op_catA PCatT (xe_var (pv 1)) (xe_op op_mulT PMulT (xe_var (pv 4)) (xe_var (pv 3)))))))))), ?_⟩
  have hj : j < ds.length := (List.getElem?_eq_some_iff.mp hx).1
  have hl : (ds.map Deed.d).length = ds.length := List.length_map _
  walk_at "px"
  refine ⟨ok, by omega, ?_⟩
  walk_at "px"
  have hp : isPos (.int (j : Int)) ((ds.map Deed.d).length : Int) = true := by rw [hl]; simp [isPos]; omega
  rw [hp]
  walk_at "px"
  refine ⟨x.d, world_at hx, ?_⟩
  walk_at "px"
  rw [ans_in, hans]
  walk_at "px"
  refine comp_fm (usesD j) id rfl rfl (by rw [hl]; exact sz (by omega)) (fun d hd N1 N0 h1 h0 => ?_) ?_
  · obtain ⟨y, hy, rfl⟩ := List.mem_map.mp hd
    walk_at "px"
    refine ⟨by have := ok.few hy; omega, fun ns hns => ?_⟩
    have fl : ((ns.map PyData.int).all flatD) = true := by rw [List.all_map]; simp [flatD]
    walk_at "px"
    refine ⟨fl, ?_⟩
    have ev : inV (toV (.int (j : Int))) ((ns.map PyData.int).map toV) = usesD j y.d := by
      rw [usesD_d]
      show inV (.int (j : Int)) _ = _
      rw [inV_ints]
      exact Bool.eq_iff_iff.mpr (by rw [decide_eq_true_iff, hns.2, mem_ofs]; exact Iff.rfl)
    rw [ev]
    walk_at "px"
    refine ⟨fun e => ?_, fun e => ?_⟩
    · walk_at "px"
      exact h1 e _ rfl
    · exact h0 e _ rfl
  rw [List.map_id, filter_d]
  walk_at "px"
  have fl2 : (ds.filter (uses j)).length ≤ ds.length := List.length_filter_le _ _
  refine ⟨by omega, by omega, by rw [List.length_map]; omega, ?_⟩
  have cl : (copies m ((ds.filter (uses j)).map Deed.d)).length ≤ 3 * 60 := by
    rw [copies_len, List.length_map]
    exact Nat.mul_le_mul hm (Nat.le_trans fl2 few)
  walk_at "px"
  refine ⟨?_, ?_⟩
  · show (ds.map Deed.d).length + (copies (m : Int).toNat ((ds.filter (uses j)).map Deed.d)).length ≤ sizeLine
    rw [Int.toNat_natCast, hl]
    exact sz (by omega)
  · walk_at "px"
    show Ψ (.v (.tuple (ds.map Deed.d ++ copies (m : Int).toNat ((ds.filter (uses j)).map Deed.d))))
    rw [Int.toNat_natCast, ← copies_map, ← List.map_append]
    exact k
end
end K59
end

/-! K59l -/
section
set_option Elab.async false
set_option linter.all false
set_option maxRecDepth 100000
set_option maxHeartbeats 8000000
namespace K59
open PySem PySem.Spec PyProof.Rows L2 Dh Px
/-! ### what is drawn: letters, tables, rows -/
theorem seq_cut {w u : PXS} {Γ : Px.Env} {Φ : PEnds} (J : Px.Env → Prop) (h1 : ∀ N : Px.Env → Prop, (∀ Γ1, J Γ1 → N Γ1) → w Γ { Φ with nx := N }) (h2 : ∀ Γ1, J Γ1 → u Γ1 Φ) : wSeq w u Γ Φ := h1 _ h2
def nm (fs : List Fn) : List PyData := fs.map fun f => .str f.name
theorem nm_mem {fs : List Fn} {d : PyData} (h : d ∈ nm fs) : ∃ f ∈ fs, d = .str f.name := by
  obtain ⟨f, hf, e⟩ := List.mem_map.mp h
  exact ⟨f, hf, e.symm⟩
theorem nm_len (fs : List Fn) : (nm fs).length = fs.length := by simp [nm]
theorem fns_len (kd : Kd) : 1 ≤ kd.fns.length ∧ kd.fns.length ≤ 7 := by cases kd <;> decide
def Kd.add : Kd → List Fn
  | .queue => [.put] | .deque => [.back, .front] | .list => [.cons] | .joined => [.one, .join] | .heap => [.insert]
theorem add_in (kd : Kd) : ∀ f ∈ kd.add, f ∈ kd.fns := by cases kd <;> decide
theorem add_len (kd : Kd) : kd.add.length ≤ 2 := by cases kd <;> decide
def letterD (b : Bool) : PyData := .str (if b then "v" else "n")
theorem sgn_args (f : Fn) : strD (cutS f.sgn none (some (-1))) = f.sig.map letterD := by cases f <;> rfl
theorem sgn_len (f : Fn) : f.sgn.length = f.sig.length + 1 := by cases f <;> rfl
theorem sgn_ret (f : Fn) : cutS f.sgn (some (-1)) none = (if f.ans then "n" else "v" : Str) := by cases f <;> rfl
theorem sgn_few (f : Fn) : f.sgn.length ≤ sizeLine := by rw [sgn_len]; have := sig_few f; exact sz (by omega)
theorem table_at {kd : Kd} {f : Fn} (h : f ∈ kd.fns) : valD (tableD kd) (.inr f.name) = some (.str f.sgn) := by
  cases kd <;> cases f <;> first | rfl | (exact absurd h (by decide))
theorem table_keys (kd : Kd) : (tableD kd).map (·.1) = (kd.fns.map Fn.name).map Sum.inr := by cases kd <;> rfl
theorem names_perm {kd : Kd} {ys : List Str} (h : ys.Perm (kd.fns.map Fn.name)) : (∀ y ∈ ys, ∃ f ∈ kd.fns, y = f.name) ∧ ys.length = kd.fns.length := by
  refine ⟨fun y hy => ?_, by rw [h.length_eq, List.length_map]⟩
  obtain ⟨f, hf, e⟩ := List.mem_map.mp (h.mem_iff.mp hy)
  exact ⟨f, hf, e.symm⟩
/-- a function whose results are versions stands at k -/
def verAt (ds : List Deed) (k : Nat) : Prop := ∃ x, ds[k]? = some x ∧ x.f.ans = false
def okI (n : Int) : Prop := -1000000000 ≤ n ∧ n ≤ 1000000000
structure Good (kd : Kd) (most : Nat) (ds : List Deed) (vs : List Int) : Prop where
  ok : worldOk kd ds
  sm : ∀ l, Mean.ver l ∈ means ds [] → l.length ≤ most
  hd : ds[0]? = some ⟨.empty, []⟩
  vers : ∀ v ∈ vs, ∃ k : Nat, v = (k : Int) ∧ verAt ds k
  few : vs.length ≤ ds.length
  ib : ∀ x ∈ ds, ∀ n, Arg.i n ∈ x.args → okI n
theorem verAt.lt {ds : List Deed} {k : Nat} (h : verAt ds k) : k < ds.length := by
  obtain ⟨x, hx, _⟩ := h
  exact (List.getElem?_eq_some_iff.mp hx).1
theorem verAt.snoc {ds : List Deed} {k : Nat} {x : Deed} (h : verAt ds k) : verAt (ds ++ [x]) k := by
  have lt := h.lt
  obtain ⟨y, hy, ha⟩ := h
  exact ⟨y, by rw [List.getElem?_append_left lt]; exact hy, ha⟩
theorem Good.start (kd : Kd) (most : Nat) : Good kd most [⟨.empty, []⟩] [0] := by
  refine ⟨fun p hp => ?_, fun l hl => ?_, rfl, fun v hv => ⟨0, List.mem_singleton.mp hv, _, rfl, rfl⟩, by decide, fun x hx n hn => by rw [List.mem_singleton.mp hx] at hn; cases hn⟩
  · have : p = 0 := by simpa using hp
    subst this
    exact ⟨_, rfl, by cases kd <;> decide, .nil⟩
  · have : l = [] := by
      have h : Mean.ver l ∈ [Mean.ver []] := hl
      have := List.mem_singleton.mp h
      cases this; rfl
    subst this; simp
/-- one deed more -/
theorem Good.snoc {kd : Kd} {most : Nat} {ds : List Deed} {vs ls : List Int} {x : Deed} (G : Good kd most ds vs) (hf : x.f ∈ kd.fns) (ha : ArgsOk ds ds.length x.args x.f.sig) (hm : ∀ l, meant x (means ds []) = .ver l → l.length ≤ most)
    (hl : ∀ v ∈ ls, v ∈ vs) (hn : ls.length ≤ vs.length) (hi : ∀ n, Arg.i n ∈ x.args → okI n) : Good kd most (ds ++ [x]) (ls ++ (if x.f.ans then [] else [(ds.length : Int)])) := by
  have me : means (ds ++ [x]) [] = means ds [] ++ [meant x (means ds [])] := means_snoc ds x
  have h0 : 0 < ds.length := by
    have := G.hd
    exact (List.getElem?_eq_some_iff.mp this).1
  refine ⟨fun p hp => ?_, fun l h => ?_, ?_, fun v hv => ?_, ?_, fun y hy n hn => (List.mem_append.mp hy).elim (fun h => G.ib y h n hn) fun h => by rw [List.mem_singleton.mp h] at hn; exact hi n hn⟩
  · by_cases lt : p < ds.length
    · obtain ⟨y, hy, hf', ha'⟩ := G.ok p lt
      exact ⟨y, by rw [List.getElem?_append_left lt]; exact hy, hf', ha'.more (Nat.le_refl _)⟩
    · have : p = ds.length := by rw [List.length_append] at hp; simp at hp; omega
      subst this
      exact ⟨x, by simp, hf, ha.more (Nat.le_refl _)⟩
  · rw [me] at h
    rcases List.mem_append.mp h with h | h
    · exact G.sm l h
    · exact hm l (List.mem_singleton.mp h).symm
  · rw [List.getElem?_append_left h0]; exact G.hd
  · rcases List.mem_append.mp hv with h | h
    · obtain ⟨k, e, q⟩ := G.vers v (hl v h)
      exact ⟨k, e, q.snoc⟩
    · cases e : x.f.ans with
      | true => rw [e] at h; cases h
      | false =>
        rw [e] at h
        exact ⟨ds.length, List.mem_singleton.mp h, x, by simp, e⟩
  · rw [List.length_append, List.length_append]
    have := G.few
    have : (if x.f.ans = true then ([] : List Int) else [(ds.length : Int)]).length ≤ 1 := by split <;> simp
    simp only [List.length_singleton]; omega
/-- the arguments so far: as many as letters were read, if nothing lacked -/
structure Part (ds : List Deed) (sg : List Bool) (as : List Arg) (i : Nat) : Prop where
  le : as.length ≤ i
  ok : as.length = i → ArgsOk ds ds.length as (sg.take i)
  rf : ∀ a ∈ as, ∀ k, a = .of k → verAt ds k
  ib : ∀ n, Arg.i n ∈ as → okI n
theorem Part.nil (ds : List Deed) (sg : List Bool) : Part ds sg [] 0 := ⟨Nat.le_refl _, fun _ => by simpa using ArgsOk.nil, fun _ h => (by cases h), fun _ h => (by cases h)⟩
theorem ArgsOk.snoc {ds : List Deed} {p : Nat} {a : Arg} {b : Bool} (h : argOk ds p a b) : ∀ {as : List Arg} {bs : List Bool}, ArgsOk ds p as bs → ArgsOk ds p (as ++ [a]) (bs ++ [b])
  | _, _, .nil => .cons h .nil
  | _, _, .cons h1 h2 => .cons h1 (ArgsOk.snoc h h2)
theorem Part.skip {ds : List Deed} {sg : List Bool} {as : List Arg} {i : Nat} (h : Part ds sg as i) : Part ds sg as (i + 1) := ⟨Nat.le_succ_of_le h.le, fun e => by have := h.le; omega, h.rf, h.ib⟩
theorem Part.of {ds : List Deed} {sg : List Bool} {as : List Arg} {i k : Nat} (h : Part ds sg as i) (hs : sg[i]? = some true) (hk : verAt ds k) : Part ds sg (as ++ [.of k]) (i + 1) := by
  refine ⟨by rw [List.length_append]; have := h.le; simp; omega, fun e => ?_, fun a ha j ej => ?_, fun n hn => (List.mem_append.mp hn).elim (h.ib n) fun z => by cases List.mem_singleton.mp z⟩
  · have e' : as.length = i := by rw [List.length_append] at e; simpa using e
    have lt := (List.getElem?_eq_some_iff.mp hs).1
    obtain ⟨_, e2⟩ := List.getElem?_eq_some_iff.mp hs
    rw [List.take_succ_eq_append_getElem lt, e2]
    exact ArgsOk.snoc (show argOk ds ds.length (.of k) true from ⟨rfl, hk.lt, hk⟩) (h.ok e')
  · rcases List.mem_append.mp ha with ha | ha
    · exact h.rf a ha j ej
    · rw [List.mem_singleton.mp ha] at ej; cases ej; exact hk
theorem Part.int {ds : List Deed} {sg : List Bool} {as : List Arg} {i : Nat} {n : Int} (h : Part ds sg as i) (hs : sg[i]? = some false) (hn : okI n) : Part ds sg (as ++ [.i n]) (i + 1) := by
  refine ⟨by rw [List.length_append]; have := h.le; simp; omega, fun e => ?_, fun a ha j ej => ?_, fun n hn => (List.mem_append.mp hn).elim (h.ib n) fun z => by cases List.mem_singleton.mp z; assumption⟩
  · have e' : as.length = i := by rw [List.length_append] at e; simpa using e
    have lt := (List.getElem?_eq_some_iff.mp hs).1
    obtain ⟨_, e2⟩ := List.getElem?_eq_some_iff.mp hs
    rw [List.take_succ_eq_append_getElem lt, e2]
    exact ArgsOk.snoc (show argOk ds ds.length (.i n) false from rfl) (h.ok e')
  · rcases List.mem_append.mp ha with ha | ha
    · exact h.rf a ha j ej
    · rw [List.mem_singleton.mp ha] at ej; cases ej
/-- the meaning of a new deed -/
theorem meant_size {ds : List Deed} {x : Deed} (ha : ArgsOk ds ds.length x.args x.f.sig) : ∀ vs, pvs (x.args.map (rwOf (means ds []))) = some vs → shapes vs = x.f.sig ∧ ∀ l, Pv.xs l ∈ vs → Mean.ver l ∈ means ds [] := by
  intro vs h
  have lt : ∀ a ∈ x.args, ∀ k, a = .of k → k < (means ds []).length := fun a h1 k e => by rw [means_len]; simpa using args_lt ha a h1 k e
  rw [rw_pvs lt] at h
  exact ⟨plains_shape ha h, fun l hl => plains_mem h hl⟩
theorem if_cut {c : PXT} {a b : PXS} {Γ : Px.Env} {Φ : PEnds} (J : Bool → Px.Env → Prop) (h1 : ∀ N : Bool → Px.Env → Prop, (∀ k Γ1, J k Γ1 → N k Γ1) → c Γ N) (h2 : ∀ k Γ1, J k Γ1 → (k = true → a Γ1 Φ) ∧ (k = false → b Γ1 Φ)) : wIf c a b Γ Φ := h1 _ h2
theorem t_cut {c : PXT} {Γ : Px.Env} {M : Bool → Px.Env → Prop} (J : Bool → Px.Env → Prop) (h1 : ∀ N : Bool → Px.Env → Prop, (∀ k Γ1, J k Γ1 → N k Γ1) → c Γ N) (h2 : ∀ k Γ1, J k Γ1 → M k Γ1) : c Γ M := h1 _ h2
theorem andT {c : Bool} {A B : Prop} (h : c = true) (k : A) : (c = true → A) ∧ (c = false → B) := ⟨fun _ => k, fun e => absurd (h.symm.trans e) (by decide)⟩
theorem andF {c : Bool} {A B : Prop} (h : c = false) (k : B) : (c = true → A) ∧ (c = false → B) := ⟨fun e => absurd (h.symm.trans e) (by decide), fun _ => k⟩
theorem at0 {α : Type} (x : α) (r : List α) : atI (x :: r) 0 = some x := by
  unfold atI ixN
  rw [if_pos (show (0 : Int) ≤ 0 by decide), if_pos (show (0 : Int) < ((x :: r).length : Int) by simp only [List.length_cons]; omega)]
  rfl
def greatly (most : Nat) : Mean → Bool
  | .ver l => decide (most < l.length)
  | _ => false
theorem greatly_no {most : Nat} {m : Mean} (h : greatly most m = false) : ∀ l, m = .ver l → l.length ≤ most := by
  intro l e
  subst e
  have := of_decide_eq_false h
  omega
def lookset : Fn → Bool
  | .look => true | .set => true | _ => false
theorem in_lookset (f : Fn) : inV (toV (.str f.name)) ([PyData.str "look", PyData.str "set"].map toV) = lookset f := by cases f <;> rfl
theorem ints_shaped (ls : List Int) : SeqAt.shaped (.list (ls.map PyData.int)) = true :=
  (Flat.lst (n := 0) fun e he => by obtain ⟨i, _, rfl⟩ := List.mem_map.mp he; exact Flat.int i).ok (by decide)
theorem ints_emp (ls : List Int) : (ls.map PyData.int).isEmpty = ls.isEmpty := by cases ls <;> rfl
theorem last_pick {ls : List Int} (h : ls ≠ []) : ∃ v ∈ ls, atI (ls.map PyData.int) (-1) = some (.int v) := by
  have l1 : 0 < ls.length := List.length_pos_iff.mpr h
  refine ⟨ls[ls.length - 1], List.getElem_mem _, ?_⟩
  unfold atI ixN
  rw [List.length_map, if_neg (show ¬ (0 ≤ (-1 : Int)) by decide), if_pos (show -(ls.length : Int) ≤ -1 by omega)]
  have e3 : ((-1 : Int) + (ls.length : Int)).toNat = ls.length - 1 := by omega
  show (ls.map PyData.int)[((-1 : Int) + (ls.length : Int)).toNat]? = _
  rw [e3, List.getElem?_map, List.getElem?_eq_getElem (by omega)]
  rfl
theorem mid_pick {ls : List Int} (h : ls ≠ []) : ∃ v ∈ ls, atI (ls.map PyData.int) (((ls.map PyData.int).length : Int) / 2) = some (.int v) := by
  have l1 : 0 < ls.length := List.length_pos_iff.mpr h
  rw [List.length_map]
  obtain ⟨d, hd, e⟩ := atI_pick (ds := ls.map PyData.int) (i := (ls.length : Int) / 2) (by omega) (by rw [List.length_map]; omega)
  obtain ⟨v, hv, rfl⟩ := List.mem_map.mp hd
  exact ⟨v, hv, e⟩
theorem rng_drop {n i : Nat} {d : PyData} {r : List PyData} (h : d :: r = (rangeD 0 n).drop i) : i < n ∧ d = .int (0 + (i : Int)) ∧ r = (rangeD 0 n).drop (i + 1) := by
  have l : i < (rangeD 0 n).length := by
    rcases Nat.lt_or_ge i (rangeD 0 n).length with z | z
    · exact z
    · rw [List.drop_eq_nil_of_le z] at h; cases h
  rw [List.drop_eq_getElem_cons l] at h
  cases h
  rw [rangeD_len] at l
  exact ⟨l, by simp [rangeD], rfl⟩
theorem rng_end {n i : Nat} (h : [] = (rangeD 0 n).drop i) : n ≤ i := by
  have := congrArg List.length h
  rw [List.length_drop, rangeD_len] at this
  simp at this; omega
end K59
end

/-! K59m -/
section
set_option Elab.async false
set_option linter.all false
set_option maxRecDepth 100000
set_option maxHeartbeats 16000000
namespace K59
open PySem PySem.Spec PyProof.Rows L2 Dh Px
local macro_rules | `(tactic| walk_at "px") => `(tactic| repeat (first
  | refine yT ?_ | refine yF ?_ | refine ⟨.inr _, rfl, ?_⟩ | refine ⟨_, rfl, ?_⟩ | refine ⟨_, _, rfl, rfl, ?_⟩ | refine ⟨_, _, rfl, ?_⟩
  | refine ⟨_, _, rfl, isi (.tuple _), ?_⟩ | refine ⟨_, _, rfl, isi (.str _), ?_⟩ | refine ⟨_, _, rfl, isi (.int _), ?_⟩ | refine ⟨_, _, rfl, isi (.bool _), ?_⟩
  | refine ⟨⟨_, rfl⟩, ?_⟩ | refine ⟨True.intro, ?_⟩ | refine ⟨rfl, ?_⟩ | refine ⟨(Nat.le_of_ble_eq_true rfl : _ ≤ sizeLine), ?_⟩ | refine ⟨(Nat.le_of_ble_eq_true rfl : _ ≤ 15), ?_⟩))
abbrev envG (kd : Kd) (many : Int) (most : Nat) (once : Bool) (way : Int) (ds : List Deed) (vs : List Int) (r : Px.Env) : Px.Env :=
  some .deck :: some (.v (.str kd.name)) :: some (.v (.int many)) :: some (.v (.int (most : Int))) :: some (.v (.bool once)) :: some (.v (dkD (tableD kd))) :: some (.own (.list (ds.map Deed.d))) :: some (.own (.list (meansD (means ds [])))) :: some (.own (.list (vs.map .int))) :: some (.v (.int way)) :: some (.v (.list (nm kd.add))) :: r
section
variable {P : Program} {w : World} {K : PySem.W.Frag} {mg : Str → Option Value} {base : Heap}
def fGrown : PF := fun Δ Ψ => ∃ (kd : Kd) (many : Int) (most : Nat) (once : Bool), Δ = [.deck, .v (.str kd.name), .v (.int many), .v (.int (most : Int)), .v (.bool once)] ∧ 1 ≤ many ∧ many ≤ 60 ∧ most ≤ 60 ∧
  ∀ (ds : List Deed) (vs : List Int), Good kd most ds vs → (ds.length : Int) = many → Ψ (.v (worldD ds))
abbrev s_lawGrown : Stmt := top 48
abbrev n_lawGrown : List Str := ["deck", "kind", "many", "most", "is_once", "funs", "world", "found", "versions", "way", "adding", "turn", "f", "rows", "left", "place", "sign", "at", "size", "number", "is_whole", "meaning_v", "is_great", "one", "row"]
theorem sc_lawGrown : FnScope n_lawGrown ["deck", "kind", "many", "most", "is_once"] (defScope s_lawGrown) := ⟨rfl, rfl, rfl, by decide +kernel, rfl, by decide +kernel, by decide +kernel⟩
theorem ok_lawGrown {f : Addr} {fd : FuncData} (F : Fun K "_law_grown" "_law_grown" s_lawGrown f fd) (T : Blt mg) {f_0 : Addr} {fd_0 : FuncData} (D_law_functions : DfD P w K mg base "_law_functions" 1 f_0 fd_0 ["kind"] fTable) {f_1 : Addr} {fd_1 : FuncData} (D_law_draw : DfD P w K mg base "_law_draw" 1 f_1 fd_1 ["deck", "below"] fDraw) {f_2 : Addr} {fd_2 : FuncData} (D_law_pick : DfD P w K mg base "_law_pick" 2 f_2 fd_2 ["deck", "some"] fPick) {f_3 : Addr} {fd_3 : FuncData} (D_law_meaning : DfD P w K mg base "_law_meaning" 1 f_3 fd_3 ["f", "rows"] fLawMean) : FnG P w K mg base CX0 3 f fd ["deck", "kind", "many", "most", "is_once"] (spD K IK.ks fGrown) := by
  have sc := sc_lawGrown
  refine FnG.data F sc (by decide) (fun Δ Ψ h => by first | (obtain ⟨rfl, _⟩ := h; rfl) | (obtain ⟨_, rfl, _⟩ := h; rfl) | (obtain ⟨_, _, rfl, _⟩ := h; rfl) | (obtain ⟨_, _, _, rfl, _⟩ := h; rfl) | (obtain ⟨_, _, _, _, rfl, _⟩ := h; rfl) | (obtain ⟨_, _, _, _, _, rfl, _⟩ := h; rfl)) (fun cdv A outer s H E Δ Ψ noG hr h => ?_)
  have hu := hu_of hr
  obtain ⟨kd, many, most, once, rfl, m1, m2, m3, k⟩ := h
  refine ⟨_, _, (xss_cons (xs_parL (is := [5, 6, 7, 8, 9]) rfl (by decide) (xo_cons (xe_call D_law_functions.ok noG (hr.mono (by decide)) (by rfl) D_law_functions.m D_law_functions.k D_law_functions.b (xp_cons (xe_var (pv 1)) xp_nil)) (xo_cons (xe_lst (xv_cons (xe_tup (xv_cons xe_str (xv_cons (xe_tup xv_nil) xv_nil))) xv_nil)) (xo_cons (xe_lst (xv_cons (xe_tup (xv_cons xe_str (xv_cons (xe_tup xv_nil) xv_nil))) xv_nil)) (xo_cons (xe_lst (xv_cons xe_int xv_nil)) (xo_cons (xe_call D_law_draw.ok noG (hr.mono (by decide)) (by rfl) D_law_draw.m D_law_draw.k D_law_draw.b (xp_cons (xe_var (pv 0)) (xp_cons xe_int xp_nil))) xo_nil))))) (pgs_cons (pg_name (i := 5) sc.nd rfl (Or.inl rfl)) (pgs_cons (pg_name (i := 6) sc.nd rfl (Or.inl rfl)) (pgs_cons (pg_name (i := 7) sc.nd rfl (Or.inr rfl)) (pgs_cons (pg_name (i := 8) sc.nd rfl (Or.inl rfl)) (pgs_cons (pg_name (i := 9) sc.nd rfl (Or.inl rfl)) pgs_nil))))) rfl (by decide)) 
      (xss_cons (xs_set (i := 10) sc.nd rfl (Or.inl rfl) (xe_dget hu (xe_dict (xps_cons xe_str (xe_lst (xv_cons xe_str xv_nil)) (xps_cons xe_str (xe_lst (xv_cons xe_str (xv_cons xe_str xv_nil))) (xps_cons xe_str (xe_lst (xv_cons xe_str xv_nil)) (xps_cons xe_str (xe_lst (xv_cons xe_str (xv_cons xe_str xv_nil))) (xps_cons xe_str (xe_lst (xv_cons xe_str xv_nil)) xps_nil)))))) (xe_var (pv 1)))) 
      (xss_cons (xs_for PassesOwn.never rfl (xi_range1S (by rfl) T.range (xr_cons (xe_op op_sub PSub (xe_var (pv 2)) xe_int) xr_nil)) (xg_name (i := 11) sc.nd rfl (Or.inl rfl))
        (xss_cons (xs_par3 (i := 12) (j := 13) (l := 14) rfl sc.nd rfl rfl rfl (by decide) (by decide) (by decide) rfl rfl rfl (xo_cons (xe_call D_law_pick.ok noG (hr.mono (by decide)) (by rfl) D_law_pick.m D_law_pick.k D_law_pick.b (xp_cons (xe_var (pv 0)) (xp_cons (xe_op op_cat PCat (xe_CB (xr_cons (xe_var (pv 5)) xr_nil) (fun _ p => pe_callB (cr_sortedDk rfl) (by rfl) T.sorted (by decide +kernel) p) PSortDk) (xe_op op_rep PRep (xe_var (pv 10)) (xe_if (xt_cmp op_lt PLt (xe_var (pv 11)) (xe_op op_fdiv PFdiv (xe_var (pv 2)) xe_int) (nomark _)) xe_int xe_int))) xp_nil))) (xo_cons (xe_lst xv_nil) (xo_cons (xe_CB (xr_cons (xe_var (pv 8)) xr_nil) (fun _ p => pe_callTy call_list_of (by rfl) T.list (by decide +kernel) p) PLstOf) xo_nil))) (by rfl)) 
        (xss_cons (xs_for PassesOwn.never rfl (xi_enumS (by rfl) T.enumerate (xe_slice sl_str PSlS (xe_dget hu (xe_var (pv 5)) (xe_var (pv 12))) xo_none (xo_some (xe_neg xe_int)))) (xg_tup (by rfl) (xgs_cons (xg_name (i := 15) sc.nd rfl (Or.inl rfl)) (xgs_cons (xg_name (i := 16) sc.nd rfl (Or.inl rfl)) xgs_nil)))
          (xss_one (xs_if (xt_w (xw_and (xt_cmp op_eq PEq (xe_var (pv 16)) xe_str (nomark _)) (xw_and1 (xt_cmp (op_neD hr.units) PNeD (xe_var (pv 14)) (xe_lst xv_nil) (nomark _))))) (xss_cons (xs_set (i := 17) sc.nd rfl (Or.inr rfl) (xe_if (xt_w (xw_or (xt_cmp op_lt PLt (xe_var (pv 9)) xe_int (nomark _)) (xw_or1 (xt_val (xe_var (pv 4)))))) (xe_ix (xe_var (pv 14)) (xe_neg xe_int) (fun _ _ => rfl)) (xe_if (xt_cmp op_eq PEq (xe_var (pv 9)) xe_int (nomark _)) (xe_call D_law_pick.ok noG (hr.mono (by decide)) (by rfl) D_law_pick.m D_law_pick.k D_law_pick.b (xp_cons (xe_var (pv 0)) (xp_cons (xe_var (pv 14)) xp_nil))) (xe_ix (xe_var (pv 14)) (xe_op op_fdiv PFdiv (xe_CB (xr_cons (xe_var (pv 14)) xr_nil) (fun _ p => pe_callB call_len (by rfl) T.len (by decide +kernel) p) PLen) xe_int) (fun _ _ => rfl))))) 
            (xss_cons (xs_set (i := 17) sc.nd rfl (Or.inr rfl) (xe_if (xt_cmp op_eq PEq (xe_call D_law_draw.ok noG (hr.mono (by decide)) (by rfl) D_law_draw.m D_law_draw.k D_law_draw.b (xp_cons (xe_var (pv 0)) (xp_cons xe_int xp_nil))) xe_int (nomark _)) (xe_call D_law_pick.ok noG (hr.mono (by decide)) (by rfl) D_law_pick.m D_law_pick.k D_law_pick.b (xp_cons (xe_var (pv 0)) (xp_cons (xe_var (pv 14)) xp_nil))) (xe_var (pv 17)))) 
            (xss_cons (xs_set (i := 14) sc.nd rfl (Or.inl rfl) (xe_if (xt_val (xe_var (pv 4))) (xe_lc (own := [("one", 23)]) (g := gName 23) (tt := (tTest (tOp _ (tVar 23) (tVar 17)))) (te := (tVar 23)) rfl sc.nd (xc_list (xe_var (pv 14))) (blkOk_by ( N := n_lawGrown) (sc := defScope s_lawGrown) (by decide +kernel)) (fun _ _ _ _ _ => (xg_name (i := 23) sc.nd rfl (Or.inl rfl))) (fun _ _ _ _ _ => (xts_one (xt_cmp op_ne PNe (xe_var (pv 23)) (xe_var (pv 17)) (nomark _)))) (fun _ _ _ _ _ => (xe_var (pv 23)))) (xe_var (pv 14)))) 
            (xss_one (xs_expr (xe_append (i := 13) (xe_tup (xv_cons xe_str (xv_cons (xe_var (pv 17)) xv_nil))) (fun _ p => pe_bm PySem.F.plainAttrs_list PySem.F.slot_list_append PySem.F.type_list_append mt_append (pv 13) p))))))) (xss_one (xs_if (xt_cmp op_eq PEq (xe_var (pv 16)) xe_str (nomark _)) (xss_cons (xs_set (i := 18) sc.nd rfl (Or.inl rfl) (xe_if (xt_w (xw_and (xt_cmp op_in_seq PIn (xe_var (pv 12)) (xe_tup (xv_cons xe_str (xv_cons xe_str xv_nil))) (by rfl)) (xw_and (xt_val (xe_isi (by rfl) T.isinstance (xe_ix (xe_op op_cat PCat (xe_var (pv 13)) (xe_lst (xv_cons xe_int xv_nil))) xe_int (fun _ _ => rfl)) (pe_bltn (v := .ty "tuple") (by rfl) T.tuple (by decide +kernel) rfl))) (xw_and1 (xt_cmp op_eq PEq (xe_ix (xe_ix (xe_var (pv 7)) (xe_ix (xe_ix (xe_var (pv 13)) xe_int (fun _ _ => rfl)) xe_int (fun _ _ => rfl)) (fun _ _ => rfl)) xe_int (fun _ _ => rfl)) xe_str (nomark _)))))) (xe_CB (xr_cons (xe_ix (xe_ix (xe_var (pv 7)) (xe_ix (xe_ix (xe_var (pv 13)) xe_int (fun _ _ => rfl)) xe_int (fun _ _ => rfl)) (fun _ _ => rfl)) xe_int (fun _ _ => rfl)) xr_nil) (fun _ p => pe_callB call_len (by rfl) T.len (by decide +kernel) p) PLen) xe_int)) 
              (xss_cons (xs_set (i := 19) sc.nd rfl (Or.inl rfl) (xe_op op_sub PSub (xe_call D_law_draw.ok noG (hr.mono (by decide)) (by rfl) D_law_draw.m D_law_draw.k D_law_draw.b (xp_cons (xe_var (pv 0)) (xp_cons (xe_op op_add PAdd (xe_op op_add PAdd (xe_var (pv 18)) xe_int) (xe_CB (xr_cons (xe_cmp op_eq PEq (xe_call D_law_draw.ok noG (hr.mono (by decide)) (by rfl) D_law_draw.m D_law_draw.k D_law_draw.b (xp_cons (xe_var (pv 0)) (xp_cons xe_int xp_nil))) xe_int (nomark _)) xr_nil) (fun _ p => pe_callTy cr_int1 (by rfl) T.int (by decide +kernel) p) PInt1)) xp_nil))) (xe_CB (xr_cons (xe_cmp op_eq PEq (xe_call D_law_draw.ok noG (hr.mono (by decide)) (by rfl) D_law_draw.m D_law_draw.k D_law_draw.b (xp_cons (xe_var (pv 0)) (xp_cons xe_int xp_nil))) xe_int (nomark _)) xr_nil) (fun _ p => pe_callTy cr_int1 (by rfl) T.int (by decide +kernel) p) PInt1))) 
              (xss_one (xs_expr (xe_append (i := 13) (xe_if (xt_w (xw_and (xt_cmp op_in_seq PIn (xe_var (pv 12)) (xe_tup (xv_cons xe_str (xv_cons xe_str xv_nil))) (by rfl)) (xw_and1 (xt_cmp op_eq PEq (xe_var (pv 15)) xe_int (nomark _))))) (xe_var (pv 19)) (xe_call D_law_pick.ok noG (hr.mono (by decide)) (by rfl) D_law_pick.m D_law_pick.k D_law_pick.b (xp_cons (xe_var (pv 0)) (xp_cons (xe_lst (xv_cons xe_int (xv_cons xe_int (xv_cons xe_int (xv_cons xe_int (xv_cons (xe_neg xe_int) (xv_cons xe_int (xv_cons (xe_op op_pow PPow xe_int xe_int) (xv_cons xe_int xv_nil))))))))) xp_nil)))) (fun _ p => pe_bm PySem.F.plainAttrs_list PySem.F.slot_list_append PySem.F.type_list_append mt_append (pv 13) p)))))) xss_nil))))) 
        (xss_cons (xs_set (i := 20) sc.nd rfl (Or.inl rfl) (xe_cmp op_eq PEq (xe_CB (xr_cons (xe_var (pv 13)) xr_nil) (fun _ p => pe_callB call_len (by rfl) T.len (by decide +kernel) p) PLen) (xe_op op_sub PSub (xe_CB (xr_cons (xe_dget hu (xe_var (pv 5)) (xe_var (pv 12))) xr_nil) (fun _ p => pe_callB call_len (by rfl) T.len (by decide +kernel) p) PLen) xe_int) (nomark _))) 
        (xss_cons (xs_set (i := 21) sc.nd rfl (Or.inl rfl) (xe_if (xt_val (xe_var (pv 20))) (xe_call D_law_meaning.ok noG (hr.mono (by decide)) (by rfl) D_law_meaning.m D_law_meaning.k D_law_meaning.b (xp_cons (xe_var (pv 12)) (xp_cons (xe_lc (own := [("row", 24)]) (g := gName 24) (tt := tYes) (te := (tIf (tB (tCB (rIsi K) (tCons (tVar 24) (tCons (tC _) tNil)))) (tOp (rIx K) (tVar 7) (tOp (rIx K) (tVar 24) (tC _))) (tVar 24))) rfl sc.nd (xc_list (xe_var (pv 13))) (blkOk_by ( N := n_lawGrown) (sc := defScope s_lawGrown) (by decide +kernel)) (fun _ _ _ _ _ => (xg_name (i := 24) sc.nd rfl (Or.inl rfl))) (fun _ _ _ _ _ => xts_nil) (fun _ _ _ _ _ => (xe_if (xt_val (xe_isi (by rfl) T.isinstance (xe_var (pv 24)) (pe_bltn (v := .ty "tuple") (by rfl) T.tuple (by decide +kernel) rfl))) (xe_ix (xe_var (pv 7)) (xe_ix (xe_var (pv 24)) xe_int (fun _ _ => rfl)) (fun _ _ => rfl)) (xe_var (pv 24))))) xp_nil))) (xe_tup (xv_cons xe_str xv_nil)))) 
        (xss_cons (xs_set (i := 22) sc.nd rfl (Or.inl rfl) (xe_and (xe_cmp op_eq PEq (xe_ix (xe_var (pv 21)) xe_int (fun _ _ => rfl)) xe_str (nomark _)) (xe_one (xe_cmp op_gt PGt (xe_CB (xr_cons (xe_ix (xe_var (pv 21)) xe_int (fun _ _ => rfl)) xr_nil) (fun _ p => pe_callB call_len (by rfl) T.len (by decide +kernel) p) PLen) (xe_var (pv 3)) (nomark _))))) 
        (xss_cons (xs_if (xt_w (xw_or (xt_not (xt_val (xe_var (pv 20)))) (xw_or (xt_val (xe_var (pv 22))) (xw_or1 (xt_w (xw_and (xt_cmp op_ne PNe (xe_ix (xe_var (pv 21)) xe_int (fun _ _ => rfl)) xe_str (nomark _)) (xw_and (xt_cmp op_eq PEq (xe_slice sl_str PSlS (xe_dget hu (xe_var (pv 5)) (xe_var (pv 12))) (xo_some (xe_neg xe_int)) xo_none) xe_str (nomark _)) (xw_and1 (xt_cmp op_gt PGt (xe_call D_law_draw.ok noG (hr.mono (by decide)) (by rfl) D_law_draw.m D_law_draw.k D_law_draw.b (xp_cons (xe_var (pv 0)) (xp_cons xe_int xp_nil))) xe_int (nomark _)))))))))) (xss_one (xs_parL (is := [12, 13, 21, 14]) rfl (by decide) (xo_cons xe_str (xo_cons (xe_lst xv_nil) (xo_cons (xe_tup (xv_cons xe_str (xv_cons (xe_tup xv_nil) xv_nil))) (xo_cons (xe_CB (xr_cons (xe_var (pv 8)) xr_nil) (fun _ p => pe_callTy call_list_of (by rfl) T.list (by decide +kernel) p) PLstOf) xo_nil)))) (pgs_cons (pg_name (i := 12) sc.nd rfl (Or.inl rfl)) (pgs_cons (pg_name (i := 13) sc.nd rfl (Or.inl rfl)) (pgs_cons (pg_name (i := 21) sc.nd rfl (Or.inl rfl)) (pgs_cons (pg_name (i := 14) sc.nd rfl (Or.inl rfl)) pgs_nil)))) rfl (by decide))) xss_nil) 
        (xss_cons (xs_set (i := 8) sc.nd rfl (Or.inl rfl) (xe_op op_cat PCat (xe_var (pv 14)) (xe_if (xt_cmp op_eq PEq (xe_slice sl_str PSlS (xe_dget hu (xe_var (pv 5)) (xe_var (pv 12))) (xo_some (xe_neg xe_int)) xo_none) xe_str (nomark _)) (xe_lst (xv_cons (xe_CB (xr_cons (xe_var (pv 6)) xr_nil) (fun _ p => pe_callB call_len (by rfl) T.len (by decide +kernel) p) PLen) xv_nil)) (xe_lst xv_nil)))) 
        (xss_cons (xs_expr (xe_append (i := 6) (xe_tup (xv_cons (xe_var (pv 12)) (xv_cons (xe_CB (xr_cons (xe_var (pv 13)) xr_nil) (fun _ p => pe_callTy call_tuple_of (by rfl) T.tuple (by decide +kernel) p) PTupOf) xv_nil))) (fun _ p => pe_bm PySem.F.plainAttrs_list PySem.F.slot_list_append PySem.F.type_list_append mt_append (pv 6) p))) 
        (xss_one (xs_expr (xe_append (i := 7) (xe_var (pv 21)) (fun _ p => pe_bm PySem.F.plainAttrs_list PySem.F.slot_list_append PySem.F.type_list_append mt_append (pv 7) p))))))))))))) 
      (xss_one (xs_ret (xe_CB (xr_cons (xe_var (pv 6)) xr_nil) (fun _ p => pe_callTy call_tuple_of (by rfl) T.tuple (by decide +kernel) p) PTupOf)))))), ?_⟩
  refine seq_cut (fun Γ1 => ∃ way : Int, Γ1 = some .deck :: some (.v (.str kd.name)) :: some (.v (.int many)) :: some (.v (.int (most : Int))) :: some (.v (.bool once)) :: some (.v (dkD (tableD kd))) :: some (.own (.list [(⟨.empty, []⟩ : Deed).d])) :: some (.own (.list [(Mean.ver []).d])) :: some (.own (.list [.int 0])) :: some (.v (.int way)) :: List.replicate 15 none) (fun N hN => ?_) ?_
  · walk_at "px"
    refine ⟨by decide, by decide, fun i i0 i1 => ?_⟩
    walk_at "px"
    exact hN _ ⟨i, rfl⟩
  rintro _ ⟨way, rfl⟩
  refine seq_cut (fun Γ1 => Γ1 = envG kd many most once way [⟨.empty, []⟩] [0] (List.replicate 14 none)) (fun N hN => ?_) ?_
  · cases kd <;> walk_at "px"
    case queue => refine ⟨_, .inr "queue", .list (nm Kd.queue.add), rfl, rfl, rfl, ?_⟩; walk_at "px"; exact hN _ rfl
    case deque => refine ⟨_, .inr "deque", .list (nm Kd.deque.add), rfl, rfl, rfl, ?_⟩; walk_at "px"; exact hN _ rfl
    case list => refine ⟨_, .inr "list", .list (nm Kd.list.add), rfl, rfl, rfl, ?_⟩; walk_at "px"; exact hN _ rfl
    case joined => refine ⟨_, .inr "joined", .list (nm Kd.joined.add), rfl, rfl, rfl, ?_⟩; walk_at "px"; exact hN _ rfl
    case heap => refine ⟨_, .inr "heap", .list (nm Kd.heap.add), rfl, rfl, rfl, ?_⟩; walk_at "px"; exact hN _ rfl
  rintro _ rfl
  refine seq_cut (fun Γ1 => ∃ (ds : List Deed) (vs : List Int) (r : Px.Env), Good kd most ds vs ∧ (ds.length : Int) = many ∧ Γ1 = envG kd many most once way ds vs r) (fun N hN => ?_) ?_
  rotate_left
  · rintro _ ⟨ds, vs, r, G, e, rfl⟩
    walk_at "px"
    exact k ds vs G e
  walk_at "px"
  refine ⟨by omega, by omega, ?_⟩
  refine loop_inv (fun r Γ => ∃ (i : Nat) (ds : List Deed) (vs : List Int) (c11 c12 c13 c14 c15 c16 c17 c18 c19 c20 c21 c22 : Option D), i ≤ (many - 1).toNat ∧ r = (rangeD 0 (many - 1).toNat).drop i ∧ Good kd most ds vs ∧ ds.length = i + 1 ∧
    Γ = envG kd many most once way ds vs [c11, c12, c13, c14, c15, c16, c17, c18, c19, c20, c21, c22, none, none]) ?_ ?_ _ _ ⟨0, _, _, none, none, none, none, none, none, none, none, none, none, none, none, Nat.zero_le _, rfl, Good.start kd most, rfl, rfl⟩
  · rintro d r Γ N1 ⟨i, ds, vs, c11, c12, c13, c14, c15, c16, c17, c18, c19, c20, c21, c22, hi, hr', G, len, rfl⟩ hN1
    obtain ⟨il, rfl, rfl⟩ := rng_drop hr'
    have msl : (means ds []).length = ds.length := by rw [means_len]; simp
    refine seq_cut (fun Γ1 => ∃ fn ∈ kd.fns, Γ1 = envG kd many most once way ds vs [some (.v (.int (0 + (i : Int)))), some (.v (.str fn.name)), some (.own (.list [])), some (.own (.list (vs.map .int))), c15, c16, c17, c18, c19, c20, c21, c22, none, none]) (fun N hN => ?_) ?_
    · walk_at "px"
      have fl := fns_len kd
      have al := add_len kd
      refine ⟨tableD kd, kd.fns.map Fn.name, rfl, table_keys kd, by rw [List.length_map]; omega, fun ys hp hs => ?_⟩
      obtain ⟨hy, hyl⟩ := names_perm hp
      walk_at "px"
      refine ⟨⟨by decide, by decide⟩, ?_⟩
      walk_at "px"
      have pickd : ∀ m : Nat, ∀ d ∈ ys.map PyData.str ++ (List.replicate m (nm kd.add)).flatten, ∃ fn ∈ kd.fns, d = .str fn.name := by
        intro m d hd
        rcases List.mem_append.mp hd with hd | hd
        · obtain ⟨y, hy', rfl⟩ := List.mem_map.mp hd
          obtain ⟨fn, h1, rfl⟩ := hy y hy'
          exact ⟨fn, h1, rfl⟩
        · obtain ⟨fn, h1, e⟩ := nm_mem (copies_mem (m := m) hd)
          exact ⟨fn, add_in kd fn h1, e⟩
      have nl : (nm kd.add).length ≤ 2 := by rw [nm_len]; exact al
      have cl : ∀ m : Nat, m ≤ 4 → ((List.replicate m (nm kd.add)).flatten).length ≤ 8 := fun m hm => by
        have := copies_len m (nm kd.add)
        unfold copies at this
        rw [this]
        exact Nat.mul_le_mul hm nl
      have yl : (ys.map PyData.str).length = kd.fns.length := by rw [List.length_map]; exact hyl
      refine ⟨fun _ => ?_, fun _ => ?_⟩
      · walk_at "px"
        refine ⟨by decide, by decide, sz (Nat.le_trans (Nat.mul_le_mul nl (show ((4 : Int)).toNat ≤ 4 by decide)) (by decide)), ?_⟩
        walk_at "px"
        refine ⟨by have := cl 4 (by decide); exact sz (by show (ys.map PyData.str).length + ((List.replicate 4 (nm kd.add)).flatten).length ≤ 1000; omega), ?_⟩
        walk_at "px"
        refine ⟨_, ys.map .str ++ (List.replicate 4 (nm kd.add)).flatten, rfl, .inr (.inl rfl), by rw [List.length_append]; omega, by have := cl 4 (by decide); rw [List.length_append]; omega, fun d hd => ?_⟩
        obtain ⟨fn, hf, rfl⟩ := pickd 4 d hd
        walk_at "px"
        exact hN _ ⟨fn, hf, rfl⟩
      · walk_at "px"
        refine ⟨by decide, by decide, sz (Nat.le_trans (Nat.mul_le_mul nl (show ((2 : Int)).toNat ≤ 4 by decide)) (by decide)), ?_⟩
        walk_at "px"
        refine ⟨by have := cl 2 (by decide); exact sz (by show (ys.map PyData.str).length + ((List.replicate 2 (nm kd.add)).flatten).length ≤ 1000; omega), ?_⟩
        walk_at "px"
        refine ⟨_, ys.map .str ++ (List.replicate 2 (nm kd.add)).flatten, rfl, .inr (.inl rfl), by rw [List.length_append]; omega, by have := cl 2 (by decide); rw [List.length_append]; omega, fun d hd => ?_⟩
        obtain ⟨fn, hf, rfl⟩ := pickd 2 d hd
        walk_at "px"
        exact hN _ ⟨fn, hf, rfl⟩
    rintro _ ⟨fn, hf, rfl⟩
    clear hN
    have sl := sig_few fn
    refine seq_cut (fun Γ1 => ∃ (as : List Arg) (lf : D) (ls : List Int) (c15 c16 c17 c18 c19 : Option D), Part ds fn.sig as fn.sig.length ∧ (lf = .own (.list (ls.map .int)) ∨ lf = .v (.list (ls.map .int))) ∧ (∀ v ∈ ls, v ∈ vs) ∧ ls.length ≤ vs.length ∧
      Γ1 = envG kd many most once way ds vs [some (.v (.int (0 + (i : Int)))), some (.v (.str fn.name)), some (.own (.list (as.map Arg.d))), some lf, c15, c16, c17, c18, c19, c20, c21, c22, none, none]) (fun N hN => ?_) ?_
    · walk_at "px"
      refine ⟨tableD kd, .inr fn.name, .str fn.sgn, rfl, rfl, table_at hf, ?_⟩
      walk_at "px"
      refine ⟨sgn_few fn, ?_⟩
      walk_at "px"
      rw [sgn_args]
      refine loop_inv (fun r Γ => ∃ (j : Nat) (as : List Arg) (lf : D) (ls : List Int) (c15 c16 c17 c18 c19 : Option D), j ≤ fn.sig.length ∧ r = enumFrom j ((fn.sig.drop j).map letterD) ∧ Part ds fn.sig as j ∧ (lf = .own (.list (ls.map .int)) ∨ lf = .v (.list (ls.map .int))) ∧ (∀ v ∈ ls, v ∈ vs) ∧ ls.length ≤ vs.length ∧
        Γ = envG kd many most once way ds vs [some (.v (.int (0 + (i : Int)))), some (.v (.str fn.name)), some (.own (.list (as.map Arg.d))), some lf, c15, c16, c17, c18, c19, c20, c21, c22, none, none]) ?_ ?_ _ _ ⟨0, [], _, vs, c15, c16, c17, c18, c19, Nat.zero_le _, rfl, Part.nil ds _, .inl rfl, fun _ h => h, Nat.le_refl _, rfl⟩
      · rintro d r Γ N2 ⟨j, as, lf, ls, c15, c16, c17, c18, c19, hj, hr2, pt, hlf, sub, lsl, rfl⟩ hN2
        have hj' : j < fn.sig.length := by
          rcases Nat.lt_or_ge j fn.sig.length with z | z
          · exact z
          · rw [List.drop_eq_nil_of_le z] at hr2; cases hr2
        rw [List.drop_eq_getElem_cons hj', List.map_cons] at hr2
        unfold enumFrom at hr2
        have hs : fn.sig[j]? = some fn.sig[j] := List.getElem?_eq_getElem hj'
        generalize fn.sig[j] = b at hs hr2
        cases hr2
        have fin : ∀ (as : List Arg) (lf : D) (ls : List Int) (c15 c16 c17 c18 c19 : Option D), Part ds fn.sig as (j + 1) → (lf = .own (.list (ls.map .int)) ∨ lf = .v (.list (ls.map .int))) → (∀ v ∈ ls, v ∈ vs) → ls.length ≤ vs.length →
            N2 (envG kd many most once way ds vs [some (.v (.int (0 + (i : Int)))), some (.v (.str fn.name)), some (.own (.list (as.map Arg.d))), some lf, c15, c16, c17, c18, c19, c20, c21, c22, none, none]) :=
          fun as lf ls c15 c16 c17 c18 c19 h1 h2 h3 h4 => hN2 _ ⟨j + 1, as, lf, ls, c15, c16, c17, c18, c19, hj', rfl, h1, h2, h3, h4, rfl⟩
        clear hN2
        have asf : (as.map Arg.d).length < sizeLine := by rw [List.length_map]; have := pt.le; exact Nat.lt_of_le_of_lt (show as.length ≤ 3 by omega) (by decide)
        walk_at "px"
        cases b with
        | true =>
          refine andT (by decide +kernel) ?_
          refine t_cut (fun k Γ1 => k = !ls.isEmpty ∧ Γ1 = envG kd many most once way ds vs [some (.v (.int (0 + (i : Int)))), some (.v (.str fn.name)), some (.own (.list (as.map Arg.d))), some lf, some (.v (.int (j : Int))), some (.v (letterD true)), c17, c18, c19, c20, c21, c22, none, none]) (fun N3 hN3 => ?_) ?_
          · rcases hlf with rfl | rfl
            all_goals
              walk_at "px"
              refine ⟨ints_shaped ls, nil_shapedL, ?_⟩
              rw [eqv_nilL, ints_emp]
              walk_at "px"
              exact hN3 _ _ ⟨rfl, rfl⟩
          rintro k' _ ⟨rfl, rfl⟩
          by_cases he : ls = []
          · subst he
            walk_at "px"
            exact fin as lf [] _ _ _ _ _ pt.skip hlf sub lsl
          have hne : ls.isEmpty = false := by cases ls with | nil => exact absurd rfl he | cons _ _ => rfl
          have l1 : 1 ≤ ls.length := List.length_pos_iff.mpr he
          have gfew := G.few
          rw [hne]
          refine yT ?_
          refine seq_cut (fun Γ1 => ∃ v ∈ ls, Γ1 = envG kd many most once way ds vs [some (.v (.int (0 + (i : Int)))), some (.v (.str fn.name)), some (.own (.list (as.map Arg.d))), some lf, some (.v (.int (j : Int))), some (.v (letterD true)), some (.v (.int v)), c18, c19, c20, c21, c22, none, none]) (fun N3 hN3 => ?_) ?_
          · obtain ⟨v1, hv1, e1⟩ := last_pick he
            obtain ⟨v2, hv2, e2⟩ := mid_pick he
            rcases hlf with rfl | rfl
            all_goals
              walk_at "px"
              refine ⟨fun _ => ?_, fun _ => ?_⟩
              · walk_at "px"
                refine ⟨_, e1, ?_⟩
                walk_at "px"
                exact hN3 _ ⟨v1, hv1, rfl⟩
              · walk_at "px"
                refine ⟨fun _ => ?_, fun _ => ?_⟩
                · walk_at "px"
                  refine ⟨_, e1, ?_⟩
                  walk_at "px"
                  exact hN3 _ ⟨v1, hv1, rfl⟩
                · walk_at "px"
                  refine ⟨fun _ => ?_, fun _ => ?_⟩
                  · walk_at "px"
                    refine ⟨_, ls.map .int, rfl, by simp, by rw [List.length_map]; omega, by rw [List.length_map]; omega, fun d hd => ?_⟩
                    obtain ⟨v, hv, rfl⟩ := List.mem_map.mp hd
                    walk_at "px"
                    exact hN3 _ ⟨v, hv, rfl⟩
                  · walk_at "px"
                    refine ⟨⟨by decide, by decide⟩, ?_⟩
                    walk_at "px"
                    refine ⟨_, e2, ?_⟩
                    walk_at "px"
                    exact hN3 _ ⟨v2, hv2, rfl⟩
          rintro _ ⟨v, hv, rfl⟩
          refine seq_cut (fun Γ1 => ∃ v ∈ ls, Γ1 = envG kd many most once way ds vs [some (.v (.int (0 + (i : Int)))), some (.v (.str fn.name)), some (.own (.list (as.map Arg.d))), some lf, some (.v (.int (j : Int))), some (.v (letterD true)), some (.v (.int v)), c18, c19, c20, c21, c22, none, none]) (fun N3 hN3 => ?_) ?_
          · rcases hlf with rfl | rfl
            all_goals
              walk_at "px"
              refine ⟨by decide, by decide, fun n n0 n1 => ?_⟩
              walk_at "px"
              refine ⟨fun _ => ?_, fun _ => ?_⟩
              · walk_at "px"
                refine ⟨_, ls.map .int, rfl, by simp, by rw [List.length_map]; omega, by rw [List.length_map]; omega, fun d hd => ?_⟩
                obtain ⟨v, hv, rfl⟩ := List.mem_map.mp hd
                walk_at "px"
                exact hN3 _ ⟨v, hv, rfl⟩
              · walk_at "px"
                exact hN3 _ ⟨v, hv, rfl⟩
          rintro _ ⟨v, hv, rfl⟩
          refine seq_cut (fun Γ1 => ∃ (lf : D) (ls : List Int), (lf = .own (.list (ls.map .int)) ∨ lf = .v (.list (ls.map .int))) ∧ (∀ v ∈ ls, v ∈ vs) ∧ ls.length ≤ vs.length ∧ Γ1 = envG kd many most once way ds vs [some (.v (.int (0 + (i : Int)))), some (.v (.str fn.name)), some (.own (.list (as.map Arg.d))), some lf, some (.v (.int (j : Int))), some (.v (letterD true)), some (.v (.int v)), c18, c19, c20, c21, c22, none, none]) (fun N3 hN3 => ?_) ?_
          · rcases hlf with rfl | rfl
            all_goals
              walk_at "px"
              refine ⟨fun _ => ?_, fun _ => ?_⟩
              · walk_at "px"
                refine comp_fm (fun d => match d with | .int x => !decide (x = v) | _ => false) id rfl rfl (by rw [List.length_map]; exact sz (by omega)) (fun d hd M1 M0 h1 h0 => ?_) ?_
                · obtain ⟨x, hx, rfl⟩ := List.mem_map.mp hd
                  walk_at "px"
                  refine ⟨fun e => ?_, fun e => ?_⟩
                  · walk_at "px"
                    exact h1 e _ rfl
                  · exact h0 e _ rfl
                · have e : ((ls.map PyData.int).filter fun d => match d with | .int x => !decide (x = v) | _ => false) = (ls.filter fun x => !decide (x = v)).map PyData.int := by
                    rw [List.filter_map]; rfl
                  rw [List.map_id, e]
                  walk_at "px"
                  exact hN3 _ ⟨_, ls.filter fun x => !decide (x = v), .inl rfl, fun x hx => sub x (List.mem_filter.mp hx).1, Nat.le_trans (List.length_filter_le _ _) lsl, rfl⟩
              · walk_at "px"
                exact hN3 _ ⟨_, ls, .inr rfl, sub, lsl, rfl⟩
          rintro _ ⟨lf2, ls2, hlf2, sub2, lsl2, rfl⟩
          obtain ⟨kk, rfl, hk⟩ := G.vers v (sub v hv)
          walk_at "px"
          refine ⟨_, _, _, rfl, rfl, asf, ?_⟩
          have e : as.map Arg.d ++ [(Arg.of kk).d] = (as ++ [Arg.of kk]).map Arg.d := by simp
          have fin' := fin (as ++ [Arg.of kk]) lf2 ls2 (some (.v (.int (j : Int)))) (some (.v (letterD true))) (some (.v (.int (kk : Int)))) c18 c19 (pt.of hs hk) hlf2 sub2 lsl2
          rw [← e] at fin'
          exact fin'
        | false =>
          refine andF (by decide +kernel) ?_
          refine yF ?_
          refine if_cut (fun k Γ1 => k = true ∧ Γ1 = envG kd many most once way ds vs [some (.v (.int (0 + (i : Int)))), some (.v (.str fn.name)), some (.own (.list (as.map Arg.d))), some lf, some (.v (.int (j : Int))), some (.v (letterD false)), c17, c18, c19, c20, c21, c22, none, none]) (fun N3 hN3 => ?_) ?_
          · walk_at "px"
            exact hN3 _ _ ⟨rfl, rfl⟩
          rintro k' _ ⟨rfl, rfl⟩
          refine yT ?_
          have few := pt.le
          refine seq_cut (fun Γ1 => ∃ z : Nat, z ≤ most ∧ Γ1 = envG kd many most once way ds vs [some (.v (.int (0 + (i : Int)))), some (.v (.str fn.name)), some (.own (.list (as.map Arg.d))), some lf, some (.v (.int (j : Int))), some (.v (letterD false)), c17, some (.v (.int (z : Int))), c19, c20, c21, c22, none, none]) (fun N3 hN3 => ?_) ?_
          · walk_at "px"
            refine ⟨fun _ => ?_, fun _ => ?_⟩
            · walk_at "px"
              refine ⟨sz (by simp; omega), ?_⟩
              cases as with
              | nil =>
                walk_at "px"
                exact hN3 _ ⟨0, Nat.zero_le _, rfl⟩
              | cons a as =>
                cases a with
                | i n =>
                  walk_at "px"
                  refine ⟨_, at0 _ _, ?_⟩
                  walk_at "px"
                  exact hN3 _ ⟨0, Nat.zero_le _, rfl⟩
                | of kk =>
                  have va := pt.rf (.of kk) List.mem_cons_self kk rfl
                  have lk : kk < (means ds []).length := by rw [msl]; exact va.lt
                  have hm : (means ds [])[kk]? = some (means ds [])[kk] := List.getElem?_eq_getElem lk
                  have hmem : (means ds [])[kk] ∈ means ds [] := List.getElem_mem lk
                  have hat := meansD_at hm
                  generalize (means ds [])[kk] = mm at hm hmem hat
                  walk_at "px"
                  refine ⟨_, at0 _ _, ?_⟩
                  walk_at "px"
                  refine ⟨_, at0 _ _, ?_⟩
                  walk_at "px"
                  refine ⟨_, hat, ?_⟩
                  cases mm with
                  | ver l =>
                    walk_at "px"
                    refine ⟨_, at0 _ _, ?_⟩
                    walk_at "px"
                    refine ⟨_, hat, ?_⟩
                    walk_at "px"
                    have := hN3 _ ⟨l.length, G.sm l hmem, rfl⟩
                    rw [← intsD_len l] at this
                    exact this
                  | ans n => walk_at "px"; exact hN3 _ ⟨0, Nat.zero_le _, rfl⟩
                  | stuck => walk_at "px"; exact hN3 _ ⟨0, Nat.zero_le _, rfl⟩
                  | none => walk_at "px"; exact hN3 _ ⟨0, Nat.zero_le _, rfl⟩
            · walk_at "px"
              exact hN3 _ ⟨0, Nat.zero_le _, rfl⟩
          rintro _ ⟨z, hz, rfl⟩
          refine seq_cut (fun Γ1 => ∃ n : Int, okI n ∧ Γ1 = envG kd many most once way ds vs [some (.v (.int (0 + (i : Int)))), some (.v (.str fn.name)), some (.own (.list (as.map Arg.d))), some lf, some (.v (.int (j : Int))), some (.v (letterD false)), c17, some (.v (.int (z : Int))), some (.v (.int n)), c20, c21, c22, none, none]) (fun N3 hN3 => ?_) ?_
          · walk_at "px"
            refine ⟨by decide, by decide, fun n n0 n1 => ?_⟩
            walk_at "px"
            refine ⟨by split <;> omega, by split <;> omega, fun n2 a2 b2 => ?_⟩
            walk_at "px"
            refine ⟨by decide, by decide, fun n3 _ _ => ?_⟩
            walk_at "px"
            refine hN3 _ ⟨_, ?_, rfl⟩
            have b3 : n2 < 63 := by
              have : (if decide (n = 0) = true then (1 : Int) else 0) ≤ 1 := by split <;> omega
              have b2' : n2 < (z : Int) + 1 + (if decide (n = 0) = true then (1 : Int) else 0) := b2
              omega
            have b4 : (0 : Int) ≤ (if decide (n3 = 0) = true then (1 : Int) else 0) ∧ (if decide (n3 = 0) = true then (1 : Int) else 0) ≤ 1 := by split <;> omega
            show okI (n2 - (if decide (n3 = 0) = true then (1 : Int) else 0))
            unfold okI
            omega
          rintro _ ⟨n, hok, rfl⟩
          have app : ∀ n : Int, as.map Arg.d ++ [PyData.int n] = (as ++ [Arg.i n]).map Arg.d := fun n => by simp [Arg.d]
          have fin' : ∀ n c19, okI n → N2 (envG kd many most once way ds vs [some (.v (.int (0 + (i : Int)))), some (.v (.str fn.name)), some (.own (.list (as.map Arg.d ++ [PyData.int n]))), some lf, some (.v (.int (j : Int))), some (.v (letterD false)), c17, some (.v (.int (z : Int))), c19, c20, c21, c22, none, none]) := fun n c19 hn => by
            rw [app]
            exact fin _ lf ls _ _ _ _ _ (pt.int hs hn) hlf sub lsl
          walk_at "px"
          have pickn : ∀ d ∈ [PyData.int 7, .int 0, .int 3, .int 7, .int (-2), .int 41, .int (10 ^ (6 : Int).toNat), .int 5], ∃ n, d = .int n ∧ okI n := by
            intro d hd
            simp only [List.mem_cons, List.not_mem_nil, or_false] at hd
            rcases hd with rfl | rfl | rfl | rfl | rfl | rfl | rfl | rfl <;> exact ⟨_, rfl, by unfold okI; decide⟩
          refine ⟨fun _ => ?_, fun _ => ?_⟩
          · walk_at "px"
            refine ⟨fun _ => ?_, fun _ => ?_⟩
            · walk_at "px"
              refine ⟨_, _, _, rfl, rfl, asf, ?_⟩
              exact fin' _ _ hok
            · walk_at "px"
              refine ⟨⟨by decide, by decide, by decide⟩, ?_⟩
              walk_at "px"
              refine ⟨_, _, rfl, .inr (.inl rfl), by decide, by decide, fun d hd => ?_⟩
              obtain ⟨n2, rfl, hn2⟩ := pickn d hd
              refine ⟨_, _, _, rfl, rfl, asf, ?_⟩
              exact fin' _ _ hn2
          · walk_at "px"
            refine ⟨⟨by decide, by decide, by decide⟩, ?_⟩
            walk_at "px"
            refine ⟨_, _, rfl, .inr (.inl rfl), by decide, by decide, fun d hd => ?_⟩
            obtain ⟨n2, rfl, hn2⟩ := pickn d hd
            refine ⟨_, _, _, rfl, rfl, asf, ?_⟩
            exact fin' _ _ hn2
      · rintro Γ ⟨j, as, lf, ls, c15, c16, c17, c18, c19, hj, hr2, pt, hlf, sub, lsl, rfl⟩
        have ej : j = fn.sig.length := by
          have := congrArg List.length hr2
          rw [enum_len, List.length_map, List.length_drop] at this
          simp at this; omega
        subst ej
        exact hN _ ⟨as, lf, ls, c15, c16, c17, c18, c19, pt, hlf, sub, lsl, rfl⟩
    rintro _ ⟨as, lf, ls, c15, c16, c17, c18, c19, pt, hlf, sub, lsl, rfl⟩
    have as3 : as.length ≤ 3 := Nat.le_trans pt.le sl
    have gfew := G.few
    have lsn : ls.length ≤ 100 := by omega
    refine seq_cut (fun Γ1 => Γ1 = envG kd many most once way ds vs [some (.v (.int (0 + (i : Int)))), some (.v (.str fn.name)), some (.own (.list (as.map Arg.d))), some lf, c15, c16, c17, c18, c19, some (.v (.bool (decide (as.length = fn.sig.length)))), c21, c22, none, none]) (fun N hN => ?_) ?_
    · walk_at "px"
      refine ⟨tableD kd, .inr fn.name, .str fn.sgn, rfl, rfl, table_at hf, ?_⟩
      walk_at "px"
      refine ⟨sgn_few fn, ?_⟩
      walk_at "px"
      have e : decide (((as.map Arg.d).length : Int) = (fn.sgn.length : Int) - 1) = decide (as.length = fn.sig.length) := by
        rw [List.length_map, sgn_len]
        exact decide_eq_decide.mpr ⟨fun h => by omega, fun h => by omega⟩
      rw [e]
      exact hN _ rfl
    rintro _ rfl
    refine seq_cut (fun Γ1 => ∃ m : Mean, (as.length = fn.sig.length → m = meant ⟨fn, as⟩ (means ds [])) ∧ Γ1 = envG kd many most once way ds vs [some (.v (.int (0 + (i : Int)))), some (.v (.str fn.name)), some (.own (.list (as.map Arg.d))), some lf, c15, c16, c17, c18, c19, some (.v (.bool (decide (as.length = fn.sig.length)))), some (.v m.d), c22, none, none]) (fun N hN => ?_) ?_
    · by_cases hw : as.length = fn.sig.length
      · rw [decide_eq_true hw] at hN ⊢
        have ha : ArgsOk ds ds.length as fn.sig := by
          have := pt.ok hw
          rwa [List.take_of_length_le (Nat.le_refl _)] at this
        have lt : ∀ y ∈ as, ∀ k, y = .of k → k < (means ds []).length := fun y hy k hk => by rw [msl]; exact args_lt ha y hy k hk
        walk_at "px"
        refine Px.comp_map (dOfRw (means ds [])) rfl rfl (by rw [List.length_map]; exact sz (by omega)) (fun d hd N' hN' => ?_) ?_
        · obtain ⟨y, hy, rfl⟩ := List.mem_map.mp hd
          have hN2 := hN'
          rw [dOfRw_ok] at hN2
          cases y with
          | i n =>
            walk_at "px"
            exact hN2 _ rfl
          | of j =>
            have lj := lt _ hy j rfl
            have hm : (means ds [])[j]? = some (means ds [])[j] := List.getElem?_eq_getElem lj
            have ej : rwOf (means ds []) (.of j) = .m (means ds [])[j] := by show Rw.m ((means ds []).getD j .none) = _; rw [List.getD_eq_getElem?_getD, hm]; rfl
            rw [ej] at hN2
            walk_at "px"
            refine ⟨_, meansD_at hm, ?_⟩
            walk_at "px"
            exact hN2 _ rfl
        have e3 : (as.map Arg.d).map (dOfRw (means ds [])) = (as.map (rwOf (means ds []))).map Rw.d := by
          rw [List.map_map, List.map_map]
          exact List.map_congr_left fun y _ => dOfRw_ok _ y
        rw [e3]
        walk_at "px"
        refine ⟨by rw [List.length_map]; omega, fun ps hps => ?_, ?_⟩
        · obtain ⟨h1, h2⟩ := meant_size (x := ⟨fn, as⟩) ha ps hps
          exact ⟨h1, fun l hl => Nat.le_trans (G.sm l (h2 l hl)) (by omega)⟩
        walk_at "px"
        have em := rw_mean (x := ⟨fn, as⟩) lt
        rw [show lawMean fn (as.map (rwOf (means ds []))) = meant ⟨fn, as⟩ (means ds []) from em]
        exact hN _ ⟨_, fun _ => rfl, rfl⟩
      · rw [decide_eq_false hw] at hN ⊢
        walk_at "px"
        exact hN _ ⟨.none, fun e => absurd e hw, rfl⟩
    rintro _ ⟨m, hm, rfl⟩
    refine seq_cut (fun Γ1 => Γ1 = envG kd many most once way ds vs [some (.v (.int (0 + (i : Int)))), some (.v (.str fn.name)), some (.own (.list (as.map Arg.d))), some lf, c15, c16, c17, c18, c19, some (.v (.bool (decide (as.length = fn.sig.length)))), some (.v m.d), some (.v (.bool (greatly most m))), none, none]) (fun N hN => ?_) ?_
    · cases m with
      | ver l =>
        walk_at "px"
        have e : decide ((most : Int) < ((intsD l).length : Int)) = greatly most (.ver l) := by
          rw [intsD_len]
          exact decide_eq_decide.mpr ⟨fun h => by omega, fun h => by omega⟩
        rw [e]
        exact hN _ rfl
      | ans n => walk_at "px"; exact hN _ rfl
      | stuck => walk_at "px"; exact hN _ rfl
      | none => walk_at "px"; exact hN _ rfl
    rintro _ rfl
    refine seq_cut (fun Γ1 => ∃ (x : Deed) (lf : D) (ls : List Int), x.f ∈ kd.fns ∧ ArgsOk ds ds.length x.args x.f.sig ∧ (∀ l, meant x (means ds []) = .ver l → l.length ≤ most) ∧ (lf = .own (.list (ls.map .int)) ∨ lf = .v (.list (ls.map .int))) ∧ (∀ v ∈ ls, v ∈ vs) ∧ ls.length ≤ vs.length ∧ (∀ n, Arg.i n ∈ x.args → okI n) ∧
      Γ1 = envG kd many most once way ds vs [some (.v (.int (0 + (i : Int)))), some (.v (.str x.f.name)), some (.own (.list (x.args.map Arg.d))), some lf, c15, c16, c17, c18, c19, some (.v (.bool (decide (as.length = fn.sig.length)))), some (.v (meant x (means ds [])).d), some (.v (.bool (greatly most m))), none, none]) (fun N hN => ?_) ?_
    · refine if_cut (fun k Γ1 => (k = false → as.length = fn.sig.length ∧ greatly most m = false) ∧ Γ1 = envG kd many most once way ds vs [some (.v (.int (0 + (i : Int)))), some (.v (.str fn.name)), some (.own (.list (as.map Arg.d))), some lf, c15, c16, c17, c18, c19, some (.v (.bool (decide (as.length = fn.sig.length)))), some (.v m.d), some (.v (.bool (greatly most m))), none, none]) (fun N3 hN3 => ?_) ?_
      · walk_at "px"
        refine ⟨fun e => ?_, fun e => ?_⟩
        · exact hN3 _ _ ⟨fun z => (by cases z), rfl⟩
        · have hw : as.length = fn.sig.length := by simpa using e
          walk_at "px"
          refine ⟨fun e2 => ?_, fun e2 => ?_⟩
          · exact hN3 _ _ ⟨fun z => (by cases z), rfl⟩
          · have hg : greatly most m = false := e2
            have w1 : ∃ s : Str, (∃ r, m.d = .tuple (.str s :: r)) := by cases m <;> exact ⟨_, _, rfl⟩
            obtain ⟨s1, r1, em⟩ := w1
            rw [em] at hN3 ⊢
            walk_at "px"
            refine ⟨_, at0 _ _, ?_⟩
            walk_at "px"
            refine ⟨fun _ => ?_, fun _ => ?_⟩
            · walk_at "px"
              refine ⟨tableD kd, .inr fn.name, .str fn.sgn, rfl, rfl, table_at hf, ?_⟩
              walk_at "px"
              refine ⟨sgn_few fn, ?_⟩
              walk_at "px"
              refine ⟨fun _ => ?_, fun _ => ?_⟩
              · walk_at "px"
                refine ⟨by decide, by decide, fun n n0 n1 => ?_⟩
                walk_at "px"
                exact hN3 _ _ ⟨fun _ => ⟨hw, hg⟩, rfl⟩
              · walk_at "px"
                exact hN3 _ _ ⟨fun _ => ⟨hw, hg⟩, rfl⟩
            · walk_at "px"
              exact hN3 _ _ ⟨fun _ => ⟨hw, hg⟩, rfl⟩
      rintro k' _ ⟨hk', rfl⟩
      refine ⟨fun _ => ?_, fun e => ?_⟩
      · walk_at "px"
        exact hN _ ⟨⟨.empty, []⟩, _, vs, by cases kd <;> decide, .nil, fun l e => (by cases e; exact Nat.zero_le _), .inl rfl, fun _ h => h, Nat.le_refl _, fun _ h => (by cases h), rfl⟩
      · obtain ⟨hw, hg⟩ := hk' e
        have ha : ArgsOk ds ds.length as fn.sig := by
          have := pt.ok hw
          rwa [List.take_of_length_le (Nat.le_refl _)] at this
        have em := hm hw
        subst em
        exact hN _ ⟨⟨fn, as⟩, lf, ls, hf, ha, greatly_no hg, hlf, sub, lsl, pt.ib, rfl⟩
    rintro _ ⟨x, lf, ls, hxf, hxa, hxm, hlf, sub, lsl, hxi, rfl⟩
    have G2 := G.snoc hxf hxa hxm sub lsl hxi
    refine seq_cut (fun Γ1 => ∃ lf : D, Γ1 = envG kd many most once way ds (ls ++ (if x.f.ans then [] else [(ds.length : Int)])) [some (.v (.int (0 + (i : Int)))), some (.v (.str x.f.name)), some (.own (.list (x.args.map Arg.d))), some lf, c15, c16, c17, c18, c19, some (.v (.bool (decide (as.length = fn.sig.length)))), some (.v (meant x (means ds [])).d), some (.v (.bool (greatly most m))), none, none]) (fun N hN => ?_) ?_
    · rcases hlf with rfl | rfl
      all_goals
        walk_at "px"
        refine ⟨tableD kd, .inr x.f.name, .str x.f.sgn, rfl, rfl, table_at hxf, ?_⟩
        walk_at "px"
        refine ⟨sgn_few x.f, ?_⟩
        walk_at "px"
        rw [sgn_ret]
        cases hans : x.f.ans with
        | true =>
          rw [hans] at hN
          refine andF (by decide +kernel) ?_
          walk_at "px"
          refine ⟨by rw [List.length_map]; exact sz (by simp; omega), ?_⟩
          walk_at "px"
          rw [List.append_nil]
          rw [if_pos rfl, List.append_nil] at hN
          exact hN _ ⟨_, rfl⟩
        | false =>
          rw [hans] at hN
          refine andT (by decide +kernel) ?_
          walk_at "px"
          refine ⟨by rw [List.length_map]; exact sz (by simp; omega), ?_⟩
          walk_at "px"
          have e : ls.map PyData.int ++ [PyData.int ((ds.map Deed.d).length : Int)] = (ls ++ (if (false : Bool) = true then [] else [(ds.length : Int)])).map PyData.int := by simp
          rw [e]
          exact hN _ ⟨_, rfl⟩
    rintro _ ⟨lf2, rfl⟩
    have dsl : ds.length ≤ 100 := by omega
    walk_at "px"
    refine ⟨_, _, _, rfl, rfl, Nat.lt_of_le_of_lt (show (ds.map Deed.d).length ≤ 100 by rw [List.length_map]; exact dsl) (by decide), ?_⟩
    walk_at "px"
    refine ⟨_, _, _, rfl, rfl, Nat.lt_of_le_of_lt (show (meansD (means ds [])).length ≤ 100 by unfold meansD; rw [List.length_map, msl]; exact dsl) (by decide), ?_⟩
    have e1 : ds.map Deed.d ++ [x.d] = (ds ++ [x]).map Deed.d := by simp
    have e2 : meansD (means ds []) ++ [(meant x (means ds [])).d] = meansD (means (ds ++ [x]) []) := by rw [means_snoc]; simp [meansD]
    have last := hN1 (envG kd many most once way (ds ++ [x]) (ls ++ (if x.f.ans then [] else [(ds.length : Int)])) [some (.v (.int (0 + (i : Int)))), some (.v (.str x.f.name)), some (.own (.list (x.args.map Arg.d))), some lf2, c15, c16, c17, c18, c19, some (.v (.bool (decide (as.length = fn.sig.length)))), some (.v (meant x (means ds [])).d), some (.v (.bool (greatly most m))), none, none])
      ⟨i + 1, ds ++ [x], _, _, _, _, _, _, _, _, _, _, _, _, _, by omega, rfl, G2, by rw [List.length_append]; simp; exact len, rfl⟩
    unfold envG at last
    rw [← e1, ← e2] at last
    exact last
  · rintro Γ ⟨i, ds, vs, c11, c12, c13, c14, c15, c16, c17, c18, c19, c20, c21, c22, hi, hr', G, len, rfl⟩
    exact hN _ ⟨ds, vs, _, G, by have := rng_end hr'; omega, rfl⟩
end
end K59
end

/-! K59n -/
section
set_option Elab.async false
set_option linter.all false
set_option maxRecDepth 100000
set_option maxHeartbeats 4000000
namespace K59
open PySem PySem.Spec PyProof.Rows L2 Dh Px
/-! ### the deck is made -/
section
variable {P : Program} {w : World} {K : PySem.W.Frag} {mg : Str → Option Value} {base : Heap}
theorem cut_map {α : Type} (f : α → V) (xs : List α) (lo hi : Option Int) : ∃ ys : List α, cutV (xs.map f) lo hi = ys.map f ∧ ys.length ≤ xs.length ∧ ∀ y ∈ ys, y ∈ xs := by
  unfold cutV
  refine ⟨(xs.drop (HT.sIx (xs.map f).length 0 lo)).take (HT.sIx (xs.map f).length (xs.map f).length hi - HT.sIx (xs.map f).length 0 lo), ?_, ?_, ?_⟩
  · rw [List.map_take, List.map_drop]
  · rw [List.length_take, List.length_drop]; omega
  · intro y hy
    exact List.mem_of_mem_drop (List.mem_of_mem_take hy)
theorem map_at {α : Type} {f : α → V} {xs : List α} {i : Nat} {y : V} (h : (xs.map f)[i]? = some y) : ∃ x, xs[i]? = some x ∧ y = f x := by
  rw [List.getElem?_map] at h
  cases e : xs[i]? with
  | none => rw [e] at h; cases h
  | some x => rw [e] at h; exact ⟨x, rfl, (Option.some.inj h).symm⟩
def spDeck (K : PySem.W.Frag) : Sp := fun vs H Q _ => ∃ (a : Addr) (ns : List Int), vs = [.ref a] ∧ SqL K H a (ns.map V.int) ∧ ns.length ≤ 63 ∧
  ∀ (H' : Hp) (dk lf : Addr), H dk = none → H lf = none → Deck IK.ks H' dk lf → Dh.Kp [] H H' → Q (.ref dk) H'
abbrev sDeck := top 42
theorem scDeck : FnScope ["script", "mixed", "cell"] ["script"] (defScope sDeck) := ⟨rfl, rfl, rfl, by decide +kernel, rfl, by decide +kernel, by decide +kernel⟩
theorem okDeck {f : Addr} {fd : FuncData} (F : Fun K "_law_deck" "_law_deck" sDeck f fd) (T : Blt mg) : FnOk P w K mg base CX0 1 f fd ["script"] (spDeck K) := by
  refine F.ok scDeck (fun vs H Q E h => ?_) (fun cdv A outer s H vs Q E hr h => ?_)
  · obtain ⟨_, _, rfl, _⟩ := h
    rfl
  · obtain ⟨a, ns, rfl, hS, hn, k⟩ := h
    refine ⟨_, (pss_cons (ps_set (i := 1) scDeck.nd rfl (Or.inl rfl) pe_int)
      (pss_cons (ps_for PassesOwn.never rfl (pi_list (pe_slice sl_list (pv 0) po_none (po_some pe_int))) (pg_name (i := 2) scDeck.nd rfl (Or.inl rfl))
        (pss_one (ps_set (i := 1) scDeck.nd rfl (Or.inl rfl) (pe_op op_mod (pe_callTy call_int1 (by rfl) T.int (by decide +kernel) (pa_cons (pe_op op_add (pe_op op_add (pe_op op_mul (pv 1) pe_int) (pe_op op_mod (pe_callTy call_int1 (by rfl) T.int (by decide +kernel) (pa_cons (pv 2) pa_nil)) pe_int)) pe_int) pa_nil)) pe_int))))
      (pss_one (ps_ret (pe_disp (pps_cons pe_str (pe_revL (pe_lc (own := [("cell", 2)]) (g := gName 2) (tt := tYes) (te := tCB rInt1 (tCons (tVar 2) tNil)) rfl scDeck.nd (pi_list (pe_slice sl_list (pv 0) po_none (po_some pe_int))) (blkOk_by (N := ["script", "mixed", "cell"]) (sc := defScope sDeck) (by decide +kernel)) (fun _ _ _ _ _ => pg_name (i := 2) scDeck.nd rfl (Or.inl rfl)) (fun _ _ _ _ _ => pts_nil) (fun _ _ _ _ _ => pe_callTy cr_int1 (by rfl) T.int (by decide +kernel) (pa_cons (pv 2) pa_nil)))) (pps_cons pe_str (pv 1) (pps_cons pe_str pe_int pps_nil))) (by rfl) (by rfl) (fun z => by cases z) (by decide)))))), ?_⟩
    refine ⟨_, rfl, _, rfl, a, _, rfl, hS, fun p hp => ?_⟩
    obtain ⟨ms, hms, hml, _⟩ := cut_map V.int ns none (some 63)
    rw [hms]
    refine ⟨p, rfl, ⟨_, SqL.of upd_same⟩, for_list (K := K) (a := p) (xs := ms.map V.int) (fun i σ H2 => H2 = upd H p (.lst (ms.map V.int)) ∧ ∃ (m : Int) (c : Option V), σ = [some (.ref a), some (.int m), c]) ⟨rfl, _, none, rfl⟩ ?_ ?_ ?_⟩
    · rintro i σ H2 _ ⟨rfl, _⟩
      exact SqL.of upd_same
    · rintro i y σ H2 hi ⟨rfl, m, c, rfl⟩
      obtain ⟨x, _, rfl⟩ := map_at hi
      refine ⟨_, rfl, _, _, rfl, rfl, .inr (by decide), _, rfl, .inl ⟨_, rfl, _, _, rfl, rfl, (show (0 : Int) < _ by decide), _, _, rfl, rfl, _, _, rfl, rfl, .inl ⟨_, rfl, _, _, rfl, rfl, (show (0 : Int) < _ by decide), ?_⟩⟩⟩
      exact ⟨rfl, _, _, rfl⟩
    · rintro σ H2 ⟨rfl, m, c, rfl⟩
      have k1 : Dh.Kp [] H (upd H p (.lst (ms.map V.int))) := Dh.Kp.new hp
      have hS1 : SqL K (upd H p (.lst (ms.map V.int))) a (ns.map V.int) := k1.sqL (by simp) hS
      generalize upd H p (.lst (ms.map V.int)) = H2 at k1 hS1
      intro dk hdk
      have k2 : Dh.Kp [] H2 (upd H2 dk (.dK [])) := Dh.Kp.new hdk
      refine ⟨_, rfl, _, rfl, a, _, rfl, k2.sqL (by simp) hS1, fun q hq => ?_⟩
      rw [hms]
      have ndq : dk ≠ q := ne_of_none upd_same hq
      have k3 : Dh.Kp [] (upd H2 dk (.dK [])) (upd (upd H2 dk (.dK [])) q (.lst (ms.map V.int))) := Dh.Kp.new hq
      have dk3 : (upd (upd H2 dk (.dK [])) q (.lst (ms.map V.int))) dk = some (.dK []) := by rw [upd_ne ndq, upd_same]
      have q3 : (upd (upd H2 dk (.dK [])) q (.lst (ms.map V.int))) q = some (.lst (ms.map V.int)) := upd_same
      generalize upd (upd H2 dk (.dK [])) q (.lst (ms.map V.int)) = H3 at k3 dk3 q3
      refine ⟨q, rfl, ⟨_, SqL.of q3⟩, fun D hD => lc_list (K := K) (a := q) (xs := ms.map V.int) (fun i H => H = upd H3 D (.lst ((ms.take i).map V.int))) (by simp) (fun i H _ e => by rw [e]; exact SqL.of (by rw [upd_ne (ne_of_none q3 hD)]; exact q3)) ?_ ?_⟩
      · rintro i x H hx rfl
        obtain ⟨z, hz, rfl⟩ := map_at hx
        refine ⟨rfl, ?_⟩
        show tCB rInt1 (tCons (tVar 2) tNil) _ _ _
        refine ⟨_, rfl, .inl ⟨_, rfl, _, upd_same, ?_, ?_⟩⟩
        · rw [List.length_map, List.length_take]
          exact Nat.lt_of_le_of_lt (show min i ms.length ≤ 63 by omega) (by decide)
        · obtain ⟨hi, hzz⟩ := List.getElem?_eq_some_iff.mp hz
          rw [List.take_succ_eq_append_getElem hi, hzz]
          show upd (upd H3 D _) D _ = _
          rw [List.map_append]
          funext b
          by_cases e : b = D
          · rw [e, upd_same, upd_same]; rfl
          · rw [upd_ne e, upd_ne e, upd_ne e]
      rintro H4' rfl
      rw [List.length_map, List.take_of_length_le (Nat.le_refl _)]
      have nD2 : dk ≠ D := ne_of_none dk3 hD
      have k4 : Dh.Kp [] H3 (upd H3 D (.lst (ms.map V.int))) := Dh.Kp.new hD
      have dk4 : (upd H3 D (.lst (ms.map V.int))) dk = some (.dK []) := by rw [upd_ne nD2]; exact dk3
      refine ⟨D, _, rfl, SqL.of upd_same, fun lf hlf => ?_⟩
      generalize upd H3 D (.lst (ms.map V.int)) = H4 at k4 dk4 hlf
      have nl : dk ≠ lf := ne_of_none dk4 hlf
      have k5 : Dh.Kp [] H4 (upd H4 lf (.lst (ms.map V.int).reverse)) := Dh.Kp.new hlf
      refine ⟨_, rfl, by rw [upd_ne nl]; exact dk4, [(kLeft, .ref lf), (Px.kMixed, .int m), (kTurn, .int 0)], rfl, (show 3 ≤ 15 by decide), ?_⟩
      have back : ∀ {b : Addr} {H' : Hp}, Dh.Kp [] H H' → H' b = none → H b = none := fun {b H'} kk e => by
        cases z : H b with
        | none => rfl
        | some o => rw [kk b o z (by simp)] at e; cases e
      refine k _ dk lf (back k1 hdk) (back (((k1.trans k2).trans k3).trans k4) hlf) ⟨⟨_, upd_same, (by show 3 ≤ 10; decide), by rfl, fun j hj => ?_⟩, ⟨ms.reverse, ?_, ?_⟩⟩ ?_
      · have hj' : j = Px.kMixed ∨ j = kTurn := by
          rcases List.mem_cons.mp hj with h | h
          · exact .inl h
          · exact .inr (List.mem_singleton.mp h)
        rcases hj' with rfl | rfl
        · exact ⟨_, by rfl⟩
        · exact ⟨_, by rfl⟩
      · rw [upd_ne nl.symm, upd_same, List.map_reverse]
      · rw [List.length_reverse]; omega
      · intro b o e _
        have e2 := k5 b o (k4 b o (k3 b o (k2 b o (k1 b o e (by simp)) (by simp)) (by simp)) (by simp)) (by simp)
        have nb : b ≠ dk := ne_of_none (k1 b o e (by simp)) hdk
        rw [upd_ne nb]
        exact e2
end
end K59
end

/-! K59o -/
section
set_option Elab.async false
set_option linter.all false
set_option maxRecDepth 100000
set_option maxHeartbeats 8000000
namespace K59
open PySem PySem.Spec PyProof.Rows L2 Dh Px
/-- the statement i of a statement's body, the scope of a comprehension that is assigned -/
def bodyAt (s : Stmt) (i : Nat) : Stmt := match s with
  | .For _ _ b _ _ => b.getD i (.Pass ⟨0, 0, 0, 0⟩)
  | .FunctionDef _ _ b _ _ _ _ _ _ _ => b.getD i (.Pass ⟨0, 0, 0, 0⟩)
  | _ => .Pass ⟨0, 0, 0, 0⟩
def asgScope : Stmt → Scope
  | .Assign _ (.ListComp _ _ sc _) _ => sc
  | _ => { kind := .function, names := [], isGenerator := false, isCoroutine := false }
/-! ### positions -/
def posFrom (q : Deed → Bool) : Nat → List Deed → List Nat
  | _, [] => []
  | i, x :: r => if q x = true then i :: posFrom q (i + 1) r else posFrom q (i + 1) r
theorem users_pos (k : Nat) : ∀ (i : Nat) (ds : List Deed), usersFrom k i ds = posFrom (uses k) i ds
  | _, [] => rfl
  | i, x :: r => by unfold usersFrom posFrom; rw [users_pos k (i + 1) r]
theorem pos_mem (q : Deed → Bool) : ∀ (i : Nat) (ds : List Deed), ∀ j ∈ posFrom q i ds, i ≤ j ∧ ∃ x, ds[j - i]? = some x ∧ q x = true
  | _, [], _, h => by cases h
  | i, x :: r, j, h => by
    unfold posFrom at h
    have next : j ∈ posFrom q (i + 1) r → i ≤ j ∧ ∃ y, (x :: r)[j - i]? = some y ∧ q y = true := fun h => by
      obtain ⟨h1, y, h3, h4⟩ := pos_mem q (i + 1) r j h
      refine ⟨by omega, y, ?_, h4⟩
      rw [show j - i = (j - (i + 1)) + 1 by omega, List.getElem?_cons_succ]; exact h3
    by_cases u : q x = true
    · rw [if_pos u] at h
      rcases List.mem_cons.mp h with rfl | h
      · exact ⟨Nat.le_refl _, x, by simp, u⟩
      · exact next h
    · rw [if_neg u] at h
      exact next h
theorem pos_len (q : Deed → Bool) : ∀ (i : Nat) (ds : List Deed), (posFrom q i ds).length ≤ ds.length
  | _, [] => Nat.le_refl _
  | i, x :: r => by
    have := pos_len q (i + 1) r
    unfold posFrom
    split <;> simp <;> omega
def posD (is : List Nat) : List PyData := is.map fun i : Nat => PyData.int (i : Int)
theorem posD_len (is : List Nat) : (posD is).length = is.length := by simp [posD]
theorem posD_mem {is : List Nat} {d : PyData} (h : d ∈ posD is) : ∃ i ∈ is, d = .int (i : Int) := by
  obtain ⟨i, hi, e⟩ := List.mem_map.mp h
  exact ⟨i, hi, e.symm⟩
def fstD : PyData → PyData
  | .tuple (d :: _) => d
  | d => d
/-- [k for k, deed in enumerate(world) if ..] -/
theorem enum_pos (q : Deed → Bool) (p : PyData → Bool) (h : ∀ i x, p (.tuple [.int i, x.d]) = q x) : ∀ (i : Nat) (ds : List Deed), ((enumFrom i (ds.map Deed.d)).filter p).map fstD = posD (posFrom q i ds)
  | _, [] => rfl
  | i, x :: r => by
    have ih := enum_pos q p h (i + 1) r
    have e := h (i : Int) x
    rw [List.map_cons]
    unfold enumFrom posFrom
    by_cases u : q x = true
    · rw [if_pos u, List.filter_cons_of_pos (by rw [e]; exact u), List.map_cons, ih]; rfl
    · rw [if_neg u, List.filter_cons_of_neg (by rw [e]; exact u), ih]
theorem enum_mem : ∀ {i : Nat} {ds : List Deed} {d : PyData}, d ∈ enumFrom i (ds.map Deed.d) → ∃ (j : Nat) (x : Deed), x ∈ ds ∧ d = .tuple [.int (j : Int), x.d]
  | _, [], _, h => by cases h
  | i, x :: r, d, h => by
    rw [List.map_cons] at h
    unfold enumFrom at h
    rcases List.mem_cons.mp h with rfl | h
    · exact ⟨i, x, List.mem_cons_self, rfl⟩
    · obtain ⟨j, y, hy, e⟩ := enum_mem h
      exact ⟨j, y, List.mem_cons_of_mem _ hy, e⟩
def isVerF (x : Deed) : Bool := !x.f.ans
def spotP : PyData → Bool
  | .tuple [_, .tuple [.str nm, _]] => !inV (toV (.str nm)) (ansD.map toV)
  | _ => false
theorem spotP_d (i : Int) (x : Deed) : spotP (.tuple [.int i, x.d]) = isVerF x := by
  show (!inV (toV (.str x.f.name)) (ansD.map toV)) = !x.f.ans
  rw [ans_in]
theorem pos_head {ds : List Deed} (h : ds[0]? = some ⟨.empty, []⟩) : 0 ∈ posFrom isVerF 0 ds := by
  cases ds with
  | nil => cases h
  | cons x r =>
    have e : x = ⟨.empty, []⟩ := by simpa using h
    subst e
    unfold posFrom
    rw [if_pos (by rfl)]
    exact List.mem_cons_self
theorem rng_mem {n : Nat} {d : PyData} (h : d ∈ rangeD 0 n) : ∃ p : Nat, p < n ∧ d = .int (p : Int) := by
  unfold rangeD at h
  obtain ⟨p, hp, rfl⟩ := List.mem_map.mp h
  exact ⟨p, List.mem_range.mp hp, by rw [Int.zero_add]⟩
/-! ### ("of", k) in the arguments -/
theorem eqv_of (k : Nat) (a : Arg) : PyData.eqv a.d (.tuple [.str "of", .int (k : Int)]) = a.isOf k := by
  cases a with
  | i n => simp [Arg.d, PyData.eqv, Arg.isOf]
  | of j =>
    have e : ((j : Int) = (k : Int)) ↔ j = k := Int.ofNat_inj
    simp only [Arg.d, PyData.eqv, PyData.eqvAll, Arg.isOf]
    rw [Bool.eq_iff_iff]
    simp [e]
theorem any_of (k : Nat) (x : Deed) : (x.args.map Arg.d).any (fun z => PyData.eqv z (.tuple [.str "of", .int (k : Int)])) = uses k x := by
  unfold uses
  rw [List.any_map]
  congr 1
  funext a
  exact eqv_of k a
/-- some deed uses k -/
def anyUse (ds : List Deed) : PyData → Bool
  | .int j => ds.any (uses j.toNat)
  | _ => false
theorem anyUse_d (ds : List Deed) (j : Nat) : anyUse ds (.int (j : Int)) = ds.any (uses j) := by
  show ds.any (uses (j : Int).toNat) = _
  rw [Int.toNat_natCast]
theorem some_use (ds : List Deed) (j : Nat) : (((ds.map Deed.d).filter (usesD j)).map fun _ => PyData.int 1).isEmpty = !ds.any (uses j) := by
  rw [filter_d]
  induction ds with
  | nil => rfl
  | cons x r ih =>
    cases u : uses j x with
    | true => rw [List.filter_cons_of_pos u, List.any_cons, u]; rfl
    | false => rw [List.filter_cons_of_neg (by simp [u]), List.any_cons, u, Bool.false_or]; exact ih
theorem filter_pos (p : PyData → Bool) (is : List Nat) : (posD is).filter p = posD (is.filter fun i => p (.int (i : Int))) := by
  unfold posD
  rw [List.filter_map]; rfl
def usesP (k : Nat) : PyData → Bool
  | .tuple [_, d] => usesD k d
  | _ => false
theorem usesP_d (k : Nat) (i : Int) (x : Deed) : usesP k (.tuple [.int i, x.d]) = uses k x := usesD_d k x
def d00 : Deed := ⟨.empty, []⟩
def spotD (ds : List Deed) : PyData → PyData
  | .int k => (ds.getD k.toNat d00).d
  | d => d
def spotM (ms : List Mean) : PyData → PyData
  | .int k => (ms.getD k.toNat .none).d
  | d => d
theorem getD_at {α : Type} {xs : List α} {j : Nat} {x d : α} (h : xs[j]? = some x) : xs.getD j d = x := by rw [List.getD_eq_getElem?_getD, h]; rfl
theorem spots_d {ds : List Deed} (k : Nat) : (posD (usersFrom k 0 ds)).map (spotD ds) = (ds.filter (uses k)).map Deed.d := by
  unfold posD
  rw [List.map_map]
  refine users_map k _ _ 0 ds fun j x h => ?_
  show (ds.getD (((0 + j : Nat) : Int)).toNat d00).d = x.d
  rw [Int.toNat_natCast, Nat.zero_add, getD_at h]
theorem spots_m {kd : Kd} {ds : List Deed} (ok : worldOk kd ds) (k : Nat) : (posD (usersFrom k 0 ds)).map (spotM (means ds [])) = meansD ((ds.filter (uses k)).map fun x => meant x (means ds [])) := by
  unfold posD meansD
  rw [List.map_map, List.map_map]
  refine users_map k _ _ 0 ds fun j x h => ?_
  show ((means ds []).getD (((0 + j : Nat) : Int)).toNat .none).d = (meant x (means ds [])).d
  rw [Int.toNat_natCast, Nat.zero_add, getD_at (means_at ok h)]
theorem branch_none (ds : List Deed) (k : Nat) : branch ds k 0 = ds := by simp [branch, copies]
theorem Arg.flat (a : Arg) : Flat 1 a.d := by
  cases a with
  | i n => exact Flat.int n
  | of k =>
    refine Flat.tup (n := 0) fun d hd => ?_
    rcases List.mem_cons.mp hd with rfl | hd
    · exact Flat.str (by decide +kernel)
    · rw [List.mem_singleton.mp hd]; exact Flat.int _
theorem of_shaped (k : Nat) : SeqAt.shaped (.tuple [.str "of", .int (k : Int)]) = true := (Arg.flat (.of k)).ok (by decide)
theorem args_shaped (x : Deed) : SeqAt.shaped (.tuple (x.args.map Arg.d)) = true :=
  (Flat.tup (n := 1) fun d hd => by obtain ⟨a, _, rfl⟩ := List.mem_map.mp hd; exact a.flat).ok (by decide)
theorem means_shaped (ms : List Mean) : SeqAt.shaped (.list (meansD ms)) = true :=
  (Flat.lst (n := 2) fun d hd => by obtain ⟨m, _, rfl⟩ := List.mem_map.mp hd; exact m.flat).ok (by decide)
theorem pos_shaped (is : List Nat) : SeqAt.shaped (.list (posD is)) = true :=
  (Flat.lst (n := 0) fun d hd => by obtain ⟨i, _, rfl⟩ := posD_mem hd; exact Flat.int _).ok (by decide)
theorem ones_shaped (n : Nat) : SeqAt.shaped (.list (List.replicate n (.int 1))) = true :=
  (Flat.lst (n := 0) fun d hd => by rw [(List.mem_replicate.mp hd).2]; exact Flat.int _).ok (by decide)
/-! ### what the items are -/
def okV : Mean → Prop
  | .ver l => ∀ n ∈ l, okI n
  | .ans n => okI n
  | _ => True
theorem look_okV {l : List Int} {i : Int} (h : ∀ n ∈ l, okI n) : okV (look l i) := by
  unfold look
  split
  · rename_i c
    have lt : i.toNat < l.length := by omega
    show okI (l.getD i.toNat 0)
    rw [List.getD_eq_getElem?_getD, List.getElem?_eq_getElem lt]
    exact h _ (List.getElem_mem lt)
  · trivial
theorem sortI_mem {l : List Int} {n : Int} : n ∈ sortI l ↔ n ∈ l := (sortI_perm l).mem_iff
theorem mean_okV {f : Fn} {vs : List Pv} (hx : ∀ l, Pv.xs l ∈ vs → ∀ n ∈ l, okI n) (hn : ∀ n, Pv.n n ∈ vs → okI n) : okV (mean f vs) := by
  unfold mean
  split <;> first
    | trivial
    | (apply look_okV; exact hx _ List.mem_cons_self)
    | (split <;> first | trivial | (intro n hm; have z := List.mem_of_mem_drop hm; (first | exact hx _ List.mem_cons_self n z | exact hx _ (List.mem_cons_of_mem _ List.mem_cons_self) n z)) | (intro n hm; have z := List.dropLast_subset _ hm; (first | exact hx _ List.mem_cons_self n z | exact hx _ (List.mem_cons_of_mem _ List.mem_cons_self) n z)) | (intro n hm; rcases List.mem_or_eq_of_mem_set hm with z | rfl <;> first | (first | exact hx _ List.mem_cons_self n z | exact hx _ (List.mem_cons_of_mem _ List.mem_cons_self) n z) | (first | exact hn _ List.mem_cons_self | exact hn _ (List.mem_cons_of_mem _ List.mem_cons_self) | exact hn _ (List.mem_cons_of_mem _ (List.mem_cons_of_mem _ List.mem_cons_self)))))
    | (intro n hm; cases hm; done)
    | (intro n hm; rw [List.mem_singleton.mp hm]; (first | exact hn _ List.mem_cons_self | exact hn _ (List.mem_cons_of_mem _ List.mem_cons_self) | exact hn _ (List.mem_cons_of_mem _ (List.mem_cons_of_mem _ List.mem_cons_self))))
    | (intro n hm; rcases List.mem_append.mp hm with z | z <;> first | (first | exact hx _ List.mem_cons_self n z | exact hx _ (List.mem_cons_of_mem _ List.mem_cons_self) n z) | (rw [List.mem_singleton.mp z]; (first | exact hn _ List.mem_cons_self | exact hn _ (List.mem_cons_of_mem _ List.mem_cons_self) | exact hn _ (List.mem_cons_of_mem _ (List.mem_cons_of_mem _ List.mem_cons_self)))))
    | (intro n hm; rcases List.mem_append.mp (sortI_mem.mp hm) with z | z <;> first | (first | exact hx _ List.mem_cons_self n z | exact hx _ (List.mem_cons_of_mem _ List.mem_cons_self) n z) | (rw [List.mem_singleton.mp z]; (first | exact hn _ List.mem_cons_self | exact hn _ (List.mem_cons_of_mem _ List.mem_cons_self) | exact hn _ (List.mem_cons_of_mem _ (List.mem_cons_of_mem _ List.mem_cons_self)))))
    | (intro n hm; rcases List.mem_cons.mp hm with rfl | z <;> first | (first | exact hn _ List.mem_cons_self | exact hn _ (List.mem_cons_of_mem _ List.mem_cons_self) | exact hn _ (List.mem_cons_of_mem _ (List.mem_cons_of_mem _ List.mem_cons_self))) | (first | exact hx _ List.mem_cons_self n z | exact hx _ (List.mem_cons_of_mem _ List.mem_cons_self) n z))
theorem plains_int {ms : List Mean} : ∀ {as : List Arg} {vs : List Pv} {n : Int}, plains ms as = some vs → Pv.n n ∈ vs → Arg.i n ∈ as
  | [], vs, n, h, hn => by cases h; cases hn
  | a :: as, vs, n, h, hn => by
    unfold plains at h
    cases e1 : plain ms a with
    | none => rw [e1] at h; cases h
    | some v =>
      cases e2 : plains ms as with
      | none => rw [e1, e2] at h; cases h
      | some ws =>
        rw [e1, e2] at h; cases h
        rcases List.mem_cons.mp hn with rfl | hn
        · cases a with
          | i m => cases e1; exact List.mem_cons_self
          | of k => obtain ⟨l, e3, _⟩ := plain_of e1; cases e3
        · exact List.mem_cons_of_mem _ (plains_int e2 hn)
theorem plains_at {ms : List Mean} : ∀ {as : List Arg} {vs : List Pv} {l : List Int}, plains ms as = some vs → Pv.xs l ∈ vs → ∃ k, Arg.of k ∈ as ∧ ms[k]? = some (.ver l)
  | [], vs, l, h, hl => by cases h; cases hl
  | a :: as, vs, l, h, hl => by
    unfold plains at h
    cases e1 : plain ms a with
    | none => rw [e1] at h; cases h
    | some v =>
      cases e2 : plains ms as with
      | none => rw [e1, e2] at h; cases h
      | some ws =>
        rw [e1, e2] at h; cases h
        rcases List.mem_cons.mp hl with rfl | hl
        · cases a with
          | i n => cases e1
          | of k => obtain ⟨l', e3, hk⟩ := plain_of e1; cases e3; exact ⟨k, List.mem_cons_self, hk⟩
        · obtain ⟨k, h1, h2⟩ := plains_at e2 hl
          exact ⟨k, List.mem_cons_of_mem _ h1, h2⟩
theorem means_okV {kd : Kd} {ds : List Deed} (ok : worldOk kd ds) (ib : ∀ x ∈ ds, ∀ n, Arg.i n ∈ x.args → okI n) : ∀ (j : Nat) (m : Mean), (means ds [])[j]? = some m → okV m := by
  intro j
  induction j using Nat.strongRecOn with
  | _ j ih =>
    intro m hm
    have hl : (means ds []).length = ds.length := by rw [means_len]; simp
    have hj : j < ds.length := by rw [← hl]; exact (List.getElem?_eq_some_iff.mp hm).1
    obtain ⟨x, hx, _, ha⟩ := ok j hj
    have e := means_at ok hx
    rw [hm] at e; cases e
    unfold meant
    split
    · rename_i vs hp
      refine mean_okV (fun l hl' n hn => ?_) fun n hn => ib x (List.mem_of_getElem? hx) n (plains_int hp hn)
      obtain ⟨k, h1, h2⟩ := plains_at hp hl'
      exact ih k (args_lt ha _ h1 k rfl) _ h2 n hn
    · trivial
/-! ### how long the texts are -/
theorem okI.ls {n : Int} (h : okI n) : Ls 14 0 (.int n) := Ls.int (by unfold okI at h; have : (10 : Nat) ^ 13 = 10000000000000 := (by decide); omega)
theorem Ls.pos {k : Nat} (h : k ≤ 1000) : Ls 14 0 (.int (k : Int)) := Ls.int (by have : (10 : Nat) ^ 13 = 10000000000000 := (by decide); omega)
theorem Ls.nm (f : Fn) : Ls 20 0 (.str f.name) := by cases f <;> exact ⟨rfl, by decide +kernel, by decide +kernel⟩
theorem Ls.arg {a : Arg} (h1 : ∀ n, a = .i n → okI n) (h2 : ∀ k, a = .of k → k ≤ 1000) : Ls 100 1 a.d := by
  cases a with
  | i n => exact (h1 n rfl).ls.more (by decide) (by decide)
  | of k =>
    refine Ls.rowT (b := 20) (n := 2) (fun d hd => ?_) (Nat.le_refl 2) (by decide)
    rcases List.mem_cons.mp hd with rfl | hd
    · exact ⟨rfl, by decide +kernel, by decide +kernel⟩
    · rw [List.mem_singleton.mp hd]; exact (Ls.pos (h2 k rfl)).more (by decide) (by decide)
theorem Ls.deed {x : Deed} (hl : x.args.length ≤ 3) (h1 : ∀ n, Arg.i n ∈ x.args → okI n) (h2 : ∀ k, Arg.of k ∈ x.args → k ≤ 1000) : Ls 1000 3 x.d := by
  refine Ls.rowT (b := 400) (n := 2) (fun d hd => ?_) (by simp [Deed.d]) (by decide)
  rcases List.mem_cons.mp hd with rfl | hd
  · exact (Ls.nm x.f).more (by decide) (by decide)
  · rw [List.mem_singleton.mp hd]
    refine Ls.rowT (b := 100) (n := 3) (fun d hd => ?_) (by rw [List.length_map]; exact hl) (by decide)
    obtain ⟨a, ha, rfl⟩ := List.mem_map.mp hd
    exact Ls.arg (fun n e => h1 n (e ▸ ha)) fun k e => h2 k (e ▸ ha)
theorem Ls.world {kd : Kd} {ds : List Deed} (ok : worldOk kd ds) (few : ds.length ≤ 100) (ib : ∀ x ∈ ds, ∀ n, Arg.i n ∈ x.args → okI n) : Ls 200000 4 (worldD ds) := by
  refine Ls.rowT (b := 1000) (n := 100) (fun d hd => ?_) (by rw [List.length_map]; exact few) (by decide)
  obtain ⟨x, hx, rfl⟩ := List.mem_map.mp hd
  exact Ls.deed (ok.few hx) (ib x hx) fun k hk => by have := ok.lt hx _ hk k rfl; omega
theorem Ls.mean {m : Mean} (h : okV m) (hl : ∀ l, m = .ver l → l.length ≤ 100) : Ls 4000 2 m.d := by
  have wd : ∀ s : Str, s = "version" ∨ s = "answer" ∨ s = "stuck" ∨ s = "none" → Ls 20 0 (.str s) := by
    rintro s (rfl | rfl | rfl | rfl) <;> exact ⟨rfl, by decide +kernel, by decide +kernel⟩
  cases m with
  | ver l =>
    refine Ls.rowT (b := 1700) (n := 2) (fun d hd => ?_) (Nat.le_refl 2) (by decide)
    rcases List.mem_cons.mp hd with rfl | hd
    · exact (wd _ (.inl rfl)).more (by decide) (by decide)
    · rw [List.mem_singleton.mp hd]
      refine Ls.rowT (b := 14) (n := 100) (fun d hd => ?_) (by rw [intsD_len]; exact hl l rfl) (by decide)
      obtain ⟨n, hn, rfl⟩ := List.mem_map.mp hd
      exact (h n hn).ls
  | ans n =>
    refine (Ls.rowT (b := 20) (n := 2) (k := 0) (m := 100) (ds := [.str "answer", .int n]) (fun d hd => ?_) (Nat.le_refl 2) (by decide)).more (by decide) (by decide)
    rcases List.mem_cons.mp hd with rfl | hd
    · exact wd _ (.inr (.inl rfl))
    · rw [List.mem_singleton.mp hd]; exact (okI.ls h).more (by decide) (by decide)
  | stuck =>
    refine (Ls.rowT (b := 20) (n := 1) (k := 0) (m := 100) (fun d hd => ?_) (by decide) (by decide)).more (by decide) (by decide)
    rw [List.mem_singleton.mp hd]; exact wd _ (.inr (.inr (.inl rfl)))
  | none =>
    refine (Ls.rowT (b := 20) (n := 1) (k := 0) (m := 100) (fun d hd => ?_) (by decide) (by decide)).more (by decide) (by decide)
    rw [List.mem_singleton.mp hd]; exact wd _ (.inr (.inr (.inr rfl)))
theorem Ls.means {ms : List Mean} (h : ∀ m ∈ ms, okV m) (hs : small ms) (hl : ms.length ≤ 100) : Ls 500000 3 (.tuple (meansD ms)) := by
  refine Ls.rowT (b := 4000) (n := 100) (fun d hd => ?_) (by unfold meansD; rw [List.length_map]; exact hl) (by decide)
  obtain ⟨m, hm, rfl⟩ := List.mem_map.mp hd
  exact Ls.mean (h m hm) fun l e => hs l (e ▸ hm)
end K59
end

/-! K59p -/
section
set_option Elab.async false
set_option linter.all false
set_option maxRecDepth 100000
set_option maxHeartbeats 16000000
namespace K59
open PySem PySem.Spec PyProof.Rows L2 Dh Px
local macro_rules | `(tactic| walk_at "px") => `(tactic| repeat (first
  | refine yT ?_ | refine yF ?_ | refine ⟨_, rfl, ?_⟩ | refine ⟨_, _, rfl, rfl, ?_⟩ | refine ⟨_, _, rfl, ?_⟩
  | refine ⟨_, _, rfl, isi (.tuple _), ?_⟩ | refine ⟨_, _, rfl, isi (.str _), ?_⟩ | refine ⟨_, _, rfl, isi (.int _), ?_⟩ | refine ⟨_, _, rfl, isi (.bool _), ?_⟩
  | refine ⟨⟨_, rfl⟩, ?_⟩ | refine ⟨True.intro, ?_⟩ | refine ⟨rfl, ?_⟩ | refine ⟨(Nat.le_of_ble_eq_true rfl : _ ≤ sizeLine), ?_⟩))
/-! ### the law -/
section
variable {P : Program} {w : World} {K : PySem.W.Frag} {mg : Str → Option Value} {base : Heap}
structure Df (P : Program) (w : World) (K : PySem.W.Frag) (mg : Str → Option Value) (base : Heap) (x : Str) (k : Nat) (f : Addr) (fd : FuncData) (ps : List Str) (sp : Sp) : Prop where
  ok : FnOk P w K mg base CX0 k f fd ps sp
  m : mg x = some (.ref f)
  k : PySem.W.keepIn K (.ref f) = true
  b : Binds K fd ps []
def spLaw (K : PySem.W.Frag) : Sp := fun vs H Q _ => ∃ (a : Addr) (ns : List Int), vs = [.ref a] ∧ SqL K H a (ns.map V.int) ∧ ns.length ≤ 63 ∧ ∀ H', Q (.bl true) H'
abbrev sLaw := top 49
abbrev namesLaw : List Str := ["script", "deck", "turn", "kind", "world", "found", "m", "spots", "used_v", "k", "users", "due", "got", "rows", "deed", "f", "j"]
theorem scLaw : FnScope namesLaw ["script"] (defScope sLaw) := ⟨rfl, rfl, rfl, by decide +kernel, rfl, by decide +kernel, by decide +kernel⟩
/-- a state with the deck alone -/
theorem deck_rel {H : Hp} {dk lf : Addr} {x0 : Option V} {n : Nat} (D : Deck IK.ks H dk lf) : Rel ⟨K, fun b => b = dk ∨ b = lf, [dk, lf], H, IK.ks⟩ noFr (none :: some .deck :: List.replicate n none) (x0 :: some (.ref dk) :: List.replicate n none) H := by
  have one : ∀ k d x, ent noFr (none :: some .deck :: List.replicate n none) (x0 :: some (.ref dk) :: List.replicate n none) k = some (d, x) → d = .deck ∧ x = .ref dk := by
    intro k d x e
    cases k with
    | inl m => cases e
    | inr i =>
      obtain ⟨e1, e2⟩ := slotE_some e
      match i, e1, e2 with
      | 0, e1, _ => simp at e1
      | 1, e1, e2 => simp at e1 e2; exact ⟨e1.symm, e2.symm⟩
      | i + 2, e1, _ =>
        simp [List.getElem?_replicate] at e1
  obtain ⟨kvs, h1, h2, h3, h4⟩ := id D.d
  obtain ⟨ls, h5, h6⟩ := id D.l
  refine ⟨⟨fun k d x e => ?_, fun k j d d' a e => ?_, fun k d a e => ?_, Dh.Kp.refl _ _, fun b hb => ?_, fun b hb => ?_, fun _ z => z⟩, by simp, fun i d e => ?_, fun i j e => ?_⟩
  · obtain ⟨rfl, rfl⟩ := one k d x e
    exact .deck D.dck
  · cases (one _ _ _ e).1
  · cases (one _ _ _ e).1
  · rcases hb with rfl | rfl
    · exact ⟨_, h1⟩
    · exact ⟨_, h5⟩
  · rcases List.mem_cons.mp hb with rfl | hb
    · exact .inl rfl
    · exact .inr (List.mem_singleton.mp hb)
  · match i, e with
    | 0, e => simp at e
    | 1, e => exact ⟨.ref dk, rfl⟩
    | i + 2, e => simp [List.getElem?_replicate] at e
  · match i, e with
    | 0, e => simp at e
    | 1, e => simp at e
    | i + 2, e => simp [List.getElem?_replicate] at e
abbrev envL (c2 c3 c4 c5 c6 c7 c8 c9 c10 c11 c12 c13 : Option D) : Px.Env := [none, some .deck, c2, c3, c4, c5, c6, c7, c8, c9, c10, c11, c12, c13, none, none, none]
theorem okLaw {f f1 f2 f3 f4 f5 f6 f7 f8 f9 : Addr} {fd fd1 fd2 fd3 fd4 fd5 fd6 fd7 fd8 fd9 : FuncData} (F : Fun K "law" "law" sLaw f fd) (T : Blt mg) (D_law_deck : Df P w K mg base "_law_deck" 1 f1 fd1 ["script"] (spDeck K)) (D_law_draw : DfD P w K mg base "_law_draw" 1 f2 fd2 ["deck", "below"] fDraw) (D_law_pick : DfD P w K mg base "_law_pick" 2 f3 fd3 ["deck", "some"] fPick)
    (D_law_functions : DfD P w K mg base "_law_functions" 1 f4 fd4 ["kind"] fTable) (D_law_meanings : DfD P w K mg base "_law_meanings" 2 f5 fd5 ["world"] fLawMeanings) (D_law_grown : DfD P w K mg base "_law_grown" 3 f6 fd6 ["deck", "kind", "many", "most", "is_once"] fGrown)
    (Dis_kind_world : DfD P w K mg base "is_kind_world" 6 f7 fd7 ["kind", "thing"] fWorld) (Dbranched : DfD P w K mg base "branched" 7 f8 fd8 ["kind", "world", "k", "m"] fBranched) (branchedKw : BindsKw K fd8 ["kind", "world", "k", "m"] ["m", "k", "world", "kind"] [3, 2, 1, 0]) (Dmeanings : DfD P w K mg base "meanings" 7 f9 fd9 ["kind", "world"] fMeanings) :
    FnG P w K mg base CX0 13 f fd ["script"] (spLaw K) := by
  have sc := scLaw
  refine FnG.by0 F sc (fun vs H Q E h => by obtain ⟨_, _, rfl, _⟩ := h; rfl) (fun cdv A outer s H vs Q E noG hr h => ?_)
  obtain ⟨sc_, ns, rfl, hsq, hns, k⟩ := h
  have hu := hu_of hr
  have hu65 := room65 hr
  have hu70 := room70 hr
  have part : ∃ t w', XSs (cxOf CX0 P w K mg base namesLaw "law" (defScope sLaw) f cdv A outer s H E).nox ((defBody sLaw).drop 1) t w' ∧ ∀ Φ : PEnds, Φ.rt (.v (.bool true)) → w' (none :: some .deck :: List.replicate 15 none) Φ := by
    refine ⟨_, _, (xss_cons (xs_for PassesOwn.never rfl (xi_range1S (by rfl) T.range (xr_cons xe_int xr_nil)) (xg_name (i := 2) sc.nd rfl (Or.inl rfl))
        (xss_cons (xs_set (i := 3) sc.nd rfl (Or.inr rfl) (xe_call D_law_pick.ok noG (hr.mono (by decide)) (by rfl) D_law_pick.m D_law_pick.k D_law_pick.b (xp_cons (xe_var (pv 1)) (xp_cons (xe_lst (xv_cons xe_str (xv_cons xe_str (xv_cons xe_str (xv_cons xe_str (xv_cons xe_str xv_nil)))))) xp_nil)))) 
        (xss_cons (xs_set (i := 4) sc.nd rfl (Or.inr rfl) (xe_call D_law_grown.ok noG (hr.mono (by decide)) (by rfl) D_law_grown.m D_law_grown.k D_law_grown.b (xp_cons (xe_var (pv 1)) (xp_cons (xe_var (pv 3)) (xp_cons (xe_op op_add PAdd xe_int (xe_call D_law_draw.ok noG (hr.mono (by decide)) (by rfl) D_law_draw.m D_law_draw.k D_law_draw.b (xp_cons (xe_var (pv 1)) (xp_cons xe_int xp_nil)))) (xp_cons xe_int (xp_cons xe_bl xp_nil))))))) 
        (xss_cons (xs_parL (is := [5, 6]) rfl (by decide) (xo_cons (xe_call D_law_meanings.ok noG (hr.mono (by decide)) (by rfl) D_law_meanings.m D_law_meanings.k D_law_meanings.b (xp_cons (xe_var (pv 4)) xp_nil)) (xo_cons (xe_call D_law_draw.ok noG (hr.mono (by decide)) (by rfl) D_law_draw.m D_law_draw.k D_law_draw.b (xp_cons (xe_var (pv 1)) (xp_cons xe_int xp_nil))) xo_nil)) (pgs_cons (pg_name (i := 5) sc.nd rfl (Or.inr rfl)) (pgs_cons (pg_name (i := 6) sc.nd rfl (Or.inl rfl)) pgs_nil)) rfl (by decide)) 
        (xss_cons (xs_setLc (i := 7) (own := [("k", 9), ("deed", 14)]) (g := gTup K 2 (gCons (gName 9) (gCons (gName 14) gNil))) (tt := (tTest (tOp _ (tSl _ (tDGet (tCall (spD K IK.ks _) [] (fun _ _ _ => False) (tCons (tVar 3) tNil)) (tOp (rIx K) (tVar 14) (tC _))) (tPart (tUn _ (tC _))) tNoPart) (tC _)))) (te := (tVar 9)) rfl sc.nd rfl rfl (sw_true rfl rfl rfl (by decide +kernel)) (xc_enumT (by rfl) T.enumerate (xe_var (pv 4))) (blkOk_by ( N := ["script", "deck", "turn", "kind", "world", "found", "m", "spots", "used_v", "k", "users", "due", "got", "rows", "deed", "f", "j"]) (sc := defScope (top 49)) (by decide +kernel)) (fun _ _ _ _ _ => (xg_tup (by rfl) (xgs_cons (xg_name (i := 9) sc.nd rfl (Or.inl rfl)) (xgs_cons (xg_name (i := 14) sc.nd rfl (Or.inl rfl)) xgs_nil)))) (fun _ _ _ _ _ => (xts_one (xt_cmp op_eq PEq (xe_slice sl_str PSlS (xe_dget hu (xe_call D_law_functions.ok noG (hr.mono (by decide)) (by rfl) D_law_functions.m D_law_functions.k D_law_functions.b (xp_cons (xe_var (pv 3)) xp_nil)) (xe_ix (xe_var (pv 14)) xe_int (fun _ _ => rfl))) (xo_some (xe_neg xe_int)) xo_none) xe_str (nomark _)))) (fun _ _ _ _ _ => (xe_var (pv 9)))) 
        (xss_cons (xs_setLc (i := 8) (own := [("k", 9)]) (g := gName 9) (tt := (tTest (tOp (rNeD K) (tLc (iTup K (tVar 4)) (gTup K 2 (gCons (gName 15) (gCons (gName 13) gNil))) (tTest (tOp (rInT K false) (tTup (tCons (tC _) (tCons (tVar 9) tNil))) (tVar 13))) (tC _) (List.map (fun x => x.2) [("f", 15), ("rows", 13)])) (tLst tNil)))) (te := (tVar 9)) rfl sc.nd rfl rfl (sw_true rfl rfl rfl (by decide +kernel)) (xc_list (xe_var (pv 7))) (blkOk_by ( N := ["script", "deck", "turn", "kind", "world", "found", "m", "spots", "used_v", "k", "users", "due", "got", "rows", "deed", "f", "j"]) (sc := defScope (top 49)) (by decide +kernel)) (fun _ _ _ _ _ => (xg_name (i := 9) sc.nd rfl (Or.inr rfl))) (fun _ _ _ _ _ => (xts_one (xt_cmp (op_neD hr.units) PNeD (xe_lc (own := [("f", 15), ("rows", 13)]) (g := gTup K 2 (gCons (gName 15) (gCons (gName 13) gNil))) (tt := (tTest (tOp (rInT K false) (tTup (tCons (tC _) (tCons (tVar 9) tNil))) (tVar 13)))) (te := (tC _)) rfl sc.nd (xc_tup (xe_var (pv 4))) (blkOk_by ( N := ["script", "deck", "turn", "kind", "world", "found", "m", "spots", "used_v", "k", "users", "due", "got", "rows", "deed", "f", "j"]) (sc := _) (by rfl)) (fun _ _ _ _ _ => (xg_tup (by rfl) (xgs_cons (xg_name (i := 15) sc.nd rfl (Or.inl rfl)) (xgs_cons (xg_name (i := 13) sc.nd rfl (Or.inl rfl)) xgs_nil)))) (fun _ _ _ _ _ => (xts_one (xt_cmp (op_inT hu65) PInT (xe_tup (xv_cons xe_str (xv_cons (xe_var (pv 9)) xv_nil))) (xe_var (pv 13)) (by rfl)))) (fun _ _ _ _ _ => xe_int)) (xe_lst xv_nil) (nomark _)))) (fun _ _ _ _ _ => (xe_var (pv 9)))) 
        (xss_cons (xs_set (i := 9) sc.nd rfl (Or.inr rfl) (xe_if (xt_w (xw_and (xt_cmp (op_neD hr.units) PNeD (xe_var (pv 8)) (xe_lst xv_nil) (nomark _)) (xw_and1 (xt_cmp op_gt PGt (xe_call D_law_draw.ok noG (hr.mono (by decide)) (by rfl) D_law_draw.m D_law_draw.k D_law_draw.b (xp_cons (xe_var (pv 1)) (xp_cons xe_int xp_nil))) xe_int (nomark _))))) (xe_call D_law_pick.ok noG (hr.mono (by decide)) (by rfl) D_law_pick.m D_law_pick.k D_law_pick.b (xp_cons (xe_var (pv 1)) (xp_cons (xe_var (pv 8)) xp_nil))) (xe_call D_law_pick.ok noG (hr.mono (by decide)) (by rfl) D_law_pick.m D_law_pick.k D_law_pick.b (xp_cons (xe_var (pv 1)) (xp_cons (xe_var (pv 7)) xp_nil))))) 
        (xss_cons (xs_setLc (i := 10) (own := [("j", 16), ("deed", 14)]) (g := gTup K 2 (gCons (gName 16) (gCons (gName 14) gNil))) (tt := (tTest (tOp (rInT K false) (tTup (tCons (tC _) (tCons (tVar 9) tNil))) (tOp (rIx K) (tVar 14) (tC _))))) (te := (tVar 16)) rfl sc.nd rfl rfl (sw_true rfl rfl rfl (by decide +kernel)) (xc_enumT (by rfl) T.enumerate (xe_var (pv 4))) (blkOk_by ( N := ["script", "deck", "turn", "kind", "world", "found", "m", "spots", "used_v", "k", "users", "due", "got", "rows", "deed", "f", "j"]) (sc := defScope (top 49)) (by decide +kernel)) (fun _ _ _ _ _ => (xg_tup (by rfl) (xgs_cons (xg_name (i := 16) sc.nd rfl (Or.inl rfl)) (xgs_cons (xg_name (i := 14) sc.nd rfl (Or.inl rfl)) xgs_nil)))) (fun _ _ _ _ _ => (xts_one (xt_cmp (op_inT hu65) PInT (xe_tup (xv_cons xe_str (xv_cons (xe_var (pv 9)) xv_nil))) (xe_ix (xe_var (pv 14)) xe_int (fun _ _ => rfl)) (by rfl)))) (fun _ _ _ _ _ => (xe_var (pv 16)))) 
        (xss_cons (xs_set (i := 6) sc.nd rfl (Or.inl rfl) (xe_if (xt_cmp op_le PLe (xe_op op_add PAdd (xe_CB (xr_cons (xe_var (pv 4)) xr_nil) (fun _ p => pe_callB call_len (by rfl) T.len (by decide +kernel) p) PLen) (xe_op op_mul PMul (xe_var (pv 6)) (xe_CB (xr_cons (xe_var (pv 10)) xr_nil) (fun _ p => pe_callB call_len (by rfl) T.len (by decide +kernel) p) PLen))) xe_int (nomark _)) (xe_var (pv 6)) xe_int)) 
        (xss_cons (xs_set (i := 11) sc.nd rfl (Or.inl rfl) (xe_op op_catA PCatT (xe_var (pv 4)) (xe_op op_mulT PMulT (xe_CB (xr_cons (xe_lc (own := [("j", 16)]) (g := gName 16) (tt := tYes) (te := (tOp (rIx K) (tVar 4) (tVar 16))) rfl sc.nd (xc_list (xe_var (pv 10))) (blkOk_by ( N := ["script", "deck", "turn", "kind", "world", "found", "m", "spots", "used_v", "k", "users", "due", "got", "rows", "deed", "f", "j"]) (sc := defScope (top 49)) (by decide +kernel)) (fun _ _ _ _ _ => (xg_name (i := 16) sc.nd rfl (Or.inl rfl))) (fun _ _ _ _ _ => xts_nil) (fun _ _ _ _ _ => (xe_ix (xe_var (pv 4)) (xe_var (pv 16)) (fun _ _ => rfl)))) xr_nil) (fun _ p => pe_callTy call_tuple_of (by rfl) T.tuple (by decide +kernel) p) PTupOf) (xe_var (pv 6))))) 
        (xss_cons (xs_set (i := 12) sc.nd rfl (Or.inl rfl) (xe_if (xt_cmp op_lt PLt (xe_var (pv 2)) xe_int (nomark _)) (xe_call Dbranched.ok noG (hr.mono (by decide)) (by rfl) Dbranched.m Dbranched.k Dbranched.b (xp_cons (xe_var (pv 3)) (xp_cons (xe_var (pv 4)) (xp_cons (xe_var (pv 9)) (xp_cons (xe_var (pv 6)) xp_nil))))) (xe_callKw Dbranched.ok noG (hr.mono (by decide)) (by rfl) Dbranched.m Dbranched.k branchedKw (xk_cons (xe_var (pv 6)) (xk_cons (xe_var (pv 9)) (xk_cons (xe_var (pv 4)) (xk_cons (xe_var (pv 3)) xk_nil))))))) 
        (xss_cons (xs_if (xt_w (xw_or (xt_cmp op_ne PNe (xe_CB (xr_cons (xe_var (pv 12)) xr_nil) (fun _ p => pe_callB (call_repr_At noG hu70) (by rfl) T.repr (by decide +kernel) p) PRepr) (xe_CB (xr_cons (xe_var (pv 11)) xr_nil) (fun _ p => pe_callB (call_repr_At noG hu70) (by rfl) T.repr (by decide +kernel) p) PRepr) (nomark _)) (xw_or (xt_cmp op_notBl PNotB (xe_call Dis_kind_world.ok noG (hr.mono (by decide)) (by rfl) Dis_kind_world.m Dis_kind_world.k Dis_kind_world.b (xp_cons (xe_var (pv 3)) (xp_cons (xe_var (pv 12)) xp_nil))) xe_bl (nomark _)) (xw_or1 (xt_cmp op_ne PNe (xe_CB (xr_cons (xe_call Dbranched.ok noG (hr.mono (by decide)) (by rfl) Dbranched.m Dbranched.k Dbranched.b (xp_cons (xe_var (pv 3)) (xp_cons (xe_var (pv 4)) (xp_cons (xe_var (pv 9)) (xp_cons xe_int xp_nil))))) xr_nil) (fun _ p => pe_callB (call_repr_At noG hu70) (by rfl) T.repr (by decide +kernel) p) PRepr) (xe_CB (xr_cons (xe_var (pv 4)) xr_nil) (fun _ p => pe_callB (call_repr_At noG hu70) (by rfl) T.repr (by decide +kernel) p) PRepr) (nomark _)))))) (xss_one (xs_ret xe_bl)) xss_nil) 
        (xss_cons (xs_set (i := 13) sc.nd rfl (Or.inl rfl) (xe_op op_cat PCat (xe_var (pv 5)) (xe_op op_rep PRep (xe_lc (own := [("j", 16)]) (g := gName 16) (tt := tYes) (te := (tOp (rIx K) (tVar 5) (tVar 16))) rfl sc.nd (xc_list (xe_var (pv 10))) (blkOk_by ( N := ["script", "deck", "turn", "kind", "world", "found", "m", "spots", "used_v", "k", "users", "due", "got", "rows", "deed", "f", "j"]) (sc := defScope (top 49)) (by decide +kernel)) (fun _ _ _ _ _ => (xg_name (i := 16) sc.nd rfl (Or.inl rfl))) (fun _ _ _ _ _ => xts_nil) (fun _ _ _ _ _ => (xe_ix (xe_var (pv 5)) (xe_var (pv 16)) (fun _ _ => rfl)))) (xe_var (pv 6))))) 
        (xss_one (xs_if (xt_w (xw_or (xt_cmp (op_neD hr.units) PNeD (xe_var (pv 13)) (xe_call D_law_meanings.ok noG (hr.mono (by decide)) (by rfl) D_law_meanings.m D_law_meanings.k D_law_meanings.b (xp_cons (xe_var (pv 11)) xp_nil)) (nomark _)) (xw_or1 (xt_cmp op_ne PNe (xe_CB (xr_cons (xe_call Dmeanings.ok noG (hr.mono (by decide)) (by rfl) Dmeanings.m Dmeanings.k Dmeanings.b (xp_cons (xe_var (pv 3)) (xp_cons (xe_var (pv 12)) xp_nil))) xr_nil) (fun _ p => pe_callB (call_repr_At noG hu70) (by rfl) T.repr (by decide +kernel) p) PRepr) (xe_CB (xr_cons (xe_CB (xr_cons (xe_var (pv 13)) xr_nil) (fun _ p => pe_callTy call_tuple_of (by rfl) T.tuple (by decide +kernel) p) PTupOf) xr_nil) (fun _ p => pe_callB (call_repr_At noG hu70) (by rfl) T.repr (by decide +kernel) p) PRepr) (nomark _))))) (xss_one (xs_ret xe_bl)) xss_nil))))))))))))))) 
      (xss_one (xs_ret xe_bl))), fun Φ hΦ => ?_⟩
    walk_at "px"
    refine ⟨by decide, by decide, ?_⟩
    refine loop_inv (fun r Γ => (∀ d ∈ r, ∃ i : Int, d = .int i) ∧ ∃ c2 c3 c4 c5 c6 c7 c8 c9 c10 c11 c12 c13 : Option D, Γ = envL c2 c3 c4 c5 c6 c7 c8 c9 c10 c11 c12 c13) ?_ ?_ _ _ ⟨fun d hd => (by obtain ⟨p, _, rfl⟩ := rng_mem hd; exact ⟨_, rfl⟩), none, none, none, none, none, none, none, none, none, none, none, none, rfl⟩
    · rintro d r Γ N ⟨hint, c2, c3, c4, c5, c6, c7, c8, c9, c10, c11, c12, c13, rfl⟩ hN
      walk_at "px"
      refine ⟨_, _, rfl, .inr (.inl rfl), by simp, by simp, fun d1 hd1 => ?_⟩
      have hd' : ∃ kd : Kd, d1 = .str kd.name := by
        simp only [List.mem_cons, List.not_mem_nil, or_false] at hd1
        rcases hd1 with rfl | rfl | rfl | rfl | rfl
        · exact ⟨.queue, rfl⟩
        · exact ⟨.deque, rfl⟩
        · exact ⟨.list, rfl⟩
        · exact ⟨.joined, rfl⟩
        · exact ⟨.heap, rfl⟩
      obtain ⟨kd, rfl⟩ := hd'
      clear hd1
      walk_at "px"
      refine ⟨by decide, by decide, fun n n0 n1 => ?_⟩
      walk_at "px"
      refine ⟨kd, _, 9, false, rfl, by omega, by omega, by decide, fun ds vs G len => ?_⟩
      have dl : ds.length ≤ 12 := by omega
      have d0 : 0 < ds.length := (List.getElem?_eq_some_iff.mp G.hd).1
      have gok := G.ok
      have small1 : small (means ds []) := fun l hl => Nat.le_trans (G.sm l hl) (by decide)
      have mapl : (ds.map Deed.d).length = ds.length := List.length_map _
      have msl : (means ds []).length = ds.length := by rw [means_len]; simp
      obtain ⟨ti, rfl⟩ := hint d List.mem_cons_self
      refine ⟨_, _, rfl, ?_⟩
      dsimp only
      refine seq_cut (fun Γ1 => ∃ m : Nat, m ≤ 3 ∧ Γ1 = envL (some (.v (.int ti))) (some (.v (.str kd.name))) (some (.v (worldD ds))) (some (.own (.list (meansD (means ds []))))) (some (.v (.int (m : Int)))) c7 c8 c9 c10 c11 c12 c13) (fun N2 hN2 => ?_) ?_
      · walk_at "px"
        refine ⟨kd, ds, rfl, gok, by omega, small1, ?_⟩
        walk_at "px"
        refine ⟨by decide, by decide, fun i i0 i1 => ?_⟩
        obtain ⟨m, rfl⟩ : ∃ m : Nat, i = (m : Int) := ⟨i.toNat, by omega⟩
        walk_at "px"
        exact hN2 _ ⟨m, by omega, rfl⟩
      rintro _ ⟨m, hm, rfl⟩
      refine seq_cut (fun Γ1 => ∃ c9, Γ1 = envL (some (.v (.int ti))) (some (.v (.str kd.name))) (some (.v (worldD ds))) (some (.own (.list (meansD (means ds []))))) (some (.v (.int (m : Int)))) (some (.own (.list (posD (posFrom isVerF 0 ds))))) c8 c9 c10 c11 c12 c13) (fun N2 hN2 => ?_) ?_
      · walk_at "px"
        refine comp_fmW spotP fstD rfl rfl rfl (by rw [enum_len, mapl]; exact sz (by omega)) (fun e he N1 N0 h1 h0 => ?_) (fun Γ' hΓ => ?_)
        · obtain ⟨j, x, hx, rfl⟩ := enum_mem he
          obtain ⟨q, _, _, hxf, _⟩ := gok.mem hx
          walk_at "px"
          refine ⟨tableD kd, .inr x.f.name, .str x.f.sgn, rfl, rfl, table_at hxf, ?_⟩
          walk_at "px"
          refine ⟨sgn_few x.f, ?_⟩
          walk_at "px"
          rw [sgn_ret]
          have hp := spotP_d (j : Int) x
          cases hans : x.f.ans with
          | true =>
            refine andF (by decide +kernel) ?_
            exact h0 (by rw [hp]; unfold isVerF; rw [hans]; rfl) _ rfl
          | false =>
            refine andT (by decide +kernel) ?_
            walk_at "px"
            exact h1 (by rw [hp]; unfold isVerF; rw [hans]; rfl) _ rfl
        · rw [enum_pos isVerF spotP spotP_d]
          rcases hΓ with rfl | rfl
          all_goals
            walk_at "px"
            exact hN2 _ ⟨_, rfl⟩
      rintro _ ⟨c9', rfl⟩
      clear c9
      have sp0 : 0 ∈ posFrom isVerF 0 ds := pos_head G.hd
      have spl := pos_len isVerF 0 ds
      refine seq_cut (fun Γ1 => ∃ (us : List Nat) (c9 c13 : Option D), (∀ j ∈ us, j ∈ posFrom isVerF 0 ds) ∧ us.length ≤ 12 ∧ Γ1 = envL (some (.v (.int ti))) (some (.v (.str kd.name))) (some (.v (worldD ds))) (some (.own (.list (meansD (means ds []))))) (some (.v (.int (m : Int)))) (some (.own (.list (posD (posFrom isVerF 0 ds))))) (some (.own (.list (posD us)))) c9 c10 c11 c12 c13) (fun N2 hN2 => ?_) ?_
      · walk_at "px"
        refine comp_fmE (fun Γ' => ∃ c9 c13, Γ' = envL (some (.v (.int ti))) (some (.v (.str kd.name))) (some (.v (worldD ds))) (some (.own (.list (meansD (means ds []))))) (some (.v (.int (m : Int)))) (some (.own (.list (posD (posFrom isVerF 0 ds))))) c8 c9 c10 c11 c12 c13) (anyUse ds) id ⟨_, _, rfl⟩ (fun Γ' h => by obtain ⟨_, _, rfl⟩ := h; rfl) (by rw [posD_len]; exact sz (by omega)) (fun e he Γ' hΓ N1 N0 h1 h0 => ?_) (fun Γ' hΓ => ?_)
        · obtain ⟨c9, c13, rfl⟩ := hΓ
          obtain ⟨j, hj, rfl⟩ := posD_mem he
          walk_at "px"
          refine comp_fmW (usesD j) (fun _ => .int 1) rfl rfl rfl (by rw [mapl]; exact sz (by omega)) (fun e2 he2 M1 M0 g1 g0 => ?_) (fun Γ2 hΓ2 => ?_)
          · obtain ⟨x, hx, rfl⟩ := List.mem_map.mp he2
            walk_at "px"
            refine ⟨of_shaped j, args_shaped x, ?_⟩
            rw [any_of]
            walk_at "px"
            refine ⟨fun u => ?_, fun u => ?_⟩
            · walk_at "px"
              exact g1 (by rw [usesD_d]; exact u) _ rfl
            · exact g0 (by rw [usesD_d]; exact u) _ rfl
          · have shp : SeqAt.shaped (.list (((ds.map Deed.d).filter (usesD j)).map fun _ => PyData.int 1)) = true :=
              (Flat.lst (n := 0) fun d hd => by obtain ⟨_, _, rfl⟩ := List.mem_map.mp hd; exact Flat.int 1).ok (by decide)
            rcases hΓ2 with rfl | rfl
            all_goals
              walk_at "px"
              refine ⟨shp, nil_shapedL, ?_⟩
              rw [eqv_nilL, some_use, Bool.not_not]
              walk_at "px"
              refine ⟨fun u => ?_, fun u => ?_⟩
              · walk_at "px"
                exact h1 (by rw [anyUse_d]; exact u) _ ⟨_, _, rfl⟩
              · exact h0 (by rw [anyUse_d]; exact u) _ ⟨_, _, rfl⟩
        · rw [List.map_id, filter_pos]
          have ul : ((posFrom isVerF 0 ds).filter fun i : Nat => anyUse ds (.int (i : Int))).length ≤ 12 := Nat.le_trans (List.length_filter_le _ _) (by omega)
          obtain ⟨c9, c13, rfl⟩ := hΓ
          all_goals
            walk_at "px"
            exact hN2 _ ⟨_, _, _, fun j hj => (List.mem_filter.mp hj).1, ul, rfl⟩
      rintro _ ⟨us, c9, c13', hus, usl, rfl⟩
      clear c13
      have spD : ∀ d ∈ posD (posFrom isVerF 0 ds), ∃ j ∈ posFrom isVerF 0 ds, d = .int (j : Int) := fun d hd => posD_mem hd
      have sp1 : 1 ≤ (posFrom isVerF 0 ds).length := List.length_pos_of_mem sp0
      refine seq_cut (fun Γ1 => ∃ j ∈ posFrom isVerF 0 ds, Γ1 = envL (some (.v (.int ti))) (some (.v (.str kd.name))) (some (.v (worldD ds))) (some (.own (.list (meansD (means ds []))))) (some (.v (.int (m : Int)))) (some (.own (.list (posD (posFrom isVerF 0 ds))))) (some (.own (.list (posD us)))) (some (.v (.int (j : Int)))) c10 c11 c12 c13') (fun N2 hN2 => ?_) ?_
      · walk_at "px"
        refine ⟨pos_shaped us, nil_shapedL, ?_⟩
        rw [eqv_nilL]
        by_cases hu0 : us = []
        · subst hu0
          walk_at "px"
          refine ⟨_, posD (posFrom isVerF 0 ds), rfl, .inr (.inr rfl), by rw [posD_len]; exact sp1, by rw [posD_len]; omega, fun d hd => ?_⟩
          obtain ⟨j, hj, rfl⟩ := spD d hd
          walk_at "px"
          exact hN2 _ ⟨j, hj, rfl⟩
        · have hne : (posD us).isEmpty = false := by cases us with | nil => exact absurd rfl hu0 | cons _ _ => rfl
          have us1 : 1 ≤ us.length := List.length_pos_iff.mpr hu0
          rw [hne]
          walk_at "px"
          refine ⟨by decide, by decide, fun i i0 i1 => ?_⟩
          walk_at "px"
          refine ⟨fun _ => ?_, fun _ => ?_⟩
          · walk_at "px"
            refine ⟨_, posD us, rfl, .inr (.inr rfl), by rw [posD_len]; exact us1, by rw [posD_len]; omega, fun d hd => ?_⟩
            obtain ⟨j, hj, rfl⟩ := posD_mem hd
            walk_at "px"
            exact hN2 _ ⟨j, hus j hj, rfl⟩
          · walk_at "px"
            refine ⟨_, posD (posFrom isVerF 0 ds), rfl, .inr (.inr rfl), by rw [posD_len]; exact sp1, by rw [posD_len]; omega, fun d hd => ?_⟩
            obtain ⟨j, hj, rfl⟩ := spD d hd
            walk_at "px"
            exact hN2 _ ⟨j, hj, rfl⟩
      rintro _ ⟨j, hj, rfl⟩
      obtain ⟨_, xj, hxj, hxv⟩ := pos_mem isVerF 0 ds j hj
      rw [Nat.sub_zero] at hxj
      have hja : ∃ x, ds[j]? = some x ∧ x.f.ans = false := ⟨xj, hxj, by unfold isVerF at hxv; simpa using hxv⟩
      have ull := pos_len (uses j) 0 ds
      rw [← users_pos] at ull
      refine seq_cut (fun Γ1 => Γ1 = envL (some (.v (.int ti))) (some (.v (.str kd.name))) (some (.v (worldD ds))) (some (.own (.list (meansD (means ds []))))) (some (.v (.int (m : Int)))) (some (.own (.list (posD (posFrom isVerF 0 ds))))) (some (.own (.list (posD us)))) (some (.v (.int (j : Int)))) (some (.own (.list (posD (usersFrom j 0 ds))))) c11 c12 c13') (fun N2 hN2 => ?_) ?_
      · walk_at "px"
        refine comp_fmW (usesP j) fstD rfl rfl rfl (by rw [enum_len, mapl]; exact sz (by omega)) (fun e he N1 N0 h1 h0 => ?_) (fun Γ' hΓ => ?_)
        · obtain ⟨q, x, hx, rfl⟩ := enum_mem he
          walk_at "px"
          refine ⟨of_shaped j, args_shaped x, ?_⟩
          rw [any_of]
          walk_at "px"
          refine ⟨fun u => ?_, fun u => ?_⟩
          · walk_at "px"
            exact h1 (by rw [usesP_d]; exact u) _ rfl
          · exact h0 (by rw [usesP_d]; exact u) _ rfl
        · rw [enum_pos (uses j) (usesP j) (usesP_d j), ← users_pos]
          rcases hΓ with rfl | rfl
          all_goals
            walk_at "px"
            exact hN2 _ rfl
      rintro _ rfl
      refine seq_cut (fun Γ1 => ∃ m : Nat, m ≤ 3 ∧ Γ1 = envL (some (.v (.int ti))) (some (.v (.str kd.name))) (some (.v (worldD ds))) (some (.own (.list (meansD (means ds []))))) (some (.v (.int (m : Int)))) (some (.own (.list (posD (posFrom isVerF 0 ds))))) (some (.own (.list (posD us)))) (some (.v (.int (j : Int)))) (some (.own (.list (posD (usersFrom j 0 ds))))) c11 c12 c13') (fun N2 hN2 => ?_) ?_
      · walk_at "px"
        rw [mapl, posD_len]
        refine ⟨.inl ⟨by omega, by omega⟩, ?_⟩
        walk_at "px"
        refine ⟨fun _ => ?_, fun _ => ?_⟩
        · walk_at "px"
          exact hN2 _ ⟨m, hm, rfl⟩
        · walk_at "px"
          exact hN2 _ ⟨1, by decide, rfl⟩
      rintro _ ⟨m', hm', rfl⟩
      clear hm m
      have fl : (ds.filter (uses j)).length ≤ ds.length := List.length_filter_le _ _
      have cl : (copies m' (ds.filter (uses j))).length ≤ 36 := by
        rw [copies_len]
        exact Nat.le_trans (Nat.mul_le_mul hm' (Nat.le_trans fl dl)) (by decide)
      have bl : (branch ds j m').length ≤ 48 := by unfold branch; rw [List.length_append]; omega
      have bok := branch_ok gok j m'
      have bms := means_branch gok j m'
      have bsub : ∀ x ∈ branch ds j m', x ∈ ds := fun x hx => (List.mem_append.mp hx).elim id fun h => (List.mem_filter.mp (copies_mem h)).1
      have bib : ∀ x ∈ branch ds j m', ∀ n, Arg.i n ∈ x.args → okI n := fun x hx => G.ib x (bsub x hx)
      have bsm : small (means (branch ds j m') []) := by
        rw [bms]
        intro l hl
        rcases List.mem_append.mp hl with h | h
        · exact small1 l h
        · obtain ⟨x, hx, e⟩ := List.mem_map.mp (copies_mem h)
          obtain ⟨q, hq⟩ := List.getElem?_of_mem (List.mem_filter.mp hx).1
          exact small1 l (by rw [← e]; exact List.mem_of_getElem? (means_at gok hq))
      have bokV : ∀ m ∈ means (branch ds j m') [], okV m := fun m hm => by
        obtain ⟨q, hq⟩ := List.getElem?_of_mem hm
        exact means_okV bok bib q m hq
      have bml : (means (branch ds j m') []).length ≤ 48 := by rw [means_len]; simpa using bl
      have LW := (Ls.world bok (by omega) bib).ok (by decide) (by decide)
      have LD := (Ls.world gok (by omega) G.ib).ok (by decide) (by decide)
      have LM := (Ls.means bokV bsm (by omega)).ok (by decide) (by decide)
      have user : ∀ {e : PyData}, e ∈ posD (usersFrom j 0 ds) → ∃ q x, e = .int ((q : Nat) : Int) ∧ ds[q]? = some x := fun {e} he => by
        obtain ⟨q, hq, rfl⟩ := posD_mem he
        obtain ⟨_, _, x, hx, _⟩ := users_lt j 0 ds q hq
        exact ⟨q, x, rfl, by simpa using hx⟩
      refine seq_cut (fun Γ1 => Γ1 = envL (some (.v (.int ti))) (some (.v (.str kd.name))) (some (.v (worldD ds))) (some (.own (.list (meansD (means ds []))))) (some (.v (.int (m' : Int)))) (some (.own (.list (posD (posFrom isVerF 0 ds))))) (some (.own (.list (posD us)))) (some (.v (.int (j : Int)))) (some (.own (.list (posD (usersFrom j 0 ds))))) (some (.v (worldD (branch ds j m')))) c12 c13') (fun N2 hN2 => ?_) ?_
      · walk_at "px"
        refine Px.comp_map (spotD ds) rfl rfl (by rw [posD_len]; exact sz (by omega)) (fun e he N3 hN3 => ?_) ?_
        · obtain ⟨q, x, rfl, hx⟩ := user he
          have e1 : spotD ds (.int ((q : Nat) : Int)) = x.d := by
            show (ds.getD ((q : Nat) : Int).toNat d00).d = x.d
            rw [Int.toNat_natCast, getD_at hx]
          rw [e1] at hN3
          walk_at "px"
          refine ⟨_, world_at hx, ?_⟩
          walk_at "px"
          exact hN3 _ rfl
        rw [spots_d]
        walk_at "px"
        refine ⟨by omega, by omega, by rw [List.length_map]; omega, ?_⟩
        have cl2 : (copies m' ((ds.filter (uses j)).map Deed.d)).length ≤ 36 := by rw [← copies_map, List.length_map]; exact cl
        walk_at "px"
        refine ⟨?_, ?_⟩
        · show (ds.map Deed.d).length + (copies (m' : Int).toNat ((ds.filter (uses j)).map Deed.d)).length ≤ sizeLine
          rw [Int.toNat_natCast, mapl]
          exact sz (by omega)
        · walk_at "px"
          have e1 : PyData.tuple (ds.map Deed.d ++ (List.replicate (m' : Int).toNat ((ds.filter (uses j)).map Deed.d)).flatten) = worldD (branch ds j m') := by
            show PyData.tuple (ds.map Deed.d ++ copies (m' : Int).toNat ((ds.filter (uses j)).map Deed.d)) = PyData.tuple ((ds ++ copies m' (ds.filter (uses j))).map Deed.d)
            rw [Int.toNat_natCast, ← copies_map, ← List.map_append]
          rw [e1]
          exact hN2 _ rfl
      rintro _ rfl
      refine seq_cut (fun Γ1 => Γ1 = envL (some (.v (.int ti))) (some (.v (.str kd.name))) (some (.v (worldD ds))) (some (.own (.list (meansD (means ds []))))) (some (.v (.int (m' : Int)))) (some (.own (.list (posD (posFrom isVerF 0 ds))))) (some (.own (.list (posD us)))) (some (.v (.int (j : Int)))) (some (.own (.list (posD (usersFrom j 0 ds))))) (some (.v (worldD (branch ds j m')))) (some (.v (worldD (branch ds j m')))) c13') (fun N2 hN2 => ?_) ?_
      · walk_at "px"
        refine ⟨fun _ => ?_, fun _ => ?_⟩
        · walk_at "px"
          refine ⟨kd, ds, j, m', rfl, gok, by omega, hja, hm', ?_⟩
          walk_at "px"
          exact hN2 _ rfl
        · walk_at "px"
          refine ⟨kd, ds, j, m', rfl, gok, by omega, hja, hm', ?_⟩
          walk_at "px"
          exact hN2 _ rfl
      rintro _ rfl
      refine seq_cut (fun Γ1 => Γ1 = envL (some (.v (.int ti))) (some (.v (.str kd.name))) (some (.v (worldD ds))) (some (.own (.list (meansD (means ds []))))) (some (.v (.int (m' : Int)))) (some (.own (.list (posD (posFrom isVerF 0 ds))))) (some (.own (.list (posD us)))) (some (.v (.int (j : Int)))) (some (.own (.list (posD (usersFrom j 0 ds))))) (some (.v (worldD (branch ds j m')))) (some (.v (worldD (branch ds j m')))) c13') (fun N2 hN2 => ?_) ?_
      · walk_at "px"
        refine ⟨LW.1, LW.2.1, LW.2.2, ?_⟩
        walk_at "px"
        refine ⟨LW.1, LW.2.1, LW.2.2, ?_⟩
        walk_at "px"
        refine andF (by simp) ?_
        walk_at "px"
        refine ⟨bok, by omega, ?_⟩
        walk_at "px"
        refine ⟨kd, ds, j, 0, rfl, gok, by omega, hja, by decide, ?_⟩
        rw [branch_none]
        walk_at "px"
        refine ⟨LD.1, LD.2.1, LD.2.2, ?_⟩
        walk_at "px"
        refine ⟨LD.1, LD.2.1, LD.2.2, ?_⟩
        walk_at "px"
        refine andF (by simp) ?_
        walk_at "px"
        exact hN2 _ rfl
      rintro _ rfl
      refine seq_cut (fun Γ1 => Γ1 = envL (some (.v (.int ti))) (some (.v (.str kd.name))) (some (.v (worldD ds))) (some (.own (.list (meansD (means ds []))))) (some (.v (.int (m' : Int)))) (some (.own (.list (posD (posFrom isVerF 0 ds))))) (some (.own (.list (posD us)))) (some (.v (.int (j : Int)))) (some (.own (.list (posD (usersFrom j 0 ds))))) (some (.v (worldD (branch ds j m')))) (some (.v (worldD (branch ds j m')))) (some (.own (.list (meansD (means (branch ds j m') [])))))) (fun N2 hN2 => ?_) ?_
      · walk_at "px"
        refine Px.comp_map (spotM (means ds [])) rfl rfl (by rw [posD_len]; exact sz (by omega)) (fun e he N3 hN3 => ?_) ?_
        · obtain ⟨q, x, rfl, hx⟩ := user he
          have hmq := means_at gok hx
          have e1 : spotM (means ds []) (.int ((q : Nat) : Int)) = (meant x (means ds [])).d := by
            show ((means ds []).getD ((q : Nat) : Int).toNat .none).d = _
            rw [Int.toNat_natCast, getD_at hmq]
          rw [e1] at hN3
          walk_at "px"
          refine ⟨_, meansD_at hmq, ?_⟩
          walk_at "px"
          exact hN3 _ rfl
        rw [spots_m gok]
        have cl3 : (copies m' (meansD ((ds.filter (uses j)).map fun x => meant x (means ds [])))).length ≤ 36 := by
          unfold meansD
          rw [List.map_map, ← copies_map, List.length_map]; exact cl
        have cl4 : (meansD ((ds.filter (uses j)).map fun x => meant x (means ds []))).length ≤ 12 := by
          unfold meansD
          rw [List.length_map, List.length_map]; omega
        walk_at "px"
        refine ⟨by omega, by omega, ?_, ?_⟩
        · rw [Int.toNat_natCast]
          exact sz (Nat.le_trans (Nat.mul_le_mul cl4 hm') (by decide))
        walk_at "px"
        refine ⟨?_, ?_⟩
        · show (meansD (means ds [])).length + (copies (m' : Int).toNat (meansD ((ds.filter (uses j)).map fun x => meant x (means ds [])))).length ≤ sizeLine
          rw [Int.toNat_natCast]
          unfold meansD at cl3 ⊢
          rw [List.length_map, msl]
          exact sz (by omega)
        walk_at "px"
        have e1 : meansD (means ds []) ++ (List.replicate (m' : Int).toNat (meansD ((ds.filter (uses j)).map fun x => meant x (means ds [])))).flatten = meansD (means (branch ds j m') []) := by
          show meansD (means ds []) ++ copies (m' : Int).toNat (meansD ((ds.filter (uses j)).map fun x => meant x (means ds []))) = _
          rw [Int.toNat_natCast, bms]
          unfold meansD
          rw [← copies_map, ← List.map_append]
        rw [e1]
        exact hN2 _ rfl
      rintro _ rfl
      walk_at "px"
      refine ⟨kd, branch ds j m', rfl, bok, by omega, bsm, ?_⟩
      walk_at "px"
      refine ⟨means_shaped _, means_shaped _, ?_⟩
      rw [SeqAt.eqv_refl _ (SeqAt.canLay_of_shaped (means_shaped _))]
      walk_at "px"
      refine ⟨bok, by omega, bsm, ?_⟩
      walk_at "px"
      refine ⟨LM.1, LM.2.1, LM.2.2, ?_⟩
      walk_at "px"
      refine ⟨LM.1, LM.2.1, LM.2.2, ?_⟩
      walk_at "px"
      refine andF (by simp) ?_
      walk_at "px"
      exact hN _ ⟨fun d hd => hint d (List.mem_cons_of_mem _ hd), _, _, _, _, _, _, _, _, _, _, _, _, rfl⟩
    · rintro Γ ⟨_, c2, c3, c4, c5, c6, c7, c8, c9, c10, c11, c12, c13, rfl⟩
      walk_at "px"
      exact hΦ
  obtain ⟨t, w', ⟨p, g⟩, hw⟩ := part
  refine ⟨_, pss_cons (ps_set (i := 1) sc.nd rfl (Or.inl rfl) (pe_call D_law_deck.ok (hr.mono (by decide)) (by rfl) D_law_deck.m D_law_deck.k D_law_deck.b .nil pass0 (pa_cons (pv 0) pa_nil))) p, ?_⟩
  refine ⟨_, rfl, sc_, ns, rfl, hsq, hns, fun H1 dk lf ndk nlf D1 K1 => ?_⟩
  have R := deck_rel (K := K) (x0 := some (.ref sc_)) (n := 15) D1
  refine g ⟨K, fun b => b = dk ∨ b = lf, [dk, lf], H1, IK.ks⟩ ⟨rfl, rfl⟩ 0 noFr _ _ H1 _ { nx := fun _ => False, rt := fun r => r = .v (.bool true) } (fun _ _ => rfl) (fun _ _ _ z => by cases z) R (hw _ rfl) ⟨fun Γ σ H' z R' => z.elim, fun rr x Γ σ H' z R' => ?_, fun _ _ _ z => z.elim, fun _ _ _ z => z.elim⟩
  subst z
  have := R'.e.ok (.inl 0) _ _ ent_held
  cases this with
  | v z => cases z; exact k H'
end
end K59
end

/-! K59q -/
section
set_option Elab.async false
set_option linter.all false
set_option maxRecDepth 100000
set_option maxHeartbeats 4000000
namespace K59
open PySem PySem.Spec PyProof.Rows L2 Dh Px
/-! ### what the top has left -/
structure Tp1 (K : PySem.W.Frag) (x : Str) (st : Stmt) (f : Addr) (fd : FuncData) : Prop where
  a : PySem.W.nsIn K mainGlobals x = some (some (.ref f))
  F : Fun K x x st f fd
theorem top_mk {K : PySem.W.Frag} {x : Str} {st : Stmt} {f : Addr} {oc : Value} {od an : Option Addr} {sl : Array (Option Value)} {kV dc pm cd ct : Value} (a : PySem.W.nsIn K mainGlobals x = some (some (.ref f)))
    (l : K.lookup f = some ⟨oc, od, .func (PySem.W.fnOf x x (defArgs st) (defBody st) (defScope st) .none kV dc pm an cd ct), sl⟩) (c : PySem.W.codeIn K cd x = true) (k : PySem.W.keepIn K (.ref f) = true) :
    Tp1 K x st f (PySem.W.fnOf x x (defArgs st) (defBody st) (defScope st) .none kV dc pm an cd ct) := ⟨a, fun_mk l c k⟩
def strOf : Value → Option Str
  | .str z _ => some z
  | _ => none
theorem vals_str : ∀ {its : List Value} {zs : List Str}, its.map strOf = zs.map some → Vals (zs.map V.str) its
  | [], [], _ => .nil
  | [], _ :: _, h => by cases h
  | _ :: _, [], h => by cases h
  | v :: its, z :: zs, h => by
    have h' : strOf v :: its.map strOf = some z :: zs.map some := h
    injection h' with h1 h2
    refine .cons ?_ (vals_str h2)
    unfold strOf at h1
    split at h1
    · rename_i t
      cases h1
      exact ⟨_, rfl⟩
    · cases h1
/-- a tuple of texts that was written with the module -/
structure TupC (K : PySem.W.Frag) (b : Addr) (zs : List Str) : Prop where
  t : KT K b (zs.map V.str)
theorem tup_mk {K : PySem.W.Frag} {b : Addr} {od : Option Addr} {its : Array Value} {n : Nat} {sl : Array (Option Value)} {zs : List Str} (l : K.lookup b = some ⟨.type "tuple", od, .seq its n, sl⟩) (h : its.toList.map strOf = zs.map some) (hz : zs.length ≤ 1000) : TupC K b zs := by
  have e : its.size = zs.length := by
    have := congrArg List.length h
    simpa using this
  exact ⟨_, its, n, l, rfl, rfl, by rw [e]; exact Nat.le_of_lt (small1000 hz), vals_str h⟩
theorem TupC.ac {K : PySem.W.Frag} {b : Addr} {zs : List Str} (T : TupC K b zs) (W : AS) (H : Hp) : Ac K W H (.ref b) (.tuple (zs.map PyData.str)) := .tupK T.t (AcL.ofStrs zs)
structure DicC (K : PySem.W.Frag) (w : World) (a : Addr) (es : Array DictEntry) (n : Nat) : Prop where
  l : K.lookup a = some ⟨.type "dict", none, .dict es n, #[]⟩
  k : PySem.W.KeysLit w.params es.toList
  low : (a == sysModules) = false
theorem DicC.kd {K : PySem.W.Frag} {w : World} {a : Addr} {es : Array DictEntry} {n : Nat} (D : DicC K w a es n) : KDict K w a es n := ⟨D.l, D.k, D.low⟩
theorem DicC.get {K : PySem.W.Frag} {w : World} {a : Addr} {es : Array DictEntry} {n : Nat} (D : DicC K w a es n) {x : Str} {b : Addr} (e : PySem.W.nsIn K a x = some (some (.ref b))) : KDct K w a x (.ref b) := ⟨es, n, _, D.l, D.k, e, rfl⟩
structure Row (K : PySem.W.Frag) (a : Addr) (x : Str) (zs : List Str) : Prop where
  ex : ∃ b, PySem.W.nsIn K a x = some (some (.ref b)) ∧ TupC K b zs
theorem row_mk {K : PySem.W.Frag} {a b : Addr} {x : Str} {od : Option Addr} {its : Array Value} {n : Nat} {sl : Array (Option Value)} {zs : List Str} (q : PySem.W.nsIn K a x = some (some (.ref b))) (l : K.lookup b = some ⟨.type "tuple", od, .seq its n, sl⟩) (h : its.toList.map strOf = zs.map some) (hz : zs.length ≤ 1000 := by decide) : Row K a x zs := ⟨b, q, tup_mk l h hz⟩
theorem Row.dct {K : PySem.W.Frag} {w : World} {a : Addr} {es : Array DictEntry} {n : Nat} (D : DicC K w a es n) {x : Str} {zs : List Str} (R : Row K a x zs) : ∃ v, KDct K w a x v ∧ ∀ W H, Ac K W H v (.tuple (zs.map PyData.str)) := by
  obtain ⟨b, h1, h2⟩ := R.ex
  exact ⟨_, D.get h1, h2.ac⟩
def Kd.all : List Kd := [.queue, .deque, .list, .joined, .heap]
theorem kinds_tab {K : PySem.W.Frag} {w : World} {a : Addr} {es : Array DictEntry} {n : Nat} (D : DicC K w a es n) (R : ∀ kd : Kd, Row K a kd.name (kd.fns.map Fn.name)) : Tab K w a kindsT where
  get := fun z c h => by
    unfold kindsT at h
    cases e : [Kd.queue, .deque, .list, .joined, .heap].find? (fun k => decide (k.name = z)) with
    | none => rw [e] at h; cases h
    | some kd =>
      rw [e] at h
      cases h
      have hz : kd.name = z := of_decide_eq_true (List.find?_some (p := fun k : Kd => decide (k.name = z)) e)
      obtain ⟨v, h1, h2⟩ := Row.dct D (R kd)
      rw [hz] at h1
      refine ⟨v, h1, .inl ⟨_, rfl, fun W H => ?_⟩⟩
      have := h2 W H
      rw [List.map_map] at this
      exact this
theorem params_tab {K : PySem.W.Frag} {w : World} {a : Addr} {es : Array DictEntry} {n : Nat} (D : DicC K w a es n) (R : ∀ f : Fn, Row K a f.name (f.sig.map fun b => if b then ("version" : Str) else "integer")) : Tab K w a paramsT where
  get := fun z c h => by
    unfold paramsT at h
    cases e : allFn.find? (fun f => decide (f.name = z)) with
    | none => rw [e] at h; cases h
    | some f =>
      rw [e] at h
      cases h
      have hz : f.name = z := of_decide_eq_true (List.find?_some (p := fun f : Fn => decide (f.name = z)) e)
      obtain ⟨v, h1, h2⟩ := Row.dct D (R f)
      rw [hz] at h1
      refine ⟨v, h1, .inl ⟨_, rfl, fun W H => ?_⟩⟩
      have := h2 W H
      rw [List.map_map] at this
      exact this
theorem kinds_in {K : PySem.W.Frag} {w : World} {a : Addr} {es : Array DictEntry} {n : Nat} (D : DicC K w a es n) (R : ∀ kd : Kd, Row K a kd.name (kd.fns.map Fn.name)) : TabIn K w a es n kindB where
  kd := D.kd
  ns := fun z b h => by
    unfold kindB at h
    split at h
    · rename_i q
      cases h
      rw [List.any_eq_true] at q
      obtain ⟨kd, _, e⟩ := q
      have hz : kd.name = z := of_decide_eq_true e
      obtain ⟨v, h1, _⟩ := (R kd).ex
      rw [hz] at h1
      exact ⟨_, h1, rfl⟩
    · cases h
theorem spD_mono {K : PySem.W.Frag} {ik : List Key} {φ ψ : PF} (h : ∀ Δ Ψ, φ Δ Ψ → ψ Δ Ψ) {vs : List V} {H : Hp} {Q : VK} {E : L2.XK} (s : spD K ik φ vs H Q E) : spD K ik ψ vs H Q E := by
  obtain ⟨M, U, Δ, Ψ, a, b, c, d, e⟩ := s
  exact ⟨M, U, Δ, Ψ, a, b, c, h _ _ d, e⟩
theorem fMean_as {f g : Fn} {sg : List Bool} (e : ∀ vs : List Pv, shapes vs = sg → mean f vs = mean g vs) : ∀ Δ Ψ, fMean f sg Δ Ψ → fMean g sg Δ Ψ := by
  rintro Δ Ψ ⟨vs, h1, h2, h3, h4⟩
  exact ⟨vs, h1, h2, h3, by rw [← e vs h2]; exact h4⟩
theorem as_back : ∀ vs : List Pv, shapes vs = Fn.back.sig → mean .back vs = mean .put vs := by
  intro vs h
  obtain ⟨l, _, rfl, s1⟩ := shapeX h
  obtain ⟨x, _, rfl, s2⟩ := shapeN s1
  obtain rfl := shape0 s2
  rfl
theorem as_cons : ∀ vs : List Pv, shapes vs = Fn.cons.sig → mean .cons vs = mean .front vs := by
  intro vs h
  obtain ⟨x, _, rfl, s1⟩ := shapeN h
  obtain ⟨l, _, rfl, s2⟩ := shapeX s1
  obtain rfl := shape0 s2
  rfl
theorem as_head : ∀ vs : List Pv, shapes vs = Fn.head.sig → mean .head vs = mean .first vs := by
  intro vs h
  obtain ⟨l, _, rfl, s1⟩ := shapeX h
  obtain rfl := shape0 s1
  rfl
theorem as_tail : ∀ vs : List Pv, shapes vs = Fn.tail.sig → mean .tail vs = mean .rest vs := by
  intro vs h
  obtain ⟨l, _, rfl, s1⟩ := shapeX h
  obtain rfl := shape0 s1
  rfl
theorem as_least : ∀ vs : List Pv, shapes vs = Fn.least.sig → mean .least vs = mean .first vs := by
  intro vs h
  obtain ⟨l, _, rfl, s1⟩ := shapeX h
  obtain rfl := shape0 s1
  rfl
theorem as_without : ∀ vs : List Pv, shapes vs = Fn.without.sig → mean .without vs = mean .rest vs := by
  intro vs h
  obtain ⟨l, _, rfl, s1⟩ := shapeX h
  obtain rfl := shape0 s1
  rfl
theorem all_mk {l : PySem.W.OpenLaw} {w : World} {K : PySem.W.Frag} {h : Heap} {mg : Str → Option Value} {fa : Addr} (X : K.In h) (G : h.Ns mainGlobals mg) (hfa : mg "law" = some (.ref fa))
    {f6 f7 f8 f9 f18 f21 f20 f19 f23 f25 f26 f27 f28 f31 f29 f30 f32 f33 f34 f35 f37 f36 f24 f22 f13 f40 f43 f44 f45 f46 f47 f48 f42 f49 aS aN aA aK aP aM : Addr} {fd6 fd7 fd8 fd9 fd18 fd21 fd20 fd19 fd23 fd25 fd26 fd27 fd28 fd31 fd29 fd30 fd32 fd33 fd34 fd35 fd37 fd36 fd24 fd22 fd13 fd40 fd43 fd44 fd45 fd46 fd47 fd48 fd42 fd49 : FuncData} {esaK esaP esaM : Array DictEntry} {naK naP naM : Nat}
    (t6 : Tp1 K "is_integer" (top 6) f6 fd6)
    (t7 : Tp1 K "is_position" sPosition f7 fd7)
    (t8 : Tp1 K "is_result" sResult f8 fd8)
    (t9 : Tp1 K "has_deed_form" sForm f9 fd9)
    (t18 : Tp1 K "check_kind" sKind f18 fd18)
    (t21 : Tp1 K "is_given" sGiven f21 fd21)
    (t20 : Tp1 K "is_kind_deed" sDeed f20 fd20)
    (t19 : Tp1 K "is_kind_world" sWorld f19 fd19)
    (t23 : Tp1 K "plain" sPlain f23 fd23)
    (t25 : Tp1 K "mean_empty" sEmpty f25 fd25)
    (t26 : Tp1 K "mean_one" sOne f26 fd26)
    (t27 : Tp1 K "mean_behind" sBehind f27 fd27)
    (t28 : Tp1 K "mean_before" sBefore f28 fd28)
    (t31 : Tp1 K "mean_look" sLook f31 fd31)
    (t29 : Tp1 K "mean_first" sFirst f29 fd29)
    (t30 : Tp1 K "mean_last" sLast f30 fd30)
    (t32 : Tp1 K "mean_rest" sRest f32 fd32)
    (t33 : Tp1 K "mean_init" sInit f33 fd33)
    (t34 : Tp1 K "mean_set" sSet f34 fd34)
    (t35 : Tp1 K "mean_join" sJoin f35 fd35)
    (t37 : Tp1 K "mean_merge" sMerge f37 fd37)
    (t36 : Tp1 K "mean_insert" sInsert f36 fd36)
    (t24 : Tp1 K "meaning" sMeaning f24 fd24)
    (t22 : Tp1 K "meanings" sMeanings f22 fd22)
    (t13 : Tp1 K "used" s_used f13 fd13)
    (t40 : Tp1 K "branched" s_branched f40 fd40)
    (t43 : Tp1 K "_law_draw" sDraw f43 fd43)
    (t44 : Tp1 K "_law_pick" s_lawPick f44 fd44)
    (t45 : Tp1 K "_law_functions" s_lawFunctions f45 fd45)
    (t46 : Tp1 K "_law_meaning" s_lawMeaning f46 fd46)
    (t47 : Tp1 K "_law_meanings" s_lawMeanings f47 fd47)
    (t48 : Tp1 K "_law_grown" s_lawGrown f48 fd48)
    (t42 : Tp1 K "_law_deck" sDeck f42 fd42)
    (t49 : Tp1 K "law" sLaw f49 fd49)
    (qaS : PySem.W.nsIn K mainGlobals "STUCK" = some (some (.ref aS)))
    (qaN : PySem.W.nsIn K mainGlobals "NONE" = some (some (.ref aN)))
    (qaA : PySem.W.nsIn K mainGlobals "ANSWERING" = some (some (.ref aA)))
    (qaK : PySem.W.nsIn K mainGlobals "KINDS" = some (some (.ref aK)))
    (qaP : PySem.W.nsIn K mainGlobals "PARAMETERS" = some (some (.ref aP)))
    (qaM : PySem.W.nsIn K mainGlobals "MEANINGS" = some (some (.ref aM)))
    (uS : TupC K aS ["stuck"]) (uN : TupC K aN ["none"]) (uA : TupC K aA ["first", "last", "head", "look", "least"])
    (DaK : DicC K w aK esaK naK)
    (DaP : DicC K w aP esaP naP)
    (DaM : DicC K w aM esaM naM)
    (rk_queue : Row K aK "queue" ["empty", "put", "first", "rest"])
    (rk_deque : Row K aK "deque" ["empty", "front", "back", "first", "rest", "last", "init"])
    (rk_list : Row K aK "list" ["empty", "cons", "head", "tail", "look", "set"])
    (rk_joined : Row K aK "joined" ["empty", "one", "join", "first", "rest"])
    (rk_heap : Row K aK "heap" ["empty", "insert", "least", "without", "merge"])
    (rp_empty : Row K aP "empty" [])
    (rp_put : Row K aP "put" ["version", "integer"])
    (rp_first : Row K aP "first" ["version"])
    (rp_rest : Row K aP "rest" ["version"])
    (rp_front : Row K aP "front" ["integer", "version"])
    (rp_back : Row K aP "back" ["version", "integer"])
    (rp_last : Row K aP "last" ["version"])
    (rp_init : Row K aP "init" ["version"])
    (rp_cons : Row K aP "cons" ["integer", "version"])
    (rp_head : Row K aP "head" ["version"])
    (rp_tail : Row K aP "tail" ["version"])
    (rp_look : Row K aP "look" ["version", "integer"])
    (rp_set : Row K aP "set" ["version", "integer", "integer"])
    (rp_one : Row K aP "one" ["integer"])
    (rp_join : Row K aP "join" ["version", "version"])
    (rp_insert : Row K aP "insert" ["version", "integer"])
    (rp_least : Row K aP "least" ["version"])
    (rp_without : Row K aP "without" ["version"])
    (rp_merge : Row K aP "merge" ["version", "version"])
    (rm_empty : PySem.W.nsIn K aM "empty" = some (some (.ref f25)))
    (rm_put : PySem.W.nsIn K aM "put" = some (some (.ref f27)))
    (rm_first : PySem.W.nsIn K aM "first" = some (some (.ref f29)))
    (rm_rest : PySem.W.nsIn K aM "rest" = some (some (.ref f32)))
    (rm_front : PySem.W.nsIn K aM "front" = some (some (.ref f28)))
    (rm_back : PySem.W.nsIn K aM "back" = some (some (.ref f27)))
    (rm_last : PySem.W.nsIn K aM "last" = some (some (.ref f30)))
    (rm_init : PySem.W.nsIn K aM "init" = some (some (.ref f33)))
    (rm_cons : PySem.W.nsIn K aM "cons" = some (some (.ref f28)))
    (rm_head : PySem.W.nsIn K aM "head" = some (some (.ref f29)))
    (rm_tail : PySem.W.nsIn K aM "tail" = some (some (.ref f32)))
    (rm_look : PySem.W.nsIn K aM "look" = some (some (.ref f31)))
    (rm_set : PySem.W.nsIn K aM "set" = some (some (.ref f34)))
    (rm_one : PySem.W.nsIn K aM "one" = some (some (.ref f26)))
    (rm_join : PySem.W.nsIn K aM "join" = some (some (.ref f35)))
    (rm_insert : PySem.W.nsIn K aM "insert" = some (some (.ref f36)))
    (rm_least : PySem.W.nsIn K aM "least" = some (some (.ref f29)))
    (rm_without : PySem.W.nsIn K aM "without" = some (some (.ref f32)))
    (rm_merge : PySem.W.nsIn K aM "merge" = some (some (.ref f37)))
    (z_isinstance : PySem.W.nsIn K mainGlobals "isinstance" = some none)
    (z_int : PySem.W.nsIn K mainGlobals "int" = some none)
    (z_bool : PySem.W.nsIn K mainGlobals "bool" = some none)
    (z_str : PySem.W.nsIn K mainGlobals "str" = some none)
    (z_tuple : PySem.W.nsIn K mainGlobals "tuple" = some none)
    (z_len : PySem.W.nsIn K mainGlobals "len" = some none)
    (z_list : PySem.W.nsIn K mainGlobals "list" = some none)
    (z_all : PySem.W.nsIn K mainGlobals "all" = some none)
    (z_any : PySem.W.nsIn K mainGlobals "any" = some none)
    (z_zip : PySem.W.nsIn K mainGlobals "zip" = some none)
    (z_range : PySem.W.nsIn K mainGlobals "range" = some none)
    (z_sorted : PySem.W.nsIn K mainGlobals "sorted" = some none)
    (z_repr : PySem.W.nsIn K mainGlobals "repr" = some none)
    (z_enumerate : PySem.W.nsIn K mainGlobals "enumerate" = some none)
    (z_min : PySem.W.nsIn K mainGlobals "min" = some none)
    (z_max : PySem.W.nsIn K mainGlobals "max" = some none)
    : ∃ fd : FuncData, (∀ (s : Shared) (u : Value), BindsTo s fd ⟨[u], []⟩ [("script", u)]) ∧ ∀ base : Heap, K.In base → base.Ns mainGlobals mg → FnG l.prog w K mg base CX0 13 fa fd ["script"] (spLaw K) := by
  have e := hfa.symm.trans (PySem.W.mg_of X G t49.a)
  cases e
  have T : Blt mg := ⟨PySem.W.mg_none_of X G z_isinstance, PySem.W.mg_none_of X G z_int, PySem.W.mg_none_of X G z_bool, PySem.W.mg_none_of X G z_str, PySem.W.mg_none_of X G z_tuple, PySem.W.mg_none_of X G z_len, PySem.W.mg_none_of X G z_list, PySem.W.mg_none_of X G z_all, PySem.W.mg_none_of X G z_any, PySem.W.mg_none_of X G z_zip, PySem.W.mg_none_of X G z_range, PySem.W.mg_none_of X G z_sorted, PySem.W.mg_none_of X G z_repr, PySem.W.mg_none_of X G z_enumerate, PySem.W.mg_none_of X G z_min, PySem.W.mg_none_of X G z_max⟩
  have b6 := t6.F.binds (ps := ["thing"]) fun _ _ _ _ _ _ us hl => match us, hl with | [_], _ => rfl
  have m6 := PySem.W.mg_of X G t6.a
  have b7 := t7.F.binds (ps := ["thing", "size"]) fun _ _ _ _ _ _ us hl => match us, hl with | [_, _], _ => rfl
  have m7 := PySem.W.mg_of X G t7.a
  have b8 := t8.F.binds (ps := ["thing", "position"]) fun _ _ _ _ _ _ us hl => match us, hl with | [_, _], _ => rfl
  have m8 := PySem.W.mg_of X G t8.a
  have b9 := t9.F.binds (ps := ["thing"]) fun _ _ _ _ _ _ us hl => match us, hl with | [_], _ => rfl
  have m9 := PySem.W.mg_of X G t9.a
  have b18 := t18.F.binds (ps := ["kind"]) fun _ _ _ _ _ _ us hl => match us, hl with | [_], _ => rfl
  have m18 := PySem.W.mg_of X G t18.a
  have b21 := t21.F.binds (ps := ["sort", "argument", "things", "position"]) fun _ _ _ _ _ _ us hl => match us, hl with | [_, _, _, _], _ => rfl
  have m21 := PySem.W.mg_of X G t21.a
  have b20 := t20.F.binds (ps := ["kind", "things", "position"]) fun _ _ _ _ _ _ us hl => match us, hl with | [_, _, _], _ => rfl
  have m20 := PySem.W.mg_of X G t20.a
  have b19 := t19.F.binds (ps := ["kind", "thing"]) fun _ _ _ _ _ _ us hl => match us, hl with | [_, _], _ => rfl
  have m19 := PySem.W.mg_of X G t19.a
  have b23 := t23.F.binds (ps := ["argument", "found"]) fun _ _ _ _ _ _ us hl => match us, hl with | [_, _], _ => rfl
  have m23 := PySem.W.mg_of X G t23.a
  have b25 := t25.F.binds (ps := []) fun _ _ _ _ _ _ us hl => match us, hl with | [], _ => rfl
  have m25 := PySem.W.mg_of X G t25.a
  have b26 := t26.F.binds (ps := ["x"]) fun _ _ _ _ _ _ us hl => match us, hl with | [_], _ => rfl
  have m26 := PySem.W.mg_of X G t26.a
  have b27 := t27.F.binds (ps := ["items", "x"]) fun _ _ _ _ _ _ us hl => match us, hl with | [_, _], _ => rfl
  have m27 := PySem.W.mg_of X G t27.a
  have b28 := t28.F.binds (ps := ["x", "items"]) fun _ _ _ _ _ _ us hl => match us, hl with | [_, _], _ => rfl
  have m28 := PySem.W.mg_of X G t28.a
  have b31 := t31.F.binds (ps := ["items", "i"]) fun _ _ _ _ _ _ us hl => match us, hl with | [_, _], _ => rfl
  have m31 := PySem.W.mg_of X G t31.a
  have b29 := t29.F.binds (ps := ["items"]) fun _ _ _ _ _ _ us hl => match us, hl with | [_], _ => rfl
  have m29 := PySem.W.mg_of X G t29.a
  have b30 := t30.F.binds (ps := ["items"]) fun _ _ _ _ _ _ us hl => match us, hl with | [_], _ => rfl
  have m30 := PySem.W.mg_of X G t30.a
  have b32 := t32.F.binds (ps := ["items"]) fun _ _ _ _ _ _ us hl => match us, hl with | [_], _ => rfl
  have m32 := PySem.W.mg_of X G t32.a
  have b33 := t33.F.binds (ps := ["items"]) fun _ _ _ _ _ _ us hl => match us, hl with | [_], _ => rfl
  have m33 := PySem.W.mg_of X G t33.a
  have b34 := t34.F.binds (ps := ["items", "i", "x"]) fun _ _ _ _ _ _ us hl => match us, hl with | [_, _, _], _ => rfl
  have m34 := PySem.W.mg_of X G t34.a
  have b35 := t35.F.binds (ps := ["first", "second"]) fun _ _ _ _ _ _ us hl => match us, hl with | [_, _], _ => rfl
  have m35 := PySem.W.mg_of X G t35.a
  have b37 := t37.F.binds (ps := ["first", "second"]) fun _ _ _ _ _ _ us hl => match us, hl with | [_, _], _ => rfl
  have m37 := PySem.W.mg_of X G t37.a
  have b36 := t36.F.binds (ps := ["items", "x"]) fun _ _ _ _ _ _ us hl => match us, hl with | [_, _], _ => rfl
  have m36 := PySem.W.mg_of X G t36.a
  have b24 := t24.F.binds (ps := ["f", "parts"]) fun _ _ _ _ _ _ us hl => match us, hl with | [_, _], _ => rfl
  have m24 := PySem.W.mg_of X G t24.a
  have b22 := t22.F.binds (ps := ["kind", "world"]) fun _ _ _ _ _ _ us hl => match us, hl with | [_, _], _ => rfl
  have m22 := PySem.W.mg_of X G t22.a
  have b13 := t13.F.binds (ps := ["deed"]) fun _ _ _ _ _ _ us hl => match us, hl with | [_], _ => rfl
  have m13 := PySem.W.mg_of X G t13.a
  have b40 := t40.F.binds (ps := ["kind", "world", "k", "m"]) fun _ _ _ _ _ _ us hl => match us, hl with | [_, _, _, _], _ => rfl
  have m40 := PySem.W.mg_of X G t40.a
  have b43 := t43.F.binds (ps := ["deck", "below"]) fun _ _ _ _ _ _ us hl => match us, hl with | [_, _], _ => rfl
  have m43 := PySem.W.mg_of X G t43.a
  have b44 := t44.F.binds (ps := ["deck", "some"]) fun _ _ _ _ _ _ us hl => match us, hl with | [_, _], _ => rfl
  have m44 := PySem.W.mg_of X G t44.a
  have b45 := t45.F.binds (ps := ["kind"]) fun _ _ _ _ _ _ us hl => match us, hl with | [_], _ => rfl
  have m45 := PySem.W.mg_of X G t45.a
  have b46 := t46.F.binds (ps := ["f", "rows"]) fun _ _ _ _ _ _ us hl => match us, hl with | [_, _], _ => rfl
  have m46 := PySem.W.mg_of X G t46.a
  have b47 := t47.F.binds (ps := ["world"]) fun _ _ _ _ _ _ us hl => match us, hl with | [_], _ => rfl
  have m47 := PySem.W.mg_of X G t47.a
  have b48 := t48.F.binds (ps := ["deck", "kind", "many", "most", "is_once"]) fun _ _ _ _ _ _ us hl => match us, hl with | [_, _, _, _, _], _ => rfl
  have m48 := PySem.W.mg_of X G t48.a
  have b42 := t42.F.binds (ps := ["script"]) fun _ _ _ _ _ _ us hl => match us, hl with | [_], _ => rfl
  have m42 := PySem.W.mg_of X G t42.a
  have RK : ∀ kd : Kd, Row K aK kd.name (kd.fns.map Fn.name) := fun kd => by
    cases kd
    · exact rk_queue
    · exact rk_deque
    · exact rk_list
    · exact rk_joined
    · exact rk_heap
  have RP : ∀ f : Fn, Row K aP f.name (f.sig.map fun b => if b then ("version" : Str) else "integer") := fun f => by
    cases f
    · exact rp_empty
    · exact rp_put
    · exact rp_first
    · exact rp_rest
    · exact rp_front
    · exact rp_back
    · exact rp_last
    · exact rp_init
    · exact rp_cons
    · exact rp_head
    · exact rp_tail
    · exact rp_look
    · exact rp_set
    · exact rp_one
    · exact rp_join
    · exact rp_insert
    · exact rp_least
    · exact rp_without
    · exact rp_merge
  have cS : Cst K mg "STUCK" aS (.tuple [.str "stuck"]) := ⟨PySem.W.mg_of X G qaS, uS.ac⟩
  have cN : Cst K mg "NONE" aN (.tuple [.str "none"]) := ⟨PySem.W.mg_of X G qaN, uN.ac⟩
  have cA : Cst K mg "ANSWERING" aA (.tuple ansD) := ⟨PySem.W.mg_of X G qaA, uA.ac⟩
  have mK := PySem.W.mg_of X G qaK
  have mM := PySem.W.mg_of X G qaM
  have iK := kinds_in DaK RK
  have tK : TabC K w mg "KINDS" aK kindsT := ⟨mK, kinds_tab DaK RK⟩
  have tP : TabC K w mg "PARAMETERS" aP paramsT := ⟨PySem.W.mg_of X G qaP, params_tab DaP RP⟩
  have branchedKw : BindsKw K fd40 ["kind", "world", "k", "m"] ["m", "k", "world", "kind"] [3, 2, 1, 0] := fun s us hl _ => match us, hl with
    | [_, _, _, _], _ => by
      obtain ⟨_, _, _, _, _, _, _, _, _, rfl, _⟩ := t40.F.ex
      exact .of_eq rfl
  refine ⟨fd49, fun s v => ?_, fun base _ _ => ?_⟩
  · obtain ⟨_, _, _, _, _, _, _, _, _, rfl, _⟩ := t49.F.ex
    exact .of_eq rfl
  have Dis_integer := (⟨okInteger t6.F T, m6, t6.F.kp, b6⟩ : DfD l.prog w K mg base "is_integer" 1 f6 fd6 ["thing"] fInteger)
  have Dis_position := (⟨okPosition t7.F Dis_integer, m7, t7.F.kp, b7⟩ : DfD l.prog w K mg base "is_position" 2 f7 fd7 ["thing", "size"] fPosition)
  have Dis_result := (⟨okResult t8.F T Dis_position, m8, t8.F.kp, b8⟩ : DfD l.prog w K mg base "is_result" 3 f8 fd8 ["thing", "position"] fResult)
  have Dhas_deed_form := (⟨okForm t9.F T, m9, t9.F.kp, b9⟩ : DfD l.prog w K mg base "has_deed_form" 1 f9 fd9 ["thing"] fForm)
  have Dcheck_kind := (⟨okKind t18.F T mK iK, m18, t18.F.kp, b18⟩ : DfD l.prog w K mg base "check_kind" 1 f18 fd18 ["kind"] fKind)
  have Dis_given := (⟨okGiven t21.F Dis_integer Dis_result cA, m21, t21.F.kp, b21⟩ : DfD l.prog w K mg base "is_given" 4 f21 fd21 ["sort", "argument", "things", "position"] fGiven)
  have Dis_kind_deed := (⟨okDeed t20.F T Dhas_deed_form Dis_given tK tP, m20, t20.F.kp, b20⟩ : DfD l.prog w K mg base "is_kind_deed" 5 f20 fd20 ["kind", "things", "position"] fDeed)
  have Dis_kind_world := (⟨okWorld t19.F T Dcheck_kind Dis_kind_deed, m19, t19.F.kp, b19⟩ : DfD l.prog w K mg base "is_kind_world" 6 f19 fd19 ["kind", "thing"] fWorld)
  have Dplain := (⟨okPlain t23.F Dis_integer, m23, t23.F.kp, b23⟩ : DfD l.prog w K mg base "plain" 2 f23 fd23 ["argument", "found"] fPlain)
  have Dmean_empty := (⟨okEmpty t25.F, m25, t25.F.kp, b25⟩ : DfD l.prog w K mg base "mean_empty" 1 f25 fd25 [] (fMean .empty []))
  have Dmean_one := (⟨okOne t26.F, m26, t26.F.kp, b26⟩ : DfD l.prog w K mg base "mean_one" 1 f26 fd26 ["x"] (fMean .one [false]))
  have Dmean_behind := (⟨okBehind t27.F, m27, t27.F.kp, b27⟩ : DfD l.prog w K mg base "mean_behind" 1 f27 fd27 ["items", "x"] (fMean .put [true, false]))
  have Dmean_before := (⟨okBefore t28.F, m28, t28.F.kp, b28⟩ : DfD l.prog w K mg base "mean_before" 1 f28 fd28 ["x", "items"] (fMean .front [false, true]))
  have Dmean_look := (⟨okLook t31.F T cS Dis_position, m31, t31.F.kp, b31⟩ : DfD l.prog w K mg base "mean_look" 3 f31 fd31 ["items", "i"] (fMean .look [true, false]))
  have Dmean_first := (⟨okFirst t29.F Dmean_look, m29, t29.F.kp, b29⟩ : DfD l.prog w K mg base "mean_first" 4 f29 fd29 ["items"] (fMean .first [true]))
  have Dmean_last := (⟨okLast t30.F T Dmean_look, m30, t30.F.kp, b30⟩ : DfD l.prog w K mg base "mean_last" 4 f30 fd30 ["items"] (fMean .last [true]))
  have Dmean_rest := (⟨okRest t32.F cS, m32, t32.F.kp, b32⟩ : DfD l.prog w K mg base "mean_rest" 1 f32 fd32 ["items"] (fMean .rest [true]))
  have Dmean_init := (⟨okInit t33.F cS, m33, t33.F.kp, b33⟩ : DfD l.prog w K mg base "mean_init" 1 f33 fd33 ["items"] (fMean .init [true]))
  have Dmean_set := (⟨okSet t34.F T cS Dis_position, m34, t34.F.kp, b34⟩ : DfD l.prog w K mg base "mean_set" 3 f34 fd34 ["items", "i", "x"] (fMean .set [true, false, false]))
  have Dmean_join := (⟨okJoin t35.F, m35, t35.F.kp, b35⟩ : DfD l.prog w K mg base "mean_join" 1 f35 fd35 ["first", "second"] (fMean .join [true, true]))
  have Dmean_merge := (⟨okMerge t37.F T, m37, t37.F.kp, b37⟩ : DfD l.prog w K mg base "mean_merge" 1 f37 fd37 ["first", "second"] (fMean .merge [true, true]))
  have Dmean_insert := (⟨okInsert t36.F Dmean_merge, m36, t36.F.kp, b36⟩ : DfD l.prog w K mg base "mean_insert" 2 f36 fd36 ["items", "x"] (fMean .insert [true, false]))
  have mt : ∀ f, MT l.prog w K mg base aM f := fun f => by
    cases f
    · exact ⟨_, _, _, 1, by decide, DaM.get rm_empty, Dmean_empty.ok, t25.F.kp, b25⟩
    · exact ⟨_, _, _, 1, by decide, DaM.get rm_put, Dmean_behind.ok, t27.F.kp, b27⟩
    · exact ⟨_, _, _, 4, by decide, DaM.get rm_first, Dmean_first.ok, t29.F.kp, b29⟩
    · exact ⟨_, _, _, 1, by decide, DaM.get rm_rest, Dmean_rest.ok, t32.F.kp, b32⟩
    · exact ⟨_, _, _, 1, by decide, DaM.get rm_front, Dmean_before.ok, t28.F.kp, b28⟩
    · exact ⟨_, _, _, 1, by decide, DaM.get rm_back, Px.FnG.weaken Dmean_behind.ok fun _ _ _ _ s => spD_mono (fMean_as as_back) s, t27.F.kp, b27⟩
    · exact ⟨_, _, _, 4, by decide, DaM.get rm_last, Dmean_last.ok, t30.F.kp, b30⟩
    · exact ⟨_, _, _, 1, by decide, DaM.get rm_init, Dmean_init.ok, t33.F.kp, b33⟩
    · exact ⟨_, _, _, 1, by decide, DaM.get rm_cons, Px.FnG.weaken Dmean_before.ok fun _ _ _ _ s => spD_mono (fMean_as as_cons) s, t28.F.kp, b28⟩
    · exact ⟨_, _, _, 4, by decide, DaM.get rm_head, Px.FnG.weaken Dmean_first.ok fun _ _ _ _ s => spD_mono (fMean_as as_head) s, t29.F.kp, b29⟩
    · exact ⟨_, _, _, 1, by decide, DaM.get rm_tail, Px.FnG.weaken Dmean_rest.ok fun _ _ _ _ s => spD_mono (fMean_as as_tail) s, t32.F.kp, b32⟩
    · exact ⟨_, _, _, 3, by decide, DaM.get rm_look, Dmean_look.ok, t31.F.kp, b31⟩
    · exact ⟨_, _, _, 3, by decide, DaM.get rm_set, Dmean_set.ok, t34.F.kp, b34⟩
    · exact ⟨_, _, _, 1, by decide, DaM.get rm_one, Dmean_one.ok, t26.F.kp, b26⟩
    · exact ⟨_, _, _, 1, by decide, DaM.get rm_join, Dmean_join.ok, t35.F.kp, b35⟩
    · exact ⟨_, _, _, 2, by decide, DaM.get rm_insert, Dmean_insert.ok, t36.F.kp, b36⟩
    · exact ⟨_, _, _, 4, by decide, DaM.get rm_least, Px.FnG.weaken Dmean_first.ok fun _ _ _ _ s => spD_mono (fMean_as as_least) s, t29.F.kp, b29⟩
    · exact ⟨_, _, _, 1, by decide, DaM.get rm_without, Px.FnG.weaken Dmean_rest.ok fun _ _ _ _ s => spD_mono (fMean_as as_without) s, t32.F.kp, b32⟩
    · exact ⟨_, _, _, 1, by decide, DaM.get rm_merge, Dmean_merge.ok, t37.F.kp, b37⟩
  have Dmeaning := (⟨okMeaning t24.F T cN mM mt, m24, t24.F.kp, b24⟩ : DfD l.prog w K mg base "meaning" 5 f24 fd24 ["f", "parts"] fMeaning)
  have Dmeanings := (⟨okMeanings t22.F T Dis_kind_world Dmeaning Dplain, m22, t22.F.kp, b22⟩ : DfD l.prog w K mg base "meanings" 7 f22 fd22 ["kind", "world"] fMeanings)
  have Dused := (⟨ok_used t13.F T Dis_integer, m13, t13.F.kp, b13⟩ : DfD l.prog w K mg base "used" 2 f13 fd13 ["deed"] fUsed)
  have Dbranched := (⟨ok_branched t40.F T Dis_kind_world Dis_position Dis_integer Dused cA, m40, t40.F.kp, b40⟩ : DfD l.prog w K mg base "branched" 7 f40 fd40 ["kind", "world", "k", "m"] fBranched)
  have D_law_draw := (⟨okDraw t43.F T, m43, t43.F.kp, b43⟩ : DfD l.prog w K mg base "_law_draw" 1 f43 fd43 ["deck", "below"] fDraw)
  have D_law_pick := (⟨ok_lawPick t44.F T D_law_draw, m44, t44.F.kp, b44⟩ : DfD l.prog w K mg base "_law_pick" 2 f44 fd44 ["deck", "some"] fPick)
  have D_law_functions := (⟨ok_lawFunctions t45.F T, m45, t45.F.kp, b45⟩ : DfD l.prog w K mg base "_law_functions" 1 f45 fd45 ["kind"] fTable)
  have D_law_meaning := (⟨ok_lawMeaning t46.F T, m46, t46.F.kp, b46⟩ : DfD l.prog w K mg base "_law_meaning" 1 f46 fd46 ["f", "rows"] fLawMean)
  have D_law_meanings := (⟨ok_lawMeanings t47.F T D_law_meaning, m47, t47.F.kp, b47⟩ : DfD l.prog w K mg base "_law_meanings" 2 f47 fd47 ["world"] fLawMeanings)
  have D_law_grown := (⟨ok_lawGrown t48.F T D_law_functions D_law_draw D_law_pick D_law_meaning, m48, t48.F.kp, b48⟩ : DfD l.prog w K mg base "_law_grown" 3 f48 fd48 ["deck", "kind", "many", "most", "is_once"] fGrown)
  have D_law_deck := (⟨okDeck t42.F T, m42, t42.F.kp, b42⟩ : Df l.prog w K mg base "_law_deck" 1 f42 fd42 ["script"] (spDeck K))
  exact okLaw t49.F T D_law_deck D_law_draw D_law_pick D_law_functions D_law_meanings D_law_grown Dis_kind_world Dbranched branchedKw Dmeanings
end K59
end

/-! K59F -/
open PySem PySem.W PyProof.Rows
set_option Elab.async false
set_option linter.all false
set_option maxRecDepth 100000 in
set_option maxHeartbeats 0 in
theorem PySem.Challenge.cw_debtsheld_k59_whole_branched_worlds_holds : PySem.Challenge.rw_debtsheld_k59_whole_branched_worlds.Holds := by
  w_on; o_law; k_head; (case hw => w_witness2)
  k_fill
  refine Dh.walkG (n := 63) (k := 13) (x := "script") (sp := K59.spLaw) rfl (by decide) rfl ⟨rfl, by decide, by decide⟩ (fun w h Y => PySem.W.kIn_of Y) ?F (fun _ _ a ns hl hS => ⟨a, ns, rfl, hS, hl, fun _ => rfl⟩)
  case F =>
    intro w mg fa h KX G hmg
    refine' K59.all_mk KX G hmg (K59.top_mk ?a6 ?l6 ?c6 ?k6) (K59.top_mk ?a7 ?l7 ?c7 ?k7) (K59.top_mk ?a8 ?l8 ?c8 ?k8) (K59.top_mk ?a9 ?l9 ?c9 ?k9) (K59.top_mk ?a18 ?l18 ?c18 ?k18) (K59.top_mk ?a21 ?l21 ?c21 ?k21) (K59.top_mk ?a20 ?l20 ?c20 ?k20) (K59.top_mk ?a19 ?l19 ?c19 ?k19) (K59.top_mk ?a23 ?l23 ?c23 ?k23) (K59.top_mk ?a25 ?l25 ?c25 ?k25) (K59.top_mk ?a26 ?l26 ?c26 ?k26) (K59.top_mk ?a27 ?l27 ?c27 ?k27) (K59.top_mk ?a28 ?l28 ?c28 ?k28) (K59.top_mk ?a31 ?l31 ?c31 ?k31) (K59.top_mk ?a29 ?l29 ?c29 ?k29) (K59.top_mk ?a30 ?l30 ?c30 ?k30) (K59.top_mk ?a32 ?l32 ?c32 ?k32) (K59.top_mk ?a33 ?l33 ?c33 ?k33) (K59.top_mk ?a34 ?l34 ?c34 ?k34) (K59.top_mk ?a35 ?l35 ?c35 ?k35) (K59.top_mk ?a37 ?l37 ?c37 ?k37) (K59.top_mk ?a36 ?l36 ?c36 ?k36) (K59.top_mk ?a24 ?l24 ?c24 ?k24) (K59.top_mk ?a22 ?l22 ?c22 ?k22) (K59.top_mk ?a13 ?l13 ?c13 ?k13) (K59.top_mk ?a40 ?l40 ?c40 ?k40) (K59.top_mk ?a43 ?l43 ?c43 ?k43) (K59.top_mk ?a44 ?l44 ?c44 ?k44) (K59.top_mk ?a45 ?l45 ?c45 ?k45) (K59.top_mk ?a46 ?l46 ?c46 ?k46) (K59.top_mk ?a47 ?l47 ?c47 ?k47) (K59.top_mk ?a48 ?l48 ?c48 ?k48) (K59.top_mk ?a42 ?l42 ?c42 ?k42) (K59.top_mk ?a49 ?l49 ?c49 ?k49) ?qaS ?qaN ?qaA ?qaK ?qaP ?qaM (K59.tup_mk ?tlaS ?thaS ?tzaS) (K59.tup_mk ?tlaN ?thaN ?tzaN) (K59.tup_mk ?tlaA ?thaA ?tzaA) ⟨?dlaK, ?dkaK, ?dwaK⟩ ⟨?dlaP, ?dkaP, ?dwaP⟩ ⟨?dlaM, ?dkaM, ?dwaM⟩ (K59.row_mk ?rq_queue ?rl_queue ?rh_queue) (K59.row_mk ?rq_deque ?rl_deque ?rh_deque) (K59.row_mk ?rq_list ?rl_list ?rh_list) (K59.row_mk ?rq_joined ?rl_joined ?rh_joined) (K59.row_mk ?rq_heap ?rl_heap ?rh_heap) (K59.row_mk ?pq_empty ?pl_empty ?ph_empty) (K59.row_mk ?pq_put ?pl_put ?ph_put) (K59.row_mk ?pq_first ?pl_first ?ph_first) (K59.row_mk ?pq_rest ?pl_rest ?ph_rest) (K59.row_mk ?pq_front ?pl_front ?ph_front) (K59.row_mk ?pq_back ?pl_back ?ph_back) (K59.row_mk ?pq_last ?pl_last ?ph_last) (K59.row_mk ?pq_init ?pl_init ?ph_init) (K59.row_mk ?pq_cons ?pl_cons ?ph_cons) (K59.row_mk ?pq_head ?pl_head ?ph_head) (K59.row_mk ?pq_tail ?pl_tail ?ph_tail) (K59.row_mk ?pq_look ?pl_look ?ph_look) (K59.row_mk ?pq_set ?pl_set ?ph_set) (K59.row_mk ?pq_one ?pl_one ?ph_one) (K59.row_mk ?pq_join ?pl_join ?ph_join) (K59.row_mk ?pq_insert ?pl_insert ?ph_insert) (K59.row_mk ?pq_least ?pl_least ?ph_least) (K59.row_mk ?pq_without ?pl_without ?ph_without) (K59.row_mk ?pq_merge ?pl_merge ?ph_merge) ?mq_empty ?mq_put ?mq_first ?mq_rest ?mq_front ?mq_back ?mq_last ?mq_init ?mq_cons ?mq_head ?mq_tail ?mq_look ?mq_set ?mq_one ?mq_join ?mq_insert ?mq_least ?mq_without ?mq_merge ?z_isinstance ?z_int ?z_bool ?z_str ?z_tuple ?z_len ?z_list ?z_all ?z_any ?z_zip ?z_range ?z_sorted ?z_repr ?z_enumerate ?z_min ?z_max
    (case a6 => k_is)
    (case l6 => k_is)
    (case c6 => k_is)
    (case k6 => k_is)
    (case a7 => k_is)
    (case l7 => k_is)
    (case c7 => k_is)
    (case k7 => k_is)
    (case a8 => k_is)
    (case l8 => k_is)
    (case c8 => k_is)
    (case k8 => k_is)
    (case a9 => k_is)
    (case l9 => k_is)
    (case c9 => k_is)
    (case k9 => k_is)
    (case a18 => k_is)
    (case l18 => k_is)
    (case c18 => k_is)
    (case k18 => k_is)
    (case a21 => k_is)
    (case l21 => k_is)
    (case c21 => k_is)
    (case k21 => k_is)
    (case a20 => k_is)
    (case l20 => k_is)
    (case c20 => k_is)
    (case k20 => k_is)
    (case a19 => k_is)
    (case l19 => k_is)
    (case c19 => k_is)
    (case k19 => k_is)
    (case a23 => k_is)
    (case l23 => k_is)
    (case c23 => k_is)
    (case k23 => k_is)
    (case a25 => k_is)
    (case l25 => k_is)
    (case c25 => k_is)
    (case k25 => k_is)
    (case a26 => k_is)
    (case l26 => k_is)
    (case c26 => k_is)
    (case k26 => k_is)
    (case a27 => k_is)
    (case l27 => k_is)
    (case c27 => k_is)
    (case k27 => k_is)
    (case a28 => k_is)
    (case l28 => k_is)
    (case c28 => k_is)
    (case k28 => k_is)
    (case a31 => k_is)
    (case l31 => k_is)
    (case c31 => k_is)
    (case k31 => k_is)
    (case a29 => k_is)
    (case l29 => k_is)
    (case c29 => k_is)
    (case k29 => k_is)
    (case a30 => k_is)
    (case l30 => k_is)
    (case c30 => k_is)
    (case k30 => k_is)
    (case a32 => k_is)
    (case l32 => k_is)
    (case c32 => k_is)
    (case k32 => k_is)
    (case a33 => k_is)
    (case l33 => k_is)
    (case c33 => k_is)
    (case k33 => k_is)
    (case a34 => k_is)
    (case l34 => k_is)
    (case c34 => k_is)
    (case k34 => k_is)
    (case a35 => k_is)
    (case l35 => k_is)
    (case c35 => k_is)
    (case k35 => k_is)
    (case a37 => k_is)
    (case l37 => k_is)
    (case c37 => k_is)
    (case k37 => k_is)
    (case a36 => k_is)
    (case l36 => k_is)
    (case c36 => k_is)
    (case k36 => k_is)
    (case a24 => k_is)
    (case l24 => k_is)
    (case c24 => k_is)
    (case k24 => k_is)
    (case a22 => k_is)
    (case l22 => k_is)
    (case c22 => k_is)
    (case k22 => k_is)
    (case a13 => k_is)
    (case l13 => k_is)
    (case c13 => k_is)
    (case k13 => k_is)
    (case a40 => k_is)
    (case l40 => k_is)
    (case c40 => k_is)
    (case k40 => k_is)
    (case a43 => k_is)
    (case l43 => k_is)
    (case c43 => k_is)
    (case k43 => k_is)
    (case a44 => k_is)
    (case l44 => k_is)
    (case c44 => k_is)
    (case k44 => k_is)
    (case a45 => k_is)
    (case l45 => k_is)
    (case c45 => k_is)
    (case k45 => k_is)
    (case a46 => k_is)
    (case l46 => k_is)
    (case c46 => k_is)
    (case k46 => k_is)
    (case a47 => k_is)
    (case l47 => k_is)
    (case c47 => k_is)
    (case k47 => k_is)
    (case a48 => k_is)
    (case l48 => k_is)
    (case c48 => k_is)
    (case k48 => k_is)
    (case a42 => k_is)
    (case l42 => k_is)
    (case c42 => k_is)
    (case k42 => k_is)
    (case a49 => k_is)
    (case l49 => k_is)
    (case c49 => k_is)
    (case k49 => k_is)
    (case qaS => k_is)
    (case qaN => k_is)
    (case qaA => k_is)
    (case qaK => k_is)
    (case qaP => k_is)
    (case qaM => k_is)
    (case tlaS => k_is)
    (case thaS => rfl)
    (case tzaS => decide)
    (case tlaN => k_is)
    (case thaN => rfl)
    (case tzaN => decide)
    (case tlaA => k_is)
    (case thaA => rfl)
    (case tzaA => decide)
    (case dlaK => k_is)
    (case dkaK => ((repeat (refine And.intro ⟨_, _, rfl, rfl⟩ ?_)); exact True.intro))
    (case dwaK => rfl)
    (case dlaP => k_is)
    (case dkaP => ((repeat (refine And.intro ⟨_, _, rfl, rfl⟩ ?_)); exact True.intro))
    (case dwaP => rfl)
    (case dlaM => k_is)
    (case dkaM => ((repeat (refine And.intro ⟨_, _, rfl, rfl⟩ ?_)); exact True.intro))
    (case dwaM => rfl)
    (case rq_queue => k_is)
    (case rl_queue => k_is)
    (case rh_queue => rfl)
    (case rq_deque => k_is)
    (case rl_deque => k_is)
    (case rh_deque => rfl)
    (case rq_list => k_is)
    (case rl_list => k_is)
    (case rh_list => rfl)
    (case rq_joined => k_is)
    (case rl_joined => k_is)
    (case rh_joined => rfl)
    (case rq_heap => k_is)
    (case rl_heap => k_is)
    (case rh_heap => rfl)
    (case pq_empty => k_is)
    (case pl_empty => k_is)
    (case ph_empty => rfl)
    (case pq_put => k_is)
    (case pl_put => k_is)
    (case ph_put => rfl)
    (case pq_first => k_is)
    (case pl_first => k_is)
    (case ph_first => rfl)
    (case pq_rest => k_is)
    (case pl_rest => k_is)
    (case ph_rest => rfl)
    (case pq_front => k_is)
    (case pl_front => k_is)
    (case ph_front => rfl)
    (case pq_back => k_is)
    (case pl_back => k_is)
    (case ph_back => rfl)
    (case pq_last => k_is)
    (case pl_last => k_is)
    (case ph_last => rfl)
    (case pq_init => k_is)
    (case pl_init => k_is)
    (case ph_init => rfl)
    (case pq_cons => k_is)
    (case pl_cons => k_is)
    (case ph_cons => rfl)
    (case pq_head => k_is)
    (case pl_head => k_is)
    (case ph_head => rfl)
    (case pq_tail => k_is)
    (case pl_tail => k_is)
    (case ph_tail => rfl)
    (case pq_look => k_is)
    (case pl_look => k_is)
    (case ph_look => rfl)
    (case pq_set => k_is)
    (case pl_set => k_is)
    (case ph_set => rfl)
    (case pq_one => k_is)
    (case pl_one => k_is)
    (case ph_one => rfl)
    (case pq_join => k_is)
    (case pl_join => k_is)
    (case ph_join => rfl)
    (case pq_insert => k_is)
    (case pl_insert => k_is)
    (case ph_insert => rfl)
    (case pq_least => k_is)
    (case pl_least => k_is)
    (case ph_least => rfl)
    (case pq_without => k_is)
    (case pl_without => k_is)
    (case ph_without => rfl)
    (case pq_merge => k_is)
    (case pl_merge => k_is)
    (case ph_merge => rfl)
    (case mq_empty => k_is)
    (case mq_put => k_is)
    (case mq_first => k_is)
    (case mq_rest => k_is)
    (case mq_front => k_is)
    (case mq_back => k_is)
    (case mq_last => k_is)
    (case mq_init => k_is)
    (case mq_cons => k_is)
    (case mq_head => k_is)
    (case mq_tail => k_is)
    (case mq_look => k_is)
    (case mq_set => k_is)
    (case mq_one => k_is)
    (case mq_join => k_is)
    (case mq_insert => k_is)
    (case mq_least => k_is)
    (case mq_without => k_is)
    (case mq_merge => k_is)
    (case z_isinstance => k_is)
    (case z_int => k_is)
    (case z_bool => k_is)
    (case z_str => k_is)
    (case z_tuple => k_is)
    (case z_len => k_is)
    (case z_list => k_is)
    (case z_all => k_is)
    (case z_any => k_is)
    (case z_zip => k_is)
    (case z_range => k_is)
    (case z_sorted => k_is)
    (case z_repr => k_is)
    (case z_enumerate => k_is)
    (case z_min => k_is)
    (case z_max => k_is)
#print axioms PySem.Challenge.cw_debtsheld_k59_whole_branched_worlds_holds
