import PyProof.Rows.All
import Wide.All
import OpenK.AllK
import Wide.FinOn
import PyProof.ReprReads
import PyProof.ReprRoads
import HandS.ForMost
import HandS.ForExc
import HandS.Wide
import HandS.Style
import HandS.TupAny
import HandS.Evl
import HandS.IsInst
import HandS.Exc
import HandS.ExcInit
import KE.KExcInit
import KE.KExcIs
import HandS.ExcField
import HandS.TryMany
import PySem.Challenge.RW_debtsheld_k00_errors_by_position_and_nam
/-! DhA -/
set_option Elab.async false
set_option linter.all false
set_option maxRecDepth 100000
set_option maxHeartbeats 2000000
namespace Dh
open PySem PySem.Spec PyProof.Rows L2

/-! ### data that stand in the abstract heap, apart from the addresses at M -/
def keyD : Key → PyData
  | .inl i => .int i
  | .inr x => .str x
mutual
inductive At (K : PySem.W.Frag) (M : List Addr) (H : Hp) : V → PyData → Prop
  | non : At K M H .non .none
  | bl (b : Bool) : At K M H (.bl b) (.bool b)
  | int (i : Int) : At K M H (.int i) (.int i)
  | str (x : Str) : At K M H (.str x) (.str x)
  | lst {a : Addr} {xs : List V} {ds : List PyData} : SqL K H a xs → a ∉ M → AtL K M H xs ds → At K M H (.ref a) (.list ds)
  | tup {a : Addr} {xs : List V} {ds : List PyData} : SqT K H a xs → a ∉ M → AtL K M H xs ds → At K M H (.ref a) (.tuple ds)
  | dic {a : Addr} {kvs : List (Key × V)} {es : List (PyData × PyData)} : H a = some (.dK kvs) → a ∉ M → AtK K M H kvs es → At K M H (.ref a) (.dict es)
inductive AtL (K : PySem.W.Frag) (M : List Addr) (H : Hp) : List V → List PyData → Prop
  | nil : AtL K M H [] []
  | cons {v : V} {vs : List V} {d : PyData} {ds : List PyData} : At K M H v d → AtL K M H vs ds → AtL K M H (v :: vs) (d :: ds)
inductive AtK (K : PySem.W.Frag) (M : List Addr) (H : Hp) : List (Key × V) → List (PyData × PyData) → Prop
  | nil : AtK K M H [] []
  | cons {k : Key} {v : V} {kvs : List (Key × V)} {d : PyData} {es : List (PyData × PyData)} : At K M H v d → AtK K M H kvs es → AtK K M H ((k, v) :: kvs) ((keyD k, d) :: es)
end

/-- all that was tracked apart from M stands as it stood -/
def Kp (M : List Addr) (H H' : Hp) : Prop := ∀ b o, H b = some o → b ∉ M → H' b = some o
theorem Kp.refl (M : List Addr) (H : Hp) : Kp M H H := fun _ _ e _ => e
theorem Kp.trans {M : List Addr} {H H1 H2 : Hp} (a : Kp M H H1) (b : Kp M H1 H2) : Kp M H H2 := fun c o e n => b c o (a c o e n) n
theorem Kp.more {M M' : List Addr} {H H' : Hp} (a : Kp M H H') (h : ∀ b ∈ M, b ∈ M') : Kp M' H H' := fun c o e n => a c o e fun z => n (h c z)
theorem Kp.new {M : List Addr} {H : Hp} {p : Addr} {o : HO} (h : H p = none) : Kp M H (upd H p o) := fun c u e _ => by
  rw [upd_ne (ne_of_none e h)]; exact e
theorem Kp.put {M : List Addr} {H : Hp} {p : Addr} {o : HO} (h : p ∈ M) : Kp M H (upd H p o) := fun c u e n => by
  rw [upd_ne (by intro z; rw [z] at n; exact n h)]; exact e
theorem Kp.sqL {K : PySem.W.Frag} {M : List Addr} {H H' : Hp} {a : Addr} {xs : List V} (k : Kp M H H') (n : a ∉ M) (h : SqL K H a xs) : SqL K H' a xs := by
  rcases h with (h | ⟨o, h⟩) | h
  · exact .inl (.inl (k _ _ h n))
  · exact .inl (.inr ⟨o, k _ _ h n⟩)
  · exact .inr h
theorem Kp.sqT {K : PySem.W.Frag} {M : List Addr} {H H' : Hp} {a : Addr} {xs : List V} (k : Kp M H H') (n : a ∉ M) (h : SqT K H a xs) : SqT K H' a xs := by
  rcases h with (h | ⟨o, h⟩) | h
  · exact .inl (.inl (k _ _ h n))
  · exact .inl (.inr ⟨o, k _ _ h n⟩)
  · exact .inr h

section
variable {K : PySem.W.Frag} {M M' : List Addr} {H H' : Hp}
mutual
theorem At.kp (k : Kp M H H') : ∀ (d : PyData) {v : V}, At K M H v d → At K M H' v d
  | .none, _, h => by cases h; exact .non
  | .bool b, _, h => by cases h; exact .bl b
  | .int i, _, h => by cases h; exact .int i
  | .str x, _, h => by cases h; exact .str x
  | .list ds, _, h => by
    cases h with
    | lst h1 h2 h3 => exact .lst (k.sqL h2 h1) h2 (AtL.kp k ds h3)
  | .tuple ds, _, h => by
    cases h with
    | tup h1 h2 h3 => exact .tup (k.sqT h2 h1) h2 (AtL.kp k ds h3)
  | .dict es, _, h => by
    cases h with
    | dic h1 h2 h3 => exact .dic (k _ _ h1 h2) h2 (AtK.kp k es h3)
theorem AtL.kp (k : Kp M H H') : ∀ (ds : List PyData) {vs : List V}, AtL K M H vs ds → AtL K M H' vs ds
  | [], _, h => by cases h; exact .nil
  | d :: ds, _, h => by
    cases h with
    | cons h1 h2 => exact .cons (At.kp k d h1) (AtL.kp k ds h2)
theorem AtK.kp (k : Kp M H H') : ∀ (es : List (PyData × PyData)) {kvs : List (Key × V)}, AtK K M H kvs es → AtK K M H' kvs es
  | [], _, h => by cases h; exact .nil
  | (_, d) :: es, _, h => by
    cases h with
    | cons h1 h2 => exact .cons (At.kp k d h1) (AtK.kp k es h2)
end
mutual
theorem At.less (k : ∀ b ∈ M', b ∈ M) : ∀ (d : PyData) {v : V}, At K M H v d → At K M' H v d
  | .none, _, h => by cases h; exact .non
  | .bool b, _, h => by cases h; exact .bl b
  | .int i, _, h => by cases h; exact .int i
  | .str x, _, h => by cases h; exact .str x
  | .list ds, _, h => by
    cases h with
    | lst h1 h2 h3 => exact .lst h1 (fun z => h2 (k _ z)) (AtL.less k ds h3)
  | .tuple ds, _, h => by
    cases h with
    | tup h1 h2 h3 => exact .tup h1 (fun z => h2 (k _ z)) (AtL.less k ds h3)
  | .dict es, _, h => by
    cases h with
    | dic h1 h2 h3 => exact .dic h1 (fun z => h2 (k _ z)) (AtK.less k es h3)
theorem AtL.less (k : ∀ b ∈ M', b ∈ M) : ∀ (ds : List PyData) {vs : List V}, AtL K M H vs ds → AtL K M' H vs ds
  | [], _, h => by cases h; exact .nil
  | d :: ds, _, h => by
    cases h with
    | cons h1 h2 => exact .cons (At.less k d h1) (AtL.less k ds h2)
theorem AtK.less (k : ∀ b ∈ M', b ∈ M) : ∀ (es : List (PyData × PyData)) {kvs : List (Key × V)}, AtK K M H kvs es → AtK K M' H kvs es
  | [], _, h => by cases h; exact .nil
  | (_, d) :: es, _, h => by
    cases h with
    | cons h1 h2 => exact .cons (At.less k d h1) (AtK.less k es h2)
end
theorem AtL.get : ∀ {vs : List V} {ds : List PyData}, AtL K M H vs ds → ∀ {i : Nat} {v : V}, vs[i]? = some v → ∃ d, ds[i]? = some d ∧ At K M H v d
  | _, _, .nil, _, _, e => by simp at e
  | _, _, .cons h _, 0, _, e => by
    simp at e; subst e
    exact ⟨_, rfl, h⟩
  | _, _, .cons _ h, i + 1, v, e => by
    obtain ⟨d, h1, h2⟩ := AtL.get h (i := i) (v := v) (by simpa using e)
    exact ⟨d, by simpa using h1, h2⟩
theorem AtL.length : ∀ {vs : List V} {ds : List PyData}, AtL K M H vs ds → vs.length = ds.length
  | _, _, .nil => rfl
  | _, _, .cons _ h => by simp [AtL.length h]
theorem AtL.append : ∀ {vs ws : List V} {ds es : List PyData}, AtL K M H vs ds → AtL K M H ws es → AtL K M H (vs ++ ws) (ds ++ es)
  | _, _, _, _, .nil, h => h
  | _, _, _, _, .cons a b, h => .cons a (AtL.append b h)
theorem AtL.take : ∀ (n : Nat) {vs : List V} {ds : List PyData}, AtL K M H vs ds → AtL K M H (vs.take n) (ds.take n)
  | 0, _, _, _ => by simp; exact .nil
  | n + 1, _, _, .nil => .nil
  | n + 1, _, _, .cons a b => .cons a (AtL.take n b)
theorem AtL.drop : ∀ (n : Nat) {vs : List V} {ds : List PyData}, AtL K M H vs ds → AtL K M H (vs.drop n) (ds.drop n)
  | 0, _, _, h => h
  | n + 1, _, _, .nil => .nil
  | n + 1, _, _, .cons a b => AtL.drop n b
theorem AtL.strs : ∀ (xs : List Str), AtL K M H (xs.map V.str) (xs.map PyData.str)
  | [] => .nil
  | x :: r => .cons (.str x) (AtL.strs r)
end

/-! ### repr of such data -/
theorem ReprEntriesK_more {prog : Program} {w : World} {h : Heap} {as bs : List Addr} {d e : Nat} (hs : ∀ b ∈ as, b ∈ bs) (hd : d ≤ e) : ∀ {es : List DictEntry} {ps : List Str}, ReprEntriesK prog w as h d es ps → ReprEntriesK prog w bs h e es ps
  | _, _, .nil => .nil
  | _, _, .cons a b c => .cons ((a.more hs).level_le hd) ((b.more hs).level_le hd) (ReprEntriesK_more hs hd c)
section
variable {X : Cx} {pins : List (Addr × Obj)} {σ : L2.St} {H : Hp} {s : Shared} {M : List Addr}
theorem key_reads {h : Heap} {k : Key} {v : Value} (e : keyIs k v = true) : Reads h v (keyD k) [] := by
  rcases keyIs_shape e with ⟨i, t, rfl, rfl⟩ | ⟨x, t, rfl, rfl⟩
  · exact Reads.int i t
  · exact Reads.str x t
mutual
theorem At.reads (I : Inv X pins σ H s) : ∀ (d : PyData) (v : V) (u : Value), At X.K M H v d → RelV v u → ∃ as, Reads s.heap u d as
  | .none, _, _, h, r => by
    cases h; cases r
    exact ⟨_, Reads.none⟩
  | .bool b, _, _, h, r => by
    cases h; cases r
    exact ⟨_, Reads.bool b⟩
  | .int i, _, _, h, r => by
    cases h
    obtain ⟨t, rfl⟩ := r
    exact ⟨_, Reads.int i t⟩
  | .str x, _, _, h, r => by
    cases h
    obtain ⟨t, rfl⟩ := r
    exact ⟨_, Reads.str x t⟩
  | .list ds, _, _, h, r => by
    cases h with
    | lst hs _ ha =>
      cases r
      obtain ⟨its, rv, ⟨o, n, ho, hc, _, hd⟩, _⟩ := I.list hs
      obtain ⟨as, hr⟩ := AtL.reads I ds _ its ha rv
      exact ⟨_, Reads.list ho hc hd hr⟩
  | .tuple ds, _, _, h, r => by
    cases h with
    | tup hs _ ha =>
      cases r
      obtain ⟨its, rv, ⟨o, ho, hc, n, hd⟩, _⟩ := I.tuple hs
      obtain ⟨as, hr⟩ := AtL.reads I ds _ its ha rv
      exact ⟨_, Reads.tuple ho hc hd hr⟩
  | .dict es, _, _, h, r => by
    cases h with
    | dic hs _ ha =>
      cases r
      obtain ⟨_, _, vs, rv, o, ents, ep, ho, hx, hd, _, hp, _⟩ := I.hok _ _ hs
      obtain ⟨as, bs, h1, h2⟩ := AtK.reads I es _ vs ents.toList ha rv hp
      exact ⟨_, Reads.dict ho hx.1 hd h1 h2⟩
theorem AtL.reads (I : Inv X pins σ H s) : ∀ (ds : List PyData) (vs : List V) (us : List Value), AtL X.K M H vs ds → Vals vs us → ∃ as, ReadsAll s.heap us ds as
  | [], _, _, h, r => by
    cases h; cases r
    exact ⟨_, ReadsAll.nil⟩
  | d :: ds, _, _, h, r => by
    cases h with
    | cons h1 h2 =>
      cases r with
      | cons r1 r2 =>
        obtain ⟨as, q1⟩ := At.reads I d _ _ h1 r1
        obtain ⟨bs, q2⟩ := AtL.reads I ds _ _ h2 r2
        exact ⟨_, ReadsAll.cons q1 q2⟩
theorem AtK.reads (I : Inv X pins σ H s) : ∀ (es : List (PyData × PyData)) (kvs : List (Key × V)) (vs : List (Key × Value)) (ents : List DictEntry), AtK X.K M H kvs es → KV kvs vs → Pairs (mixKind X.prog X.w) ents vs →
    ∃ as bs, ReadsAll s.heap (ents.map (·.key)) (es.map (·.1)) as ∧ ReadsAll s.heap (ents.map (·.val)) (es.map (·.2)) bs
  | [], _, _, _, h, r, p => by
    cases h; cases r; cases p
    exact ⟨_, _, ReadsAll.nil, ReadsAll.nil⟩
  | (_, d) :: es, _, _, _, h, r, p => by
    cases h with
    | cons h1 h2 =>
      cases r with
      | cons r1 r2 =>
        cases p with
        | cons p1 p2 p3 =>
          obtain ⟨as, bs, q1, q2⟩ := AtK.reads I es _ _ _ h2 r2 p3
          obtain ⟨cs, q3⟩ := At.reads I d _ _ h1 r1.2
          have e1 := r1.1
          rw [← p2] at q3
          refine ⟨_, _, ReadsAll.cons (key_reads ?_) q1, ReadsAll.cons q3 q2⟩
          have p1' : keyIs _ _ = true := p1
          rw [← e1] at p1'
          exact p1'
end

theorem key_shown {h : Heap} {k : Key} {v : Value} (prog : Program) (w : World) (e : keyIs k v = true) (hs : (keyD k).showable = true) (hz : (keyD k).shown.length ≤ sizeLine) : ReprIs prog w v (keyD k).shown := by
  rcases keyIs_shape e with ⟨i, t, rfl, rfl⟩ | ⟨x, t, rfl, rfl⟩
  · simp only [keyD, PyData.shown]
    exact ReprIs.int t (by simpa [keyD, PyData.showable] using hs)
  · simp only [keyD, PyData.shown]
    exact ReprIs.str x t (by simpa only [keyD, PyData.shown] using hz)
theorem kv_line {es : List (PyData × PyData)} (hz : (dictText (PyData.shownKv es)).length ≤ sizeLine) : ∀ p ∈ PyData.shownKv es, p.length ≤ sizeLine :=
  fun p hp => Nat.le_trans (dictText_mem_le hp) hz
mutual
/-- the text of such data, and what is read for it -/
theorem At.rk (I : Inv X pins σ H s) : ∀ (d : PyData) (v : V) (u : Value), At X.K M H v d → RelV v u → d.showable = true → d.shown.length ≤ sizeLine →
    ∃ bs, ReadAtMost s.heap d.depth bs ∧ ReprK X.prog X.w bs s.heap d.depth u d.shown
  | .none, _, _, h, r, _, _ => by
    cases h; cases r
    exact ⟨[], (fun _ z => nomatch z), by simp only [PyData.shown]; exact .of_is ReprIs.none _ _ _⟩
  | .bool b, _, _, h, r, _, _ => by
    cases h; cases r
    exact ⟨[], (fun _ z => nomatch z), by simp only [PyData.shown]; exact .of_is (ReprIs.bool b) _ _ _⟩
  | .int i, _, _, h, r, hs, _ => by
    cases h
    obtain ⟨t, rfl⟩ := r
    exact ⟨[], (fun _ z => nomatch z), by simp only [PyData.shown]; exact .of_is (ReprIs.int t (by simpa [PyData.showable] using hs)) _ _ _⟩
  | .str x, _, _, h, r, _, hz => by
    cases h
    obtain ⟨t, rfl⟩ := r
    exact ⟨[], (fun _ z => nomatch z), by simp only [PyData.shown]; exact .of_is (ReprIs.str x t (by simpa only [PyData.shown] using hz)) _ _ _⟩
  | .list ds, v, u, h, r, hs, hz => by
    have h' := h
    cases h with
    | lst hq _ ha =>
      cases r
      obtain ⟨as, rd⟩ := At.reads I (.list ds) _ _ h' rfl
      obtain ⟨its, rv, ⟨o, n, ho, hc, _, hd⟩, _⟩ := I.list hq
      have hz' : (listText (PyData.shownAll ds)).length ≤ sizeLine := by simpa only [PyData.shown] using hz
      obtain ⟨bs, hb, hk⟩ := AtL.rk I ds _ its ha rv (by simpa [PyData.showable] using hs) (fun t ht => Nat.le_trans (listText_mem_le ht) hz')
      have hna := not_mem_of_deeper rd (by simp only [PyData.depth]; omega) hb
      refine ⟨_, ReadAtMost.cons rd (by simp only [PyData.depth]; omega) hb, ?_⟩
      simp only [PyData.depth, PyData.shown]
      cases its with
      | nil =>
        cases rv
        cases ha
        simp only [PyData.shownAll, listText_nil]
        exact ReprK.listEmpty ho hc hd
      | cons x l => exact ReprK.list ho hc hd hna (by simpa using hk.length_eq) (fun i y e => hk.item i y (by simpa using e))
  | .tuple ds, v, u, h, r, hs, hz => by
    have h' := h
    cases h with
    | tup hq _ ha =>
      cases r
      obtain ⟨as, rd⟩ := At.reads I (.tuple ds) _ _ h' rfl
      obtain ⟨its, rv, ⟨o, ho, hc, n, hd⟩, _⟩ := I.tuple hq
      have hz' : (tupleText (PyData.shownAll ds)).length ≤ sizeLine := by simpa only [PyData.shown] using hz
      obtain ⟨bs, hb, hk⟩ := AtL.rk I ds _ its ha rv (by simpa [PyData.showable] using hs) (fun t ht => Nat.le_trans (tupleText_mem_le ht) hz')
      have hna := not_mem_of_deeper rd (by simp only [PyData.depth]; omega) hb
      refine ⟨_, ReadAtMost.cons rd (by simp only [PyData.depth]; omega) hb, ?_⟩
      simp only [PyData.depth, PyData.shown]
      exact ReprK.tuple ho hc hd hna hk
  | .dict es, v, u, h, r, hs, hz => by
    have h' := h
    cases h with
    | dic hq _ ha =>
      cases r
      obtain ⟨as, rd⟩ := At.reads I (.dict es) _ _ h' rfl
      obtain ⟨_, hsys, vs, rv, o, ents, ep, ho, hx, hd, _, hp, _⟩ := I.hok _ _ hq
      have hz' : (dictText (PyData.shownKv es)).length ≤ sizeLine := by simpa only [PyData.shown] using hz
      obtain ⟨bs, hb, hk⟩ := AtK.rk I es _ vs ents.toList ha rv hp (by simpa [PyData.showable] using hs) (kv_line hz')
      have hna := not_mem_of_deeper rd (by simp only [PyData.depth]; omega) hb
      refine ⟨_, ReadAtMost.cons rd (by simp only [PyData.depth]; omega) hb, ?_⟩
      simp only [PyData.depth, PyData.shown]
      exact ReprK.dict ho hx.1 hd hsys hna hk
theorem AtL.rk (I : Inv X pins σ H s) : ∀ (ds : List PyData) (vs : List V) (us : List Value), AtL X.K M H vs ds → Vals vs us → PyData.showableAll ds = true → (∀ t ∈ PyData.shownAll ds, t.length ≤ sizeLine) →
    ∃ bs, ReadAtMost s.heap (PyData.depthAll ds) bs ∧ ReprAllK X.prog X.w bs s.heap (PyData.depthAll ds) us (PyData.shownAll ds)
  | [], _, _, h, r, _, _ => by
    cases h; cases r
    exact ⟨[], (fun _ z => nomatch z), by simp only [PyData.shownAll]; exact .nil⟩
  | d :: ds, _, _, h, r, hs, hz => by
    cases h with
    | cons h1 h2 =>
      cases r with
      | cons r1 r2 =>
        have hs' : d.showable = true ∧ PyData.showableAll ds = true := by simpa [PyData.showableAll] using hs
        obtain ⟨b1, q1, k1⟩ := At.rk I d _ _ h1 r1 hs'.1 (hz _ (by simp only [PyData.shownAll]; exact List.mem_cons_self ..))
        obtain ⟨b2, q2, k2⟩ := AtL.rk I ds _ _ h2 r2 hs'.2 (fun t ht => hz t (by simp only [PyData.shownAll]; exact List.mem_cons_of_mem _ ht))
        have e1 : d.depth ≤ PyData.depthAll (d :: ds) := by simp only [PyData.depthAll]; omega
        have e2 : PyData.depthAll ds ≤ PyData.depthAll (d :: ds) := by simp only [PyData.depthAll]; omega
        refine ⟨b1 ++ b2, (q1.mono e1).append (q2.mono e2), ?_⟩
        simp only [PyData.shownAll]
        exact .cons ((k1.more fun b hb => List.mem_append_left _ hb).level_le e1) (k2.more_le (fun b hb => List.mem_append_right _ hb) e2)
theorem AtK.rk (I : Inv X pins σ H s) : ∀ (es : List (PyData × PyData)) (kvs : List (Key × V)) (vs : List (Key × Value)) (ents : List DictEntry), AtK X.K M H kvs es → KV kvs vs → Pairs (mixKind X.prog X.w) ents vs →
    PyData.showableKv es = true → (∀ p ∈ PyData.shownKv es, p.length ≤ sizeLine) → ∃ bs, ReadAtMost s.heap (PyData.depthKv es) bs ∧ ReprEntriesK X.prog X.w bs s.heap (PyData.depthKv es) ents (PyData.shownKv es)
  | [], _, _, _, h, r, p, _, _ => by
    cases h; cases r; cases p
    exact ⟨[], (fun _ z => nomatch z), by simp only [PyData.shownKv]; exact .nil⟩
  | (kd, d) :: es, _, _, _, h, r, p, hs, hz => by
    cases h with
    | cons h1 h2 =>
      cases r with
      | cons r1 r2 =>
        cases p with
        | cons p1 p2 p3 =>
          rename_i k v kvs kv' vs' e ents
          have hs' : ((keyD k).showable = true ∧ d.showable = true) ∧ PyData.showableKv es = true := by simpa [PyData.showableKv] using hs
          have hzp := hz _ (by simp only [PyData.shownKv]; exact List.mem_cons_self ..)
          have hl : ((keyD k).shown ++ ": " ++ d.shown).length = (keyD k).shown.length + 2 + d.shown.length := by
            rw [strLen_append, strLen_append]; rfl
          rw [hl] at hzp
          obtain ⟨b1, q1, k1⟩ := At.rk I d _ _ h1 r1.2 hs'.1.2 (by omega)
          obtain ⟨b2, q2, k2⟩ := AtK.rk I es _ _ _ h2 r2 p3 hs'.2 (fun t ht => hz t (by simp only [PyData.shownKv]; exact List.mem_cons_of_mem _ ht))
          have e1 : d.depth ≤ PyData.depthKv ((keyD k, d) :: es) := by simp only [PyData.depthKv]; omega
          have e2 : PyData.depthKv es ≤ PyData.depthKv ((keyD k, d) :: es) := by simp only [PyData.depthKv]; omega
          refine ⟨b1 ++ b2, (q1.mono e1).append (q2.mono e2), ?_⟩
          simp only [PyData.shownKv]
          have p1' : keyIs k e.key = true := by
            have z : keyIs kv'.1 e.key = true := p1
            have e1 : k = kv'.1 := r1.1
            rw [e1]; exact z
          refine .cons (.of_is (key_shown (h := s.heap) _ _ p1' hs'.1.1 (by omega)) _ _ _) ?_ ?_
          · rw [p2]
            exact (k1.more fun b hb => List.mem_append_left _ hb).level_le e1
          · exact ReprEntriesK_more (fun b hb => List.mem_append_right _ hb) e2 k2
end
/-- repr(v), v data; no repr runs around -/
theorem call_repr_At (hG : X.A.guards = some []) (hu : X.A.units + 70 < cLine) : CallR X (.builtin "repr") (fun xs H Q => ∃ (M : List Addr) (v : V) (d : PyData), xs = [v] ∧ At X.K M H v d ∧ d.showable = true ∧ d.depth ≤ 60 ∧ d.shown.length ≤ sizeLine ∧ Q (.str d.shown) H) := by
  intro pins s σ H xs us Q I r h
  obtain ⟨M, v, d, rfl, ha, hs, hd, hz, q⟩ := h
  obtain ⟨u, rfl, ru⟩ := vals1 r
  have fin : ∀ h' tk t, (∀ b o, s.heap.get? b = some o → h'.get? b = some o) → EP X pins σ Q (.str d.shown t) { s with heap := h', toks := tk } :=
    fun h' tk t k => ⟨.str d.shown, H, I.kept k, ⟨t, rfl⟩, q⟩
  have h' := ha
  cases ha with
  | non =>
    cases ru
    exact PySem.P.repr_of_none (fin _ _ _ fun _ _ e => e)
  | bl b =>
    cases ru
    refine PySem.P.repr_of_bool ?_
    have z := fin s.heap (s.toks + 1) s.toks fun _ _ e => e
    simp only [PyData.shown] at z
    exact z
  | int i =>
    obtain ⟨t, rfl⟩ := ru
    refine PySem.P.repr_of_int (by simpa [PyData.showable] using hs) ?_
    have z := fin s.heap (s.toks + 1) s.toks fun _ _ e => e
    simp only [PyData.shown] at z
    exact z
  | str x =>
    obtain ⟨t, rfl⟩ := ru
    refine PySem.P.repr_of_str ?_ (by simpa only [PyData.shown] using hz)
    have z := fin s.heap (s.toks + 1) s.toks fun _ _ e => e
    simp only [PyData.shown] at z
    exact z
  | @lst a xs ds hq hn hl =>
    cases ru
    obtain ⟨as, rd⟩ := At.reads I (.list ds) _ _ h' rfl
    obtain ⟨its, rv, ⟨o, n, ho, hc, _, hdt⟩, _⟩ := I.list hq
    have hz' : (listText (PyData.shownAll ds)).length ≤ sizeLine := by simpa only [PyData.shown] using hz
    obtain ⟨bs, hb, hk⟩ := AtL.rk I ds _ its hl rv (by simpa [PyData.showable] using hs) (fun t ht => Nat.le_trans (listText_mem_le ht) hz')
    have hna := not_mem_of_deeper rd (by simp only [PyData.depth]; omega) hb
    simp only [PyData.depth] at hd
    simp only [PyData.shown] at fin
    refine call_repr_slot (by omega) ⟨o, ho, hc⟩ F.slot_list_repr.toG ?_
    cases its with
    | nil =>
      cases rv
      cases hl
      simp only [PyData.shownAll, listText_nil] at fin
      exact call_list_repr_empty ⟨o, ho, hc⟩ ho hdt ⟨_, _, rfl, fin s.heap _ _ fun _ _ e => e⟩
    | cons x l =>
      exact call_list_reprK ho hc hdt hna (by simpa using hk.length_eq) (fun i y e => hk.item i y (by simpa using e)) hG (fun b _ => Clear.nil b) (by show X.A.units + 1 + (_ + 1) < cLine; omega) (fun _ _ e => e) (fun h' u tk k => ⟨_, _, rfl, fin h' tk u k⟩) hz'
  | @tup a xs ds hq hn hl =>
    cases ru
    obtain ⟨as, rd⟩ := At.reads I (.tuple ds) _ _ h' rfl
    obtain ⟨its, rv, ⟨o, ho, hc, n, hdt⟩, _⟩ := I.tuple hq
    have hz' : (tupleText (PyData.shownAll ds)).length ≤ sizeLine := by simpa only [PyData.shown] using hz
    obtain ⟨bs, hb, hk⟩ := AtL.rk I ds _ its hl rv (by simpa [PyData.showable] using hs) (fun t ht => Nat.le_trans (tupleText_mem_le ht) hz')
    have hna := not_mem_of_deeper rd (by simp only [PyData.depth]; omega) hb
    simp only [PyData.depth] at hd
    simp only [PyData.shown] at fin
    refine call_repr_slot (by omega) ⟨o, ho, hc⟩ F.slot_tuple_repr ?_
    exact call_tuple_reprK ho hc hdt hna hk hG (fun b _ => Clear.nil b) (by show X.A.units + 1 + (_ + 1) < cLine; omega) (fun _ _ e => e) (fun h' u tk k => ⟨_, _, rfl, fin h' tk u k⟩) hz'
  | @dic a kvs es hq hn hl =>
    cases ru
    obtain ⟨as, rd⟩ := At.reads I (.dict es) _ _ h' rfl
    obtain ⟨_, hsys, vs, rv, o, ents, ep, ho, hx, hdt, _, hp, _⟩ := I.hok _ _ hq
    have hz' : (dictText (PyData.shownKv es)).length ≤ sizeLine := by simpa only [PyData.shown] using hz
    obtain ⟨bs, hb, hk⟩ := AtK.rk I es _ vs ents.toList hl rv hp (by simpa [PyData.showable] using hs) (kv_line hz')
    have hna := not_mem_of_deeper rd (by simp only [PyData.depth]; omega) hb
    simp only [PyData.depth] at hd
    simp only [PyData.shown] at fin
    refine call_repr_slot (by omega) ⟨o, ho, hx.1⟩ F.slot_dict_repr ?_
    exact call_dict_reprK ho hx.1 hdt hsys hna hk hG (fun b _ => Clear.nil b) (by show X.A.units + 1 + (_ + 1) < cLine; omega) (fun _ _ e => e) (fun h' u tk k => ⟨_, _, rfl, fin h' tk u k⟩) hz'
end
end Dh

/-! DhB -/
set_option Elab.async false
set_option linter.all false
set_option maxRecDepth 100000
set_option maxHeartbeats 2000000
namespace Dh
open PySem PySem.Spec PyProof.Rows L2

/-! ### defs that are called where no repr runs -/
structure FnG (P : Program) (w : World) (K : PySem.W.Frag) (mg : Str → Option Value) (base : Heap) (cx : CXT) (k : Nat) (f : Addr) (fd : FuncData) (ps : List Str) (sp : Sp) : Prop where
  ln : ∀ vs H Q E, sp vs H Q E → vs.length = ps.length
  go : ∀ (A : Around) (outer : List Env) (s : Shared) (H : Hp) (args : Args) (us : List Value) (vs : List V) (Q : VK) (E : XK),
    A.guards = some [] → Room k A → Env0 P w K mg base A outer s H → BindsTo s fd args (ps.zip us) → Vals vs us → sp vs H Q E →
    codeAny (model P w) A (.call (.ref f) args) (CR cx outer P w H s Q E) s

section
variable {P : Program} {w : World} {K : PySem.W.Frag} {mg : Str → Option Value} {base : Heap} {cx : CXT}
/-- its body, run at an entry where no repr runs -/
theorem FnG.by_body {x qual : Str} {st : Stmt} {f : Addr} {fd : FuncData} {N ps : List Str} {k : Nat} {sp : Sp} (F : Fun K x qual st f fd) (S : FnScope N ps (defScope st))
    (ln : ∀ vs H Q E, sp vs H Q E → vs.length = ps.length)
    (run : ∀ (cdv : Value) (A : Around) (outer : List Env) (s : Shared) (H : Hp) (vs : List V) (Q : VK) (E : XK),
      (A.deeper (envOfC qual (defScope st) s.heap.objs.size f cdv)).guards = some [] → Room k (A.deeper (envOfC qual (defScope st) s.heap.objs.size f cdv)) → sp vs H Q E →
      ∃ t, PSs (cxOf cx P w K mg base N qual (defScope st) f cdv A outer s H E) (defBody st) t ∧ t { nx := fun _ H' => Q .non H', rt := Q } (start N vs) H) :
    FnG P w K mg base cx (k + 1) f fd ps sp := by
  obtain ⟨oc, od, kV, doc, pm, an, cdv, ct, osl, rfl, at_f, code⟩ := F.ex
  refine ⟨ln, ?_⟩
  intro A outer s H args us vs Q E noG room ent binds rel want
  have stays : ∀ b o, base.get? b = some o → s.heap.get? b = some o := fun b o e => (ent.bs b o e).1
  have inK : K.In s.heap := ent.mod.kin.keeps stays
  refine codeAny_call_function room.depth (inK _ _ at_f) rfl S.co S.gen rfl (PySem.W.codeRec_of inK code) (binds _ _ _ _ ?_)
  refine wpAny_newFunctionEnv_cells S.kind (fun y hy => ?_) (fun env he s1 made => ?_)
  · obtain ⟨n, v⟩ := y
    have := S.par n (List.of_mem_zip hy).1
    rcases this with q | q
    · exact .inl q
    · exact .inr ⟨q, PySem.W.cellsFrom_some _ _ _ (.inl q)⟩
  · subst he
    refine ⟨(ent.mod.nolimit.keeps stays).keeps made.toInCall.keep, codeAny_func ?_⟩
    have noG' : (A.deeper (envOfC qual (defScope st) s.heap.objs.size f cdv)).guards = some [] := noG
    obtain ⟨t, body, q⟩ := run cdv A outer s H vs Q E noG' (room.deeper _) want
    have I0 := inv_start (CX := cx) (E := E) (N := N) S room.hd ent (ln _ _ _ _ want) rel made
    refine wpAny_mono (body.run [] s1 (start N vs) H _ I0 q) ?_ (fun e s' z => z)
    intro fl s' out
    cases fl with
    | ret u =>
      obtain ⟨v, σ', H', J, r', q'⟩ := out
      exact ⟨v, H', J.os, J.bare, J.base, J.hok, r', q'⟩
    | next =>
      obtain ⟨σ', H', J, q'⟩ := out
      exact ⟨V.non, H', J.os, J.bare, J.base, J.hok, rfl, q'⟩
    | brk => obtain ⟨_, _, _, z⟩ := out; exact z.elim
    | cont => obtain ⟨_, _, _, z⟩ := out; exact z.elim

/-- as by_body, where nothing that is raised leaves -/
theorem FnG.by0 {x qual : Str} {st : Stmt} {f : Addr} {fd : FuncData} {N ps : List Str} {k : Nat} {sp : Sp} (F : Fun K x qual st f fd) (S : FnScope N ps (defScope st))
    (ln : ∀ vs H Q E, sp vs H Q E → vs.length = ps.length)
    (run : ∀ (cdv : Value) (A : Around) (outer : List Env) (s : Shared) (H : Hp) (vs : List V) (Q : VK) (E : XK),
      (A.deeper (envOfC qual (defScope st) s.heap.objs.size f cdv)).guards = some [] → Room k (A.deeper (envOfC qual (defScope st) s.heap.objs.size f cdv)) → sp vs H Q E →
      ∃ t, PSs (cxOf CX0 P w K mg base N qual (defScope st) f cdv A outer s H E).nox (defBody st) t ∧ t { nx := fun _ H' => Q .non H', rt := Q } (start N vs) H) :
    FnG P w K mg base CX0 (k + 1) f fd ps sp :=
  FnG.by_body F S ln fun cdv A outer s H vs Q E g r h => by
    obtain ⟨t, a, b⟩ := run cdv A outer s H vs Q E g r h
    exact ⟨t, a.nox, b⟩

theorem FnOk.toG {k : Nat} {f : Addr} {fd : FuncData} {ps : List Str} {sp : Sp} (F : FnOk P w K mg base cx k f fd ps sp) : FnG P w K mg base cx k f fd ps sp :=
  ⟨F.len, fun A outer s H args us vs Q E _ => F.run A outer s H args us vs Q E⟩
end

section
variable {X : Cx} {cx : CXT} {k : Nat} {f : Addr} {fd : FuncData} {ps : List Str} {sp : Sp} {E : XK} {x : Str} {p pos : Pos} {e : Expr} {es : List Expr} {t : TA}
/-- f(e, ..), f such a def, called where no repr runs -/
theorem pe_callG (F : FnG X.prog X.w X.K X.mg X.base cx k f fd ps sp) (noG : X.A.guards = some []) (room : Room k X.A) (hg : Gl X x) (hm : X.mg x = some (.ref f)) (hk : PySem.W.keepIn X.K (.ref f) = true)
    (hb : Binds X.K fd ps []) (out : Passes cx X E) (ha : PA X (e :: es) t) (hdb : (x == ("__debug__" : Str)) = false := by decide)
    (he : starEach (e :: es) X.env = (false, eval e X.env) :: starEach es X.env := by rfl) (hpl : (backTo pos (starEach es X.env)).any (·.1) = false := by rfl) :
    PE X (.Call (.Name x p) (e :: es) [] pos) (tCall sp [] E t) := by
  constructor
  intro pins s σ H Q I h
  refine wpAny_Call_Name_kw (ld_glob I hg hm ?_ hdb)
  refine PySem.W.callWith_K (h₀ := X.base) I.ok.mod.kin hk ?_ he hpl
  refine thn (ha.run pos pins s σ H _ I h) ?_
  rintro us s1 ⟨vs, H1, I1, r, q⟩
  rw [List.append_nil] at q
  refine ⟨I1.kIn, wpAny_call ?_⟩
  have hl : (us ++ []).length = ps.length := by rw [List.append_nil, ← r.length]; exact F.ln _ _ _ _ q
  have bd := hb s1 us I1.kIn hl
  rw [List.append_nil] at bd
  refine codeAny_mono (F.go X.A X.stack s1 H1 ⟨us, []⟩ us vs Q E noG room I1.env0 bd r q) ?_
  intro res s' z
  cases res with
  | error err => exact out pins σ H1 s1 err s' I1 z
  | ok fl =>
    cases fl with
    | ret u => exact I1.after z
    | next => exact False.elim z
    | brk => exact False.elim z
    | cont => exact False.elim z
end

/-! ### the end of a law of such defs -/
section
variable {l : PySem.W.OpenLaw} {n k : Nat} {q : Program} {loose : List Str} {XP : (Str → Option Value) → Heap → Prop} {YP : World → Heap → Prop} {d : DefRec} {Kp : Params → PySem.W.Frag} {x : Str}
theorem walkG {sp : PySem.W.Frag → Sp} (hn : l.most = some n) (hn2 : n ≤ sizeLine) (hdf : d.params.defaults = []) (room : Room k callerA)
    (hY : ∀ (w : World) (h : Heap), YP w h → (Kp w.params).In h)
    (main : ∀ (w : World) (mg : Str → Option Value) (fa : Addr) (h : Heap), (Kp w.params).In h → h.Ns mainGlobals mg → mg d.name = some (.ref fa) →
      ∃ fd : FuncData, (∀ (s : Shared) (u : Value), BindsTo s fd ⟨[u], []⟩ [(x, u)]) ∧
        ∀ base : Heap, (Kp w.params).In base → base.Ns mainGlobals mg → FnG l.prog w (Kp w.params) mg base CX0 k fa fd [x] (sp (Kp w.params)))
    (want : ∀ (K : PySem.W.Frag) (H : Hp) (a : Addr) (ns : List Int), ns.length ≤ n → SqL K H a (ns.map V.int) → sp K [.ref a] H (fun v _ => v = .bl true) fun _ _ _ => False) :
    PySem.W.WalkO q loose XP YP l.row.toRowW d [] (fun f vs => PySem.call f vs) := by
  refine Att.attach_call hn hdf ?_
  intro w s0 s1 mg mb fa o pm cd doc a vs ns G Y _ _ _ hmg script numbers short bare0
  have inK := hY w _ Y
  obtain ⟨fd, binds, F⟩ := main w mg fa _ inK G.T.g hmg
  have rel := vals_ints numbers
  have lens : vs.length = ns.length := numbers.length
  have go : ∀ H : Hp, HOk l.prog w H s1.heap → SqL (Kp w.params) H a (ns.map V.int) → (∀ b, H b = none ∨ (b = a ∧ (Kp w.params).lookup a = none ∧ ∃ ob, ∃ xs, H b = some (.frz ob (.lst xs)))) →
      codeAny (model l.prog w) callerA (.call (.ref fa) ⟨[.ref a], []⟩) (fun r s' => r = .ok (.ret (.bool true)) ∧ OldK s1.heap s'.heap ∧ s'.os = s1.os ∧ AllBare s'.gens) s1 := by
    intro H ok hS only
    have plain : ∀ {b : Addr} {ob : Obj}, s1.heap.get? b = some ob → (∀ its m, ob.data ≠ .seq its m) → H b = none := by
      intro b ob e nd
      rcases only b with z | ⟨rfl, _⟩
      · exact z
      · rw [script] at e; cases e
        exact absurd rfl (nd _ _)
    have nsT : ∀ {b : Addr} {m : Str → Option Value}, s1.heap.Ns b m → (hidT s1.heap H).Ns b m := by
      rintro b m ⟨ob, es, ep, e, dt, r⟩
      exact ⟨ob, es, ep, hidT_get e (plain e fun its k z => by rw [dt] at z; cases z), dt, r⟩
    have kT : (Kp w.params).In (hidT s1.heap H) := by
      intro b ob e
      refine hidT_get (inK b ob e) ?_
      rcases only b with z | ⟨rfl, nk, _⟩
      · exact z
      · rw [nk] at e; cases e
    have lim : (hidT s1.heap H).NoLimit := by
      obtain ⟨mc, e1, e2⟩ := G.T.nolimit
      exact ⟨mc, nsT e1, e2⟩
    have ent : Env0 l.prog w (Kp w.params) mg (hidT s1.heap H) callerA [] s1 H :=
      ⟨rfl, ⟨kT, nsT G.T.g, ⟨mb, nsT G.T.b, G.T.builtins⟩, lim⟩, fun b ob e => of_hidT e, Nat.le_of_eq (hidT_size _ _), True.intro, (fun b hb => absurd (show b ∈ ([] : List Addr) from hb) (by simp)), ok, .of_eq bare0⟩
    refine codeAny_mono ((F _ kT (nsT G.T.g)).go callerA [] s1 H ⟨[.ref a], []⟩ [.ref a] [.ref a] _ _ rfl room ent (binds s1 (.ref a)) (.cons rfl .nil) (want _ H a ns short hS)) ?_
    intro r s' z
    cases r with
    | error e => exact False.elim z
    | ok fl =>
     cases fl with
     | next => exact False.elim z
     | brk => exact False.elim z
     | cont => exact False.elim z
     | ret u =>
      obtain ⟨v, H', os, bare, un, ok', rv, qv⟩ := z
      have qv' : v = .bl true := qv
      subst qv'
      have eu : u = Value.bool true := rv
      subst eu
      refine ⟨rfl, OldK.of_keep (fun b ob e => ?_), os, bare⟩
      rcases only b with z | ⟨_, _, ob2, xs, z⟩
      · exact un.keep b ob e z (by intro y; exact absurd (show b ∈ ([] : List Addr) from y) (by simp)) (by simp)
      · have z2 := un.frzs b ob2 _ z
        have e1 := (ok b _ z).1
        have e2 := (ok' b _ z2).1
        rw [e] at e1; cases e1
        exact e2
  have big : ns.length ≤ sizeLine := Nat.le_trans short hn2
  cases hk : (Kp w.params).lookup a with
  | some ob =>
    have e := inK a ob hk
    rw [script] at e; cases e
    refine go (fun _ => none) (fun b u z => by cases z) (.inr ⟨_, vs.toArray, _, hk, rfl, rfl, rfl, ?_, ?_⟩) (fun b => .inl rfl)
    · rw [List.size_toArray, lens]; exact big
    · simpa using rel
  | none =>
    refine go (upd (fun _ => none) a (.frz { cls := .type "list", data := .seq vs.toArray } (.lst (ns.map V.int)))) (fun b u z => ?_) (.inl (.inr ⟨_, upd_same⟩)) (fun b => ?_)
    · by_cases hb : b = a
      · subst hb
        rw [upd_same] at z; cases z
        exact ⟨script, by rw [List.length_map]; exact big, vs, _, rel, script⟩
      · rw [upd_ne hb] at z; cases z
    · by_cases hb : b = a
      · subst hb
        exact .inr ⟨rfl, hk, _, _, upd_same⟩
      · exact .inl (upd_ne hb)
end
end Dh

/-! DhG -/
set_option Elab.async false
set_option linter.all false
set_option maxRecDepth 100000
set_option maxHeartbeats 4000000
namespace Dh
open PySem PySem.Spec PyProof.Rows L2
abbrev St1 := List (Option V)

def top (i : Nat) : Stmt := PySem.Challenge.pw_debtsheld_k00_errors_by_position_and_nam.main.body.getD i (.Pass ⟨0, 0, 0, 0⟩)
abbrev sDeck : Stmt := top 12
abbrev sDraw : Stmt := top 13
abbrev sPick : Stmt := top 14
abbrev sShuf : Stmt := top 16
abbrev sName : Stmt := top 17
abbrev sTag : Stmt := top 18
abbrev sLeaf : Stmt := top 19
abbrev sExpr : Stmt := top 20
abbrev sSigns : Stmt := top 21
abbrev sProg : Stmt := top 22

/-! ### the deck -/
abbrev kLeft : Key := .inr "left"
abbrev kMixed : Key := .inr "mixed"
abbrev kDraws : Key := .inr "draws"
abbrev kFuel : Key := .inr "fuel"
structure Dk (H : Hp) (dk lf : Addr) : Prop where
  d : ∃ kvs : List (Key × V), H dk = some (.dK kvs) ∧ kvs.length ≤ 10 ∧ valV kvs kLeft = some (.ref lf) ∧ (∃ m, valV kvs kMixed = some (.int m)) ∧ (∃ m, valV kvs kDraws = some (.int m)) ∧ ∃ m, valV kvs kFuel = some (.int m)
  l : ∃ ls : List Int, H lf = some (.lst (ls.map V.int)) ∧ ls.length ≤ 63
theorem Dk.ne {H : Hp} {dk lf : Addr} (D : Dk H dk lf) : dk ≠ lf := by
  obtain ⟨kvs, h1, _⟩ := D.d
  obtain ⟨ls, h2, _⟩ := D.l
  exact ne_of h1 h2 (by intro z; cases z)
theorem put_len {kvs : List (Key × V)} {k : Key} {v : V} (h : (valV kvs k).isSome = true) : (putK kvs k v).length = kvs.length := by
  unfold putK
  rw [valV_any, h, if_pos rfl, List.length_map]
/-- a number of the deck's own is stored -/
theorem Dk.put {H : Hp} {dk lf : Addr} {kvs : List (Key × V)} (D : Dk H dk lf) (h : H dk = some (.dK kvs)) {k : Key} {i : Int} (hk : k = kDraws ∨ k = kFuel ∨ k = kMixed) : Dk (upd H dk (.dK (putK kvs k (.int i)))) dk lf := by
  obtain ⟨kvs', h1, h2, h3, ⟨m1, h4⟩, ⟨m2, h5⟩, ⟨m3, h6⟩⟩ := D.d
  rw [h] at h1; cases h1
  obtain ⟨ls, hl, hn⟩ := D.l
  have nl : kLeft ≠ k := by
    rcases hk with rfl | rfl | rfl
    · intro z; exact absurd (Sum.inr.inj z) (by decide +kernel)
    · intro z; exact absurd (Sum.inr.inj z) (by decide +kernel)
    · intro z; exact absurd (Sum.inr.inj z) (by decide +kernel)
  have some_of : (valV kvs k).isSome = true := by
    rcases hk with rfl | rfl | rfl
    · rw [h5]; rfl
    · rw [h6]; rfl
    · rw [h4]; rfl
  have step : ∀ (j : Key) (m : Int), valV kvs j = some (.int m) → ∃ m', valV (putK kvs k (.int i)) j = some (.int m') := by
    intro j m e
    rw [valV_put]
    by_cases q : j = k
    · rw [if_pos q]; exact ⟨_, rfl⟩
    · rw [if_neg q]; exact ⟨_, e⟩
  refine ⟨⟨_, upd_same, by rw [put_len some_of]; exact h2, ?_, step _ _ h4, step _ _ h5, step _ _ h6⟩, ⟨ls, by rw [upd_ne D.ne.symm]; exact hl, hn⟩⟩
  rw [valV_put, if_neg nl]; exact h3
/-- its numbers left are others -/
theorem Dk.left {H : Hp} {dk lf : Addr} (D : Dk H dk lf) {ls : List Int} (h : ls.length ≤ 63) : Dk (upd H lf (.lst (ls.map V.int))) dk lf := by
  obtain ⟨kvs, h1, r⟩ := D.d
  exact ⟨⟨kvs, by rw [upd_ne D.ne]; exact h1, r⟩, ⟨ls, upd_same, h⟩⟩
/-- a new object beside it -/
theorem Dk.new {H : Hp} {dk lf p : Addr} {o : HO} (D : Dk H dk lf) (h : H p = none) : Dk (upd H p o) dk lf := by
  obtain ⟨kvs, h1, r⟩ := D.d
  obtain ⟨ls, h2, r2⟩ := D.l
  exact ⟨⟨kvs, by rw [upd_ne (ne_of_none h1 h)]; exact h1, r⟩, ⟨ls, by rw [upd_ne (ne_of_none h2 h)]; exact h2, r2⟩⟩
theorem Dk.put_other {H : Hp} {dk lf p : Addr} {o : HO} (D : Dk H dk lf) (h1 : p ≠ dk) (h2 : p ≠ lf) : Dk (upd H p o) dk lf := by
  obtain ⟨kvs, e1, r⟩ := D.d
  obtain ⟨ls, e2, r2⟩ := D.l
  exact ⟨⟨kvs, by rw [upd_ne h1.symm]; exact e1, r⟩, ⟨ls, by rw [upd_ne h2.symm]; exact e2, r2⟩⟩
theorem Dk.mem {H : Hp} {dk lf p : Addr} (D : Dk H dk lf) (h : H p = none) : p ∉ [dk, lf] := by
  obtain ⟨kvs, h1, _⟩ := D.d
  obtain ⟨ls, h2, _⟩ := D.l
  intro z
  rcases List.mem_cons.mp z with rfl | z
  · rw [h1] at h; cases h
  · rcases List.mem_cons.mp z with rfl | z
    · rw [h2] at h; cases h
    · cases z

/-- what the text asks of the built-in names -/
structure Blt (mg : Str → Option Value) : Prop where
  int : mg "int" = none
  len : mg "len" = none
  max : mg "max" = none
  list : mg "list" = none
  range : mg "range" = none
  str : mg "str" = none
  tuple : mg "tuple" = none
/-- a def of the top: where it stands, how it is called -/
structure Df (P : Program) (w : World) (K : PySem.W.Frag) (mg : Str → Option Value) (base : Heap) (x : Str) (k : Nat) (f : Addr) (fd : FuncData) (ps : List Str) (sp : Sp) : Prop where
  ok : FnOk P w K mg base CX0 k f fd ps sp
  m : mg x = some (.ref f)
  k : PySem.W.keepIn K (.ref f) = true
  b : Binds K fd ps []

/-! ### promises -/
def spDraw : Sp := fun vs H Q _ => ∃ (dk lf : Addr) (m : Int), vs = [.ref dk, .int m] ∧ Dk H dk lf ∧ 1 ≤ m ∧ m ≤ 100000 ∧
  ∀ (H' : Hp) (i : Int), Dk H' dk lf → Kp [dk, lf] H H' → 0 ≤ i → i < m → Q (.int i) H'

section
variable {P : Program} {w : World} {K : PySem.W.Frag} {mg : Str → Option Value} {base : Heap}

theorem shaped_ints : ∀ ls : List Int, PyData.canLayAll0 (ls.map PyData.int) = true ∧ PyData.depthAll (ls.map PyData.int) = 0
  | [] => ⟨by simp [PyData.canLayAll0], by simp [PyData.depthAll]⟩
  | x :: r => by
    obtain ⟨a, b⟩ := shaped_ints r
    exact ⟨by simp [PyData.canLayAll0, PyData.canLay0, a], by simp [PyData.depthAll, PyData.depth, b]⟩
theorem shaped_ints' (ls : List Int) : SeqAt.shaped (.list (ls.map PyData.int)) = true := by
  obtain ⟨a, b⟩ := shaped_ints ls
  simp [SeqAt.shaped, PyData.canLay0, PyData.depth, a, b]
theorem shaped_nil : SeqAt.shaped (.list []) = true := by decide
theorem dp_ints {H : Hp} : ∀ ls : List Int, DpAll K H (ls.map V.int) (ls.map PyData.int)
  | [] => .nil
  | x :: r => .cons (.int x) (dp_ints r)
theorem eqv_nil (ls : List Int) : PyData.eqv (.list (ls.map PyData.int)) (.list []) = ls.isEmpty := by
  cases ls with
  | nil => simp [PyData.eqv, PyData.eqvAll]
  | cons x r => simp [PyData.eqv, PyData.eqvAll]

theorem scDraw : FnScope ["deck", "many", "figure", "cell"] ["deck", "many"] (defScope sDraw) := ⟨rfl, rfl, rfl, by decide +kernel, rfl, by decide +kernel, by decide +kernel⟩
theorem okDraw {f : Addr} {fd : FuncData} (F : Fun K "_law_draw" "_law_draw" sDraw f fd) (T : Blt mg) : FnOk P w K mg base CX0 1 f fd ["deck", "many"] spDraw := by
  refine F.ok scDraw (fun vs H Q E h => ?_) (fun cdv A outer s H vs Q E hr h => ?_)
  · obtain ⟨_, _, _, rfl, _⟩ := h
    rfl
  · obtain ⟨dk, lf, m, rfl, D, m1, m2, k⟩ := h
    have hu := hu_of hr
    refine ⟨_, (pss_cons (ps_dput hu (pv 0) pe_str (pe_op op_add (pe_dget hu (pv 0) pe_str (fun _ _ => rfl)) pe_int) rfl)
      (pss_cons (ps_set (i := 2) scDraw.nd rfl (Or.inl rfl) (pe_op op_add (pe_dget hu (pv 0) pe_str (fun _ _ => rfl)) (pe_op op_mul pe_int (pe_dget hu (pv 0) pe_str (fun _ _ => rfl)))))
      (Evl.pss_cut (ps_if (pt_cmpR (op_neD hr.units) (pe_dget hu (pv 0) pe_str (fun _ _ => rfl)) (pe_lst pa_nil) (nomark _)) (pss_cons (ps_set (i := 3) scDraw.nd rfl (Or.inl rfl) (pe_bm0 PySem.F.plainAttrs_list PySem.F.slot_list_pop PySem.F.type_list_pop mt_pop (pe_dget hu (pv 0) pe_str (fun _ _ => rfl))))
        (pss_cons (ps_if (pt_cmpR op_ge (pv 3) (pe_op op_pow pe_int pe_int) (nomark _)) (pss_cons (ps_expr (pe_bm PySem.F.plainAttrs_list PySem.F.slot_list_append PySem.F.type_list_append mt_append (pe_dget hu (pv 0) pe_str (fun _ _ => rfl)) (pa_cons (pe_op op_fdivW (pv 3) (pe_callB (call_max2 rfl) (by rfl) T.max (by decide +kernel) (pa_cons pe_int (pa_cons (pv 1) pa_nil)))) pa_nil)))
          (pss_one (ps_ret (pe_op op_modN (pe_callTy call_int1 (by rfl) T.int (by decide +kernel) (pa_cons (pv 3) pa_nil)) (pv 1))))) pss_nil)
        (pss_one (ps_set (i := 2) scDraw.nd rfl (Or.inl rfl) (pe_op op_add (pv 2) (pe_op op_mod (pe_callTy call_int1 (by rfl) T.int (by decide +kernel) (pa_cons (pv 3) pa_nil)) pe_int)))))) pss_nil)
      (pss_cons (ps_set (i := 2) scDraw.nd rfl (Or.inl rfl) (pe_op op_mod (pe_callTy call_int1 (by rfl) T.int (by decide +kernel) (pa_cons (pe_op op_add (pe_op op_mul (pv 2) pe_int) pe_int) pa_nil)) pe_int))
      (pss_cons (ps_set (i := 2) scDraw.nd rfl (Or.inl rfl) (pe_op op_mod (pe_callTy call_int1 (by rfl) T.int (by decide +kernel) (pa_cons (pe_op op_add (pe_op op_add (pe_op op_mul (pv 2) (pv 2)) (pe_op op_mul pe_int (pe_dget hu (pv 0) pe_str (fun _ _ => rfl)))) pe_int) pa_nil)) pe_int))
      (pss_cons (ps_set (i := 2) scDraw.nd rfl (Or.inl rfl) (pe_op op_mod (pe_callTy call_int1 (by rfl) T.int (by decide +kernel) (pa_cons (pe_op op_mul (pv 2) pe_int) pa_nil)) pe_int))
      (pss_one (ps_ret (pe_op op_modN (pe_callTy call_int1 (by rfl) T.int (by decide +kernel) (pa_cons (pe_op op_fdiv (pv 2) pe_int) pa_nil)) (pv 1)))))))))), ?_⟩
    obtain ⟨kvs, d1, d2, d3, ⟨mx, d4⟩, ⟨dr, d5⟩, d6⟩ := id D.d
    have get : ∀ {H1 : Hp} {es : List (Key × V)} {kk : Key} {v : V}, H1 dk = some (.dK es) → valV es kk = some v → DGet H1 dk (kV kk) (some v) := fun {H1 es kk v} a b => b ▸ DGet.k a
    -- deck['draws'] = deck['draws'] + 1
    refine ⟨_, rfl, dk, .int dr, rfl, get (kk := kDraws) d1 d5, dr, 1, rfl, rfl, _, rfl, dk, _, rfl, DPut.k (k := kDraws) d1 (small1000 (by omega)), ?_⟩
    generalize hH1 : upd H dk (HO.dK (putK kvs kDraws (V.int (dr + 1)))) = H1
    have D1 : Dk H1 dk lf := by rw [← hH1]; exact D.put d1 (.inl rfl)
    have K1 : Kp [dk, lf] H H1 := by rw [← hH1]; exact Kp.put (by simp)
    clear hH1 d1 d2 d3 d4 d5 d6
    -- figure = deck['mixed'] + 47363 * deck['draws']
    obtain ⟨es, d1, d2, d3, ⟨mx, d4⟩, ⟨dr, d5⟩, d6⟩ := id D1.d
    refine ⟨_, rfl, dk, .int mx, rfl, get (kk := kMixed) d1 d4, _, rfl, dk, .int dr, rfl, get (kk := kDraws) d1 d5, _, _, rfl, rfl, .inl (by decide), _, _, rfl, rfl, ?_⟩
    -- what holds behind the branch
    refine ⟨fun σ H2 => ∃ (g : Int) (c : Option V), σ = [some (.ref dk), some (.int m), some (.int g), c] ∧ Dk H2 dk lf ∧ Kp [dk, lf] H H2, ?_, ?_⟩
    rotate_left
    · rintro σ H2 ⟨g, c, rfl, D2, K2⟩
      obtain ⟨es, d1, d2, d3, ⟨mx, d4⟩, ⟨dr, d5⟩, d6⟩ := id D2.d
      have b31 : ∀ a b : Int, 0 < b → b < 2147483648 → -(2 ^ 64) < a % b ∧ a % b < 2 ^ 64 := fun a b h1 h2 => by
        have z1 := Int.emod_nonneg a (show b ≠ 0 by omega)
        have z2 := Int.emod_lt_of_pos a h1
        omega
      refine ⟨_, rfl, _, _, rfl, rfl, .inr (by decide), _, _, rfl, rfl, .inl ⟨_, rfl, _, _, rfl, rfl, (show (0 : Int) < _ by decide), ?_⟩⟩
      refine ⟨_, rfl, _, rfl, _, _, rfl, rfl, .inl (b31 _ _ (by decide) (by decide)), _, rfl, dk, .int dr, rfl, get (kk := kDraws) d1 d5, _, _, rfl, rfl, .inl (by decide), _, _, rfl, rfl, _, _, rfl, rfl, .inl ⟨_, rfl, _, _, rfl, rfl, (show (0 : Int) < _ by decide), ?_⟩⟩
      refine ⟨_, rfl, _, _, rfl, rfl, .inr (by decide), .inl ⟨_, rfl, _, _, rfl, rfl, (show (0 : Int) < _ by decide), ?_⟩⟩
      refine ⟨_, rfl, _, _, rfl, rfl, ⟨by decide, by decide⟩, .inl ⟨_, rfl, _, rfl, _, _, rfl, rfl, (by omega), ?_⟩⟩
      show Q (.int (Int.fmod _ m)) H2
      rw [Int.fmod_eq_emod_of_nonneg _ (by omega)]
      exact k H2 _ D2 K2 (Int.emod_nonneg _ (by omega)) (Int.emod_lt_of_pos _ (by omega))
    -- if deck['left'] != []
    obtain ⟨ls, l1, l2⟩ := D1.l
    refine ⟨_, rfl, dk, .ref lf, rfl, get (kk := kLeft) d1 d3, (by decide), fun p hp => ?_⟩
    have D2 := D1.new (o := .lst []) hp
    have K2 := K1.trans (Kp.new (M := [dk, lf]) (o := .lst []) hp)
    obtain ⟨e1, e2, e3⟩ : ∃ e3, (upd H1 p (HO.lst [])) dk = some (.dK es) ∧ True := ⟨trivial, by rw [upd_ne (ne_of_none d1 hp)]; exact d1, trivial⟩
    have l1' : (upd H1 p (HO.lst [])) lf = some (.lst (ls.map V.int)) := by rw [upd_ne (ne_of_none l1 hp)]; exact l1
    refine ⟨.list (ls.map PyData.int), .list [], .lst (SqL.of l1') (dp_ints ls), .lst (SqL.of upd_same) .nil, shaped_ints' ls, shaped_nil, _, rfl, ?_⟩
    rw [eqv_nil]
    cases ls with
    | nil =>
      refine iteF ?_
      exact ⟨_, none, rfl, D2, K2⟩
    | cons x r =>
      refine iteT ?_
      have hz : ((x :: r).map V.int)[((x :: r).map V.int).length - 1]? = some (.int ((x :: r).getLast (by simp))) := by
        rw [← List.getLast?_eq_getElem?, List.getLast?_map, List.getLast?_eq_some_getLast (by simp)]
        rfl
      generalize (x :: r).getLast (by simp) = cell at hz
      -- cell = deck['left'].pop()
      refine ⟨_, rfl, dk, .ref lf, rfl, get (kk := kLeft) e2 d3, Or.inl ⟨rfl, _, SqL.of l1'⟩, lf, _, _, rfl, rfl, l1', hz, ?_⟩
      have hd : ((x :: r).map V.int).dropLast = ((x :: r).dropLast).map V.int := by rw [List.map_dropLast]
      rw [hd]
      have hl : ((x :: r).dropLast).length + 1 ≤ 63 := by rw [List.length_dropLast]; simp at l2 ⊢; omega
      have D3 := D2.left (ls := (x :: r).dropLast) (by omega)
      have K3 := K2.trans (Kp.put (M := [dk, lf]) (H := upd H1 p (HO.lst [])) (o := .lst (((x :: r).dropLast).map V.int)) (p := lf) (by simp))
      generalize (x :: r).dropLast = ys at D3 K3 hl
      generalize hH3 : upd (upd H1 p (HO.lst [])) lf (HO.lst (ys.map V.int)) = H3 at D3 K3
      have l3 : H3 lf = some (.lst (ys.map V.int)) := by rw [← hH3, upd_same]
      have d1' : H3 dk = some (.dK es) := by rw [← hH3, upd_ne D.ne]; exact e2
      -- if cell >= 10 ** 18
      refine ⟨_, rfl, _, _, rfl, rfl, ⟨by decide, by decide, by decide⟩, _, _, rfl, rfl, _, rfl, ?_⟩
      refine ite2 (fun _ => ?_) (fun _ => ?_)
      · refine ⟨_, rfl, dk, .ref lf, rfl, get (kk := kLeft) d1' d3, Or.inl ⟨rfl, _, SqL.of l3⟩, _, rfl, _, rfl, _, _, rfl, _, _, rfl, rfl, ?_, lf, _, _, rfl, rfl, l3, (by rw [List.length_map]; exact small1000 (by omega)), ?_⟩
        · refine ⟨by split <;> omega, ?_⟩
          have z : (if m > 2 then m else 2).natAbs < 2 ^ 17 := by split <;> omega
          have z2 := (Nat.log2_lt (n := (if m > 2 then m else 2).natAbs) (k := 17) (by split <;> omega)).mpr z
          omega
        · refine ⟨_, rfl, .inl ⟨_, rfl, _, rfl, _, _, rfl, rfl, (by omega), ?_⟩⟩
          show Q (.int (Int.fmod cell m)) (upd H3 lf (.lst (ys.map V.int ++ [V.int _])))
          rw [Int.fmod_eq_emod_of_nonneg _ (by omega)]
          have e : ∀ z : Int, (ys.map V.int) ++ [V.int z] = (ys ++ [z]).map V.int := fun z => by simp
          rw [e]
          exact k _ _ (D3.left (by rw [List.length_append]; simp; omega)) (K3.trans (Kp.put (by simp))) (Int.emod_nonneg _ (by omega)) (Int.emod_lt_of_pos _ (by omega))
      · refine ⟨_, rfl, _, rfl, .inl ⟨_, rfl, _, _, rfl, rfl, (show (0 : Int) < _ by decide), _, _, rfl, rfl, ?_⟩⟩
        exact ⟨_, _, rfl, D3, K3⟩

/-! ### the deck is made -/
theorem yesI {σ : St1} {H : Hp} {A B : Hp → Prop} (h : A H) : tYes σ H (fun b H3 => if b = true then A H3 else B H3) := by
  show (if true = true then A H else B H)
  rw [if_pos rfl]; exact h
theorem cut_map {α : Type} (f : α → V) (xs : List α) (lo hi : Option Int) : ∃ ys : List α, cutV (xs.map f) lo hi = ys.map f ∧ ys.length ≤ xs.length ∧ ∀ y ∈ ys, y ∈ xs := by
  unfold cutV
  refine ⟨(xs.drop (HT.sIx (xs.map f).length 0 lo)).take (HT.sIx (xs.map f).length (xs.map f).length hi - HT.sIx (xs.map f).length 0 lo), ?_, ?_, ?_⟩
  · rw [List.map_take, List.map_drop]
  · rw [List.length_take, List.length_drop]; omega
  · intro y hy
    exact List.mem_of_mem_drop (List.mem_of_mem_take hy)
theorem map_at {α : Type} {f : α → V} {xs : List α} {i : Nat} {y : V} (h : (xs.map f)[i]? = some y) : ∃ x, xs[i]? = some x ∧ y = f x := by
  rw [List.getElem?_map] at h
  cases e : xs[i]? with
  | none => rw [e] at h; cases h
  | some x => rw [e] at h; exact ⟨x, rfl, (Option.some.inj h).symm⟩
def spDeck (K : PySem.W.Frag) : Sp := fun vs H Q _ => ∃ (a : Addr) (ns : List Int), vs = [.ref a] ∧ SqL K H a (ns.map V.int) ∧ ns.length ≤ 63 ∧
  ∀ (H' : Hp) (dk lf : Addr), H dk = none → H lf = none → Dk H' dk lf → Kp [] H H' → Q (.ref dk) H'
theorem scDeck : FnScope ["script", "mixed", "cell"] ["script"] (defScope sDeck) := ⟨rfl, rfl, rfl, by decide +kernel, rfl, by decide +kernel, by decide +kernel⟩
theorem okDeck {f : Addr} {fd : FuncData} (F : Fun K "_law_deck" "_law_deck" sDeck f fd) (T : Blt mg) : FnOk P w K mg base CX0 1 f fd ["script"] (spDeck K) := by
  refine F.ok scDeck (fun vs H Q E h => ?_) (fun cdv A outer s H vs Q E hr h => ?_)
  · obtain ⟨_, _, rfl, _⟩ := h
    rfl
  · obtain ⟨a, ns, rfl, hS, hn, k⟩ := h
    refine ⟨_, (pss_cons (ps_set (i := 1) scDeck.nd rfl (Or.inl rfl) pe_int)
      (pss_cons (ps_for PassesOwn.never rfl (pi_list (pe_slice sl_list (pv 0) po_none (po_some pe_int))) (pg_name (i := 2) scDeck.nd rfl (Or.inl rfl))
        (pss_one (ps_set (i := 1) scDeck.nd rfl (Or.inl rfl) (pe_op op_mod (pe_callTy call_int1 (by rfl) T.int (by decide +kernel) (pa_cons (pe_op op_add (pe_op op_add (pe_op op_mul (pv 1) pe_int) (pe_op op_mod (pe_callTy call_int1 (by rfl) T.int (by decide +kernel) (pa_cons (pv 2) pa_nil)) pe_int)) pe_int) pa_nil)) pe_int))))
      (pss_one (ps_ret (pe_disp (pps_cons pe_str (pe_revL (pe_lc (own := [("cell", 2)]) (g := gName 2) (tt := tYes) rfl scDeck.nd (pi_list (pe_slice sl_list (pv 0) po_none (po_some pe_int))) (blkOk_by (N := ["script", "mixed", "cell"]) (sc := defScope sDeck) (by decide +kernel)) (fun _ _ _ _ _ => pg_name (i := 2) scDeck.nd rfl (Or.inl rfl)) (fun _ _ _ _ _ => pts_nil) (fun _ _ _ _ _ => (pe_callTy call_int1 (by rfl) T.int (by decide +kernel) (pa_cons (pv 2) pa_nil))))) (pps_cons pe_str (pv 1) (pps_cons pe_str pe_int (pps_cons pe_str pe_int pps_nil)))) (by rfl) (by rfl) (fun z => by cases z) (by decide)))))), ?_⟩
    -- for cell in script[:63]
    refine ⟨_, rfl, _, rfl, a, _, rfl, hS, fun p hp => ?_⟩
    obtain ⟨ms, hms, hml, _⟩ := cut_map V.int ns none (some 63)
    rw [hms]
    refine ⟨p, rfl, ⟨_, SqL.of upd_same⟩, for_list (K := K) (a := p) (xs := ms.map V.int) (fun i σ H2 => H2 = upd H p (.lst (ms.map V.int)) ∧ ∃ (m : Int) (c : Option V), σ = [some (.ref a), some (.int m), c]) ⟨rfl, _, none, rfl⟩ ?_ ?_ ?_⟩
    · rintro i σ H2 _ ⟨rfl, _⟩
      exact SqL.of upd_same
    · rintro i y σ H2 hi ⟨rfl, m, c, rfl⟩
      obtain ⟨x, _, rfl⟩ := map_at hi
      refine ⟨_, rfl, _, _, rfl, rfl, .inr (by decide), _, rfl, .inl ⟨_, rfl, _, _, rfl, rfl, (show (0 : Int) < _ by decide), _, _, rfl, rfl, _, _, rfl, rfl, .inl ⟨_, rfl, _, _, rfl, rfl, (show (0 : Int) < _ by decide), ?_⟩⟩⟩
      exact ⟨rfl, _, _, rfl⟩
    · rintro σ H2 ⟨rfl, m, c, rfl⟩
      -- return {..}
      have k1 : Kp [] H (upd H p (.lst (ms.map V.int))) := Kp.new hp
      have hS1 : SqL K (upd H p (.lst (ms.map V.int))) a (ns.map V.int) := k1.sqL (by simp) hS
      generalize upd H p (.lst (ms.map V.int)) = H2 at k1 hS1
      intro dk hdk
      have k2 : Kp [] H2 (upd H2 dk (.dK [])) := Kp.new hdk
      refine ⟨_, rfl, _, rfl, a, _, rfl, k2.sqL (by simp) hS1, fun q hq => ?_⟩
      rw [hms]
      have ndq : dk ≠ q := ne_of_none upd_same hq
      have k3 : Kp [] (upd H2 dk (.dK [])) (upd (upd H2 dk (.dK [])) q (.lst (ms.map V.int))) := Kp.new hq
      have dk3 : (upd (upd H2 dk (.dK [])) q (.lst (ms.map V.int))) dk = some (.dK []) := by rw [upd_ne ndq, upd_same]
      have q3 : (upd (upd H2 dk (.dK [])) q (.lst (ms.map V.int))) q = some (.lst (ms.map V.int)) := upd_same
      generalize upd (upd H2 dk (.dK [])) q (.lst (ms.map V.int)) = H3 at k3 dk3 q3
      refine ⟨q, rfl, ⟨_, SqL.of q3⟩, fun D hD => ?_⟩
      have nD : q ≠ D := ne_of_none q3 hD
      have nD2 : dk ≠ D := ne_of_none dk3 hD
      refine lc_list (K := K) (a := q) (xs := ms.map V.int) (fun i H4 => ∃ acc : List Int, acc.length = i ∧ H4 = upd H3 D (.lst (acc.map V.int))) ⟨[], rfl, rfl⟩ ?_ ?_ ?_
      · rintro i H4 _ ⟨acc, _, rfl⟩
        exact SqL.of (by rw [upd_ne nD]; exact q3)
      · rintro i y H4 hi ⟨acc, hacc, rfl⟩
        obtain ⟨x, hx, rfl⟩ := map_at hi
        have hil : i < ms.length := (List.getElem?_eq_some_iff.mp hx).1
        refine ⟨rfl, yesI ?_⟩
        refine ⟨_, rfl, .inl ⟨_, rfl, acc.map V.int, upd_same, by rw [List.length_map]; exact small1000 (by omega), acc ++ [x], by simp [hacc], ?_⟩⟩
        rw [upd_upd]; simp
      · rintro H4 ⟨acc, hacc, rfl⟩
        rw [List.length_map] at hacc
        have k4 : Kp [] H3 (upd H3 D (.lst (acc.map V.int))) := Kp.new hD
        have dk4 : (upd H3 D (.lst (acc.map V.int))) dk = some (.dK []) := by rw [upd_ne nD2]; exact dk3
        refine ⟨D, _, rfl, SqL.of upd_same, fun lf hlf => ?_⟩
        generalize upd H3 D (.lst (acc.map V.int)) = H4 at k4 dk4 hlf
        have nl : dk ≠ lf := ne_of_none dk4 hlf
        have k5 : Kp [] H4 (upd H4 lf (.lst (acc.map V.int).reverse)) := Kp.new hlf
        refine ⟨_, rfl, by rw [upd_ne nl]; exact dk4, [(kLeft, .ref lf), (kMixed, .int m), (kDraws, .int 0), (kFuel, .int 0)], rfl, (show 4 ≤ 15 by decide), ?_⟩
        have back : ∀ {b : Addr} {H' : Hp}, Kp [] H H' → H' b = none → H b = none := fun {b H'} kk e => by
          cases z : H b with
          | none => rfl
          | some o => rw [kk b o z (by simp)] at e; cases e
        refine k _ dk lf (back k1 hdk) (back (((k1.trans k2).trans k3).trans k4) hlf) ⟨⟨_, upd_same, (by show 4 ≤ 10; decide), by rfl, ⟨_, by rfl⟩, ⟨_, by rfl⟩, ⟨_, by rfl⟩⟩, ⟨acc.reverse, ?_, ?_⟩⟩ ?_
        · rw [upd_ne nl.symm, upd_same, List.map_reverse]
        · rw [List.length_reverse]; omega
        · intro b o e _
          have e2 := k5 b o (k4 b o (k3 b o (k2 b o (k1 b o e (by simp)) (by simp)) (by simp)) (by simp)) (by simp)
          have nb : b ≠ dk := ne_of_none (k1 b o e (by simp)) hdk
          rw [upd_ne nb]
          exact e2
end
end Dh

/-! DhH -/
set_option Elab.async false
set_option linter.all false
set_option maxRecDepth 100000
set_option maxHeartbeats 4000000
namespace Dh
open PySem PySem.Spec PyProof.Rows L2

/-! ### what is picked from -/
def Pk (K : PySem.W.Frag) (M : List Addr) (H : Hp) (s : V) (xs : List V) : Prop :=
  (∃ a, s = .ref a ∧ (SqL K H a xs ∨ SqT K H a xs) ∧ a ∉ M) ∨ ∃ z : Str, s = .str z ∧ xs = z.cps.toList.map fun c => V.str ⟨#[c]⟩
theorem Pk.kp {K : PySem.W.Frag} {M : List Addr} {H H' : Hp} {s : V} {xs : List V} (k : Kp M H H') (h : Pk K M H s xs) : Pk K M H' s xs := by
  rcases h with ⟨a, e, h | h, n⟩ | h
  · exact .inl ⟨a, e, .inl (k.sqL n h), n⟩
  · exact .inl ⟨a, e, .inr (k.sqT n h), n⟩
  · exact .inr h
theorem str_len (z : Str) : z.cps.toList.length = z.length := by
  show z.cps.toList.length = z.cps.size
  simp
theorem Pk.len {K : PySem.W.Frag} {M : List Addr} {H : Hp} {s : V} {xs : List V} (h : Pk K M H s xs) (hl : xs.length ≤ sizeLine) : LenV K s H xs.length := by
  rcases h with ⟨a, rfl, h | h, _⟩ | ⟨z, rfl, e⟩
  · exact .inl ⟨_, h, rfl⟩
  · exact .inr ⟨_, h, rfl⟩
  · have e2 : xs.length = z.length := by rw [e, List.length_map, str_len]
    exact ⟨by rw [← e2]; exact hl, e2⟩
theorem Pk.at {K : PySem.W.Frag} {M : List Addr} {H : Hp} {s : V} {xs : List V} (h : Pk K M H s xs) (hl : xs.length ≤ sizeLine) {i : Nat} {x : V} (hx : xs[i]? = some x) {Q : VK} (q : Q x H) : rIx K s (.int (i : Int)) H Q := by
  rcases h with ⟨a, rfl, h | h, _⟩ | ⟨z, rfl, e⟩
  · exact .inl ⟨a, xs, i, x, rfl, rfl, h, atI_nat hx, q⟩
  · exact .inr (.inl ⟨a, xs, i, x, rfl, rfl, h, atI_nat hx, q⟩)
  · have e2 : xs.length = z.length := by rw [e, List.length_map, str_len]
    rw [e, List.getElem?_map] at hx
    cases hc : z.cps.toList[i]? with
    | none => rw [hc] at hx; cases hx
    | some c =>
      rw [hc] at hx
      have ex : x = V.str ⟨#[c]⟩ := (Option.some.inj hx).symm
      subst ex
      exact .inr (.inr ⟨z, i, c, rfl, rfl, by rw [← e2]; exact hl, atI_nat hc, q⟩)
theorem Kp.mut {M : List Addr} {H H' : Hp} {p : Addr} {o : HO} (k : Kp M H H') (h : H p = none) : Kp M H (upd H' p o) := fun b u e n => by
  rw [upd_ne (ne_of_none e h)]; exact k b u e n
theorem Kp.back {M : List Addr} {H H' : Hp} {b : Addr} (k : Kp M H H') (n : b ∉ M) (e : H' b = none) : H b = none := by
  cases z : H b with
  | none => rfl
  | some o => rw [k b o z n] at e; cases e
theorem Kp.free {dk lf : Addr} {H H' : Hp} {b : Addr} (k : Kp [dk, lf] H H') (D : Dk H' dk lf) (e : H' b = none) : H b = none := k.back (D.mem e) e
theorem big1000 {n : Nat} (h : n ≤ 1000) : n ≤ sizeLine := Nat.le_of_lt (small1000 h)

def spPick (K : PySem.W.Frag) : Sp := fun vs H Q _ => ∃ (dk lf : Addr) (s : V) (xs : List V), vs = [.ref dk, s] ∧ Dk H dk lf ∧ Pk K [dk, lf] H s xs ∧ xs ≠ [] ∧ xs.length ≤ 1000 ∧
  ∀ (H' : Hp) (x : V), x ∈ xs → Dk H' dk lf → Kp [dk, lf] H H' → Q x H'
def spShuf (K : PySem.W.Frag) : Sp := fun vs H Q _ => ∃ (dk lf a : Addr) (xs : List V), vs = [.ref dk, .ref a] ∧ Dk H dk lf ∧ (SqL K H a xs ∨ SqT K H a xs) ∧ a ∉ [dk, lf] ∧ xs.length ≤ 1000 ∧
  ∀ (H' : Hp) (l : Addr) (ys : List V), ys.Perm xs → H l = none → l ∉ [dk, lf] → H' l = some (.lst ys) → Dk H' dk lf → Kp [dk, lf] H H' → Q (.ref l) H'
section
variable {P : Program} {w : World} {K : PySem.W.Frag} {mg : Str → Option Value} {base : Heap}

theorem scPick : FnScope ["deck", "some"] ["deck", "some"] (defScope sPick) := ⟨rfl, rfl, rfl, by decide +kernel, rfl, by decide +kernel, by decide +kernel⟩
theorem okPick {f g : Addr} {fd gd : FuncData} (F : Fun K "_law_pick" "_law_pick" sPick f fd) (T : Blt mg) (Ddraw : Df P w K mg base "_law_draw" 1 g gd ["deck", "many"] spDraw) : FnOk P w K mg base CX0 2 f fd ["deck", "some"] (spPick K) := by
  refine F.ok scPick (fun vs H Q E h => ?_) (fun cdv A outer s H vs Q E hr h => ?_)
  · obtain ⟨_, _, _, _, rfl, _⟩ := h
    rfl
  · obtain ⟨dk, lf, so, xs, rfl, D, pk, ne, hl, k⟩ := h
    refine ⟨_, (pss_one (ps_ret (pe_ix ix_seq (pv 1) (pe_call Ddraw.ok (hr.mono (by decide)) (by rfl) Ddraw.m Ddraw.k Ddraw.b .nil pass0 (pa_cons (pv 0) (pa_cons (pe_callB call_len (by rfl) T.len (by decide +kernel) (pa_cons (pv 1) pa_nil)) pa_nil))) (fun _ _ => rfl)))), ?_⟩
    have pos : 0 < xs.length := List.length_pos_iff.mpr ne
    refine ⟨_, rfl, _, rfl, _, rfl, _, _, rfl, pk.len (big1000 hl), dk, lf, _, rfl, D, by omega, by omega, fun H' i D' K' i0 im => ?_⟩
    obtain ⟨j, rfl⟩ : ∃ j : Nat, i = (j : Int) := ⟨i.toNat, by omega⟩
    have hj : j < xs.length := by omega
    exact (pk.kp K').at (big1000 hl) (List.getElem?_eq_getElem hj) (k H' _ (List.getElem_mem hj) D' K')

theorem perm_erase {α : Type} : ∀ (l : List α) (i : Nat) (x : α), l[i]? = some x → (x :: l.eraseIdx i).Perm l
  | [], _, _, h => by simp at h
  | a :: r, 0, x, h => by simp at h; subst h; simp
  | a :: r, i + 1, x, h => by
    have ih := perm_erase r i x (by simpa using h)
    simp only [List.eraseIdx_cons_succ]
    exact (List.Perm.swap a x _).trans (ih.cons a)
theorem scShuf : FnScope ["deck", "some", "left", "found", "go"] ["deck", "some"] (defScope sShuf) := ⟨rfl, rfl, rfl, by decide +kernel, rfl, by decide +kernel, by decide +kernel⟩
theorem okShuf {f g : Addr} {fd gd : FuncData} (F : Fun K "_law_shuffled" "_law_shuffled" sShuf f fd) (T : Blt mg) (Ddraw : Df P w K mg base "_law_draw" 1 g gd ["deck", "many"] spDraw) : FnOk P w K mg base CX0 2 f fd ["deck", "some"] (spShuf K) := by
  refine F.ok scShuf (fun vs H Q E h => ?_) (fun cdv A outer s H vs Q E hr h => ?_)
  · obtain ⟨_, _, _, _, rfl, _⟩ := h
    rfl
  · obtain ⟨dk, lf, a, xs, rfl, D, sq, na, hl, k⟩ := h
    refine ⟨_, (pss_cons (ps_par (i := 2) (j := 3) rfl scShuf.nd rfl rfl (by decide) rfl rfl (pa_cons (pe_callTy call_list_of (by rfl) T.list (by decide +kernel) (pa_cons (pv 1) pa_nil)) (pa_cons (pe_lst pa_nil) pa_nil)) (by rfl))
      (pss_cons (ps_for PassesOwn.never rfl (pi_range1 (by rfl) T.range (pa_cons (pe_callB call_len (by rfl) T.len (by decide +kernel) (pa_cons (pv 1) pa_nil)) pa_nil)) (pg_name (i := 4) scShuf.nd rfl (Or.inl rfl))
        (pss_one (ps_expr (pe_bm PySem.F.plainAttrs_list PySem.F.slot_list_append PySem.F.type_list_append mt_append (pv 3) (pa_cons (pe_bm PySem.F.plainAttrs_list PySem.F.slot_list_pop PySem.F.type_list_pop mt_popAt (pv 2) (pa_cons (pe_call Ddraw.ok (hr.mono (by decide)) (by rfl) Ddraw.m Ddraw.k Ddraw.b .nil pass0 (pa_cons (pv 0) (pa_cons (pe_callB call_len (by rfl) T.len (by decide +kernel) (pa_cons (pv 2) pa_nil)) pa_nil))) pa_nil)) pa_nil)))))
      (pss_one (ps_ret (pv 3))))), ?_⟩
    -- left, found = list(some), []
    refine ⟨_, rfl, a, xs, rfl, sq, fun l1 h1 => ⟨by decide, fun l2 h2 => ⟨_, _, rfl, ?_⟩⟩⟩
    have n12 : l1 ≠ l2 := ne_of_none upd_same h2
    have D1 := (D.new (o := .lst xs) h1).new (o := .lst []) h2
    have h2' : H l2 = none := by rw [upd_ne n12.symm] at h2; exact h2
    have K1 : Kp [dk, lf] H (upd (upd H l1 (.lst xs)) l2 (.lst [])) := ((Kp.refl _ H).mut h1).mut h2'
    have sq1 : SqL K (upd (upd H l1 (.lst xs)) l2 (.lst [])) a xs ∨ SqT K (upd (upd H l1 (.lst xs)) l2 (.lst [])) a xs := sq.elim (fun z => .inl (K1.sqL na z)) (fun z => .inr (K1.sqT na z))
    refine ⟨_, rfl, _, xs.length, rfl, sq1.elim (fun z => .inl ⟨_, z, rfl⟩) (fun z => .inr ⟨_, z, rfl⟩), xs.length, rfl, by omega, by omega, ?_⟩
    refine for_range (lo := 0) (n := xs.length) (fun i σ H' => ∃ (left found : List V) (c : Option V), σ = [some (.ref dk), some (.ref a), some (.ref l1), some (.ref l2), c] ∧
      H' l1 = some (.lst left) ∧ H' l2 = some (.lst found) ∧ (found ++ left).Perm xs ∧ found.length = i ∧ Dk H' dk lf ∧ Kp [dk, lf] H H')
      ⟨xs, [], none, rfl, by rw [upd_ne n12]; exact upd_same, upd_same, .refl _, rfl, D1, K1⟩ ?_ ?_
    · rintro i σ H' hi ⟨left, found, c, rfl, e1, e2, pm, fl, D', K'⟩
      have lens : left.length + i = xs.length := by
        have := pm.length_eq
        rw [List.length_append] at this; omega
      refine ⟨_, rfl, Or.inl ⟨rfl, _, SqL.of e2⟩, _, rfl, Or.inl ⟨rfl, _, SqL.of e1⟩, _, rfl, _, rfl, _, left.length, rfl, .inl ⟨_, SqL.of e1, rfl⟩, dk, lf, _, rfl, D', by omega, by omega, fun H2 z D2 K2 z0 zm => ?_⟩
      obtain ⟨j, rfl⟩ : ∃ j : Nat, z = (j : Int) := ⟨z.toNat, by omega⟩
      have hj : j < left.length := by omega
      have m1 : l1 ∉ [dk, lf] := D.mem h1
      have m2 : l2 ∉ [dk, lf] := D.mem h2'
      have e1' := K2 _ _ e1 m1
      have e2' := K2 _ _ e2 m2
      refine ⟨l1, left, _, j, left[j], rfl, rfl, e1', by omega, by omega, by rw [seqIndex_of (by omega) (by omega)]; simp, List.getElem?_eq_getElem hj, ?_⟩
      have e2'' : (upd H2 l1 (HO.lst (left.eraseIdx j))) l2 = some (.lst found) := by rw [upd_ne n12.symm]; exact e2'
      refine ⟨l2, found, _, rfl, rfl, e2'', small1000 (by omega), ?_⟩
      have no1 : l1 ≠ dk ∧ l1 ≠ lf := ⟨fun z => m1 (by simp [z]), fun z => m1 (by simp [z])⟩
      have no2 : l2 ≠ dk ∧ l2 ≠ lf := ⟨fun z => m2 (by simp [z]), fun z => m2 (by simp [z])⟩
      refine ⟨left.eraseIdx j, found ++ [left[j]], _, rfl, by rw [upd_ne n12, upd_same], upd_same, ?_, by simp [fl], (D2.put_other no1.1 no1.2).put_other no2.1 no2.2, ((K'.trans K2).mut h1).mut h2'⟩
      rw [List.append_assoc]
      exact (List.Perm.append_left found (perm_erase left j _ (List.getElem?_eq_getElem hj))).trans pm
    · rintro σ H' ⟨left, found, c, rfl, e1, e2, pm, fl, D', K'⟩
      have lens : left.length = 0 := by
        have := pm.length_eq
        rw [List.length_append] at this; omega
      have e0 : left = [] := List.length_eq_zero_iff.mp lens
      subst e0
      rw [List.append_nil] at pm
      exact ⟨_, rfl, k H' l2 found pm h2' (D.mem h2') e2 D' K'⟩
end
end Dh

/-! DhN -/
set_option Elab.async false
set_option linter.all false
set_option maxRecDepth 100000
set_option maxHeartbeats 4000000
namespace Dh
open PySem PySem.Spec PyProof.Rows L2

/-! ### words: names and tags, by their signs -/
def lowS : Str := "abcdefghijklmnopqrstuvwxyz"
def alnS : Str := lowS ++ "0123456789"
def uppS : Str := "ABCDEFGHIJKLMNOPQRSTUVWXYZ"
def bothS : Str := lowS ++ uppS ++ "0123456789"
def wordOf (first others : Str) (x : Str) : Bool := match x.cps.toList with
  | [] => false
  | c :: r => decide (c ∈ first.cps.toList) && r.all (fun d => decide (d ∈ others.cps.toList)) && decide (r.length ≤ 11)
def resv : List Str := ["def", "case", "let", "if", "delay", "force"]
def nameOk (x : Str) : Bool := wordOf lowS alnS x && !(resv.contains x)
def tagOk (x : Str) : Bool := wordOf uppS bothS x

theorem inV_strs (x : Str) (us : List Str) : inV (.str x) (us.map V.str) = us.contains x := by
  unfold inV
  rw [List.any_map, List.contains_eq_any_beq]
  congr 1
  funext y
  show (y == x) = (x == y)
  exact BEq.comm
theorem flat_strs (us : List Str) : (us.map V.str).all flatV = true := by
  rw [List.all_map]
  exact List.all_eq_true.mpr fun _ _ => rfl
theorem str_map_at {us : List Str} {x : V} (h : x ∈ us.map V.str) : ∃ y, y ∈ us ∧ x = .str y := by
  obtain ⟨y, hy, e⟩ := List.mem_map.mp h
  exact ⟨y, hy, e.symm⟩

theorem nodup_len {α : Type} [BEq α] [LawfulBEq α] : ∀ (l m : List α), l.Nodup → (∀ x ∈ l, x ∈ m) → l.length ≤ m.length
  | [], _, _, _ => Nat.zero_le _
  | a :: r, m, nd, h => by
    obtain ⟨n1, n2⟩ := List.nodup_cons.mp nd
    have ha := h a List.mem_cons_self
    have ih := nodup_len r (m.erase a) n2 fun x hx => by
      have hne : x ≠ a := fun z => n1 (z ▸ hx)
      exact (List.mem_erase_of_ne hne).mpr (h x (List.mem_cons_of_mem _ hx))
    have e := List.length_erase_of_mem ha
    have pos : 0 < m.length := List.length_pos_of_mem ha
    rw [List.length_cons]
    omega
def spares (p : Str) (n : Nat) : List Str := (List.range n).map fun (i : Nat) => p ++ Str.ofString (toString (i : Int))
theorem spare_there {l us : List Str} (nd : l.Nodup) (h : us.length < l.length) : (l.filter fun s => !us.contains s) ≠ [] := by
  intro e
  have all : ∀ x ∈ l, x ∈ us := fun x hx => by
    cases q : us.contains x with
    | true => exact List.contains_iff_mem.mp q
    | false =>
      have : x ∈ l.filter fun s => !us.contains s := List.mem_filter.mpr ⟨hx, by rw [q]; rfl⟩
      rw [e] at this; cases this
  have := nodup_len l us nd all
  omega
theorem spares_len (p : Str) (n : Nat) : (spares p n).length = n := by simp [spares]
theorem sparesV_nd : (spares "v" 200).Nodup := by decide +kernel
theorem sparesV_ok : (spares "v" 200).all nameOk = true := by decide +kernel
theorem sparesT_nd : (spares "T" 90).Nodup := by decide +kernel
theorem sparesT_ok : (spares "T" 90).all tagOk = true := by decide +kernel
end Dh

/-! DhM -/
set_option Elab.async false
set_option linter.all false
set_option maxRecDepth 100000
set_option maxHeartbeats 4000000
namespace Dh
open PySem PySem.Spec PyProof.Rows L2

/-- where a body stands: the deck, and what has been kept since the entry -/
structure Sn (M : List Addr) (H0 H : Hp) (dk lf : Addr) : Prop where
  d : Dk H dk lf
  k : Kp M H0 H
  i : ∀ b ∈ [dk, lf], b ∈ M
theorem Sn.start {H : Hp} {dk lf : Addr} (D : Dk H dk lf) : Sn [dk, lf] H H dk lf := ⟨D, Kp.refl _ _, fun _ h => h⟩
theorem Sn.start3 {H : Hp} {dk lf u : Addr} (D : Dk H dk lf) : Sn [dk, lf, u] H H dk lf := ⟨D, Kp.refl _ _, fun b hb => by
  rcases List.mem_cons.mp hb with rfl | hb
  · simp
  · rcases List.mem_cons.mp hb with rfl | hb
    · simp
    · cases hb⟩
theorem Sn.stp {M : List Addr} {H0 H H1 : Hp} {dk lf p : Addr} {o : HO} (s : Sn M H0 H dk lf) (hp : H p = none) (e : upd H p o = H1) : H1 p = some o ∧ Sn M H0 H1 dk lf ∧ Kp [] H H1 := by
  subst e
  exact ⟨upd_same, ⟨s.d.new hp, s.k.trans (Kp.new hp), s.i⟩, Kp.new hp⟩
theorem Sn.call {M : List Addr} {H0 H H1 : Hp} {dk lf : Addr} (s : Sn M H0 H dk lf) (D : Dk H1 dk lf) (k : Kp [dk, lf] H H1) : Sn M H0 H1 dk lf := ⟨D, s.k.trans (k.more s.i), s.i⟩
theorem Sn.ext {M : List Addr} {H0 H H1 : Hp} {dk lf : Addr} (s : Sn M H0 H dk lf) (k : Kp [] H H1) : Sn M H0 H1 dk lf := by
  obtain ⟨kvs, h1, r⟩ := s.d.d
  obtain ⟨ls, h2, r2⟩ := s.d.l
  exact ⟨⟨⟨kvs, k _ _ h1 (by simp), r⟩, ⟨ls, k _ _ h2 (by simp), r2⟩⟩, s.k.trans (k.more fun _ h => nomatch h), s.i⟩
theorem Sn.out3 {H0 H : Hp} {dk lf u p : Addr} {o : HO} (s : Sn [dk, lf, u] H0 H dk lf) (hu : H u = some o) (hp : H p = none) : p ∉ [dk, lf, u] := by
  have h := s.d.mem hp
  intro z
  rcases List.mem_cons.mp z with rfl | z
  · simp at h
  · rcases List.mem_cons.mp z with rfl | z
    · simp at h
    · rcases List.mem_cons.mp z with rfl | z
      · rw [hu] at hp; cases hp
      · cases z
theorem Sn.mut {M : List Addr} {H0 H : Hp} {dk lf p : Addr} {o : HO} (s : Sn M H0 H dk lf) (h0 : H0 p = none) (n : p ∉ [dk, lf]) : Sn M H0 (upd H p o) dk lf :=
  ⟨s.d.put_other (fun z => n (by simp [z])) (fun z => n (by simp [z])), s.k.mut h0, s.i⟩
theorem Kp.at {H H1 : Hp} {b : Addr} {o : HO} (k : Kp [] H H1) (e : H b = some o) : H1 b = some o := k b o e (by simp)
theorem joinL_one : ∀ ds : List Nat, TL.joinL [] (ds.map fun d => [d]) = ds
  | [] => rfl
  | [d] => rfl
  | d :: e :: r => by
    have ih := joinL_one (e :: r)
    show [d] ++ ([] ++ TL.joinL [] ((e :: r).map fun d => [d])) = _
    rw [ih]; rfl
theorem join1 (ds : List Nat) : (Txt.join (Str.ofString "") (ds.map fun d => (⟨#[d]⟩ : Str))).cps.toList = ds := by
  rw [TL.join_eq]
  show TL.tl (Str.join _ _) = ds
  rw [TL.tl_join]
  have e1 : TL.tl (Str.ofString "") = [] := by decide +kernel
  have e2 : (ds.map fun d => (⟨#[d]⟩ : Str)).map TL.tl = ds.map fun d => [d] := by
    rw [List.map_map]; rfl
  rw [e1, e2, joinL_one]
theorem word_make {c : Nat} {ds : List Nat} (first others : Str) (hc : c ∈ first.cps.toList) (hd : ∀ d ∈ ds, d ∈ others.cps.toList) (hl : ds.length ≤ 11) :
    wordOf first others ((⟨#[c]⟩ : Str) ++ Txt.join (Str.ofString "") (ds.map fun d => (⟨#[d]⟩ : Str))) = true := by
  have e : ((⟨#[c]⟩ : Str) ++ Txt.join (Str.ofString "") (ds.map fun d => (⟨#[d]⟩ : Str))).cps.toList = c :: ds := by
    rw [Str.cps_append, Array.toList_append, join1]; rfl
  unfold wordOf
  rw [e]
  simp only [Bool.and_eq_true, decide_eq_true_eq, List.all_eq_true]
  exact ⟨⟨hc, hd⟩, hl⟩
theorem word_len {first others x : Str} (h : wordOf first others x = true) : 1 ≤ x.length ∧ x.length ≤ 12 := by
  unfold wordOf at h
  have e := str_len x
  cases q : x.cps.toList with
  | nil => rw [q] at h; cases h
  | cons c r =>
    rw [q] at h e
    simp only [Bool.and_eq_true, decide_eq_true_eq] at h
    rw [List.length_cons] at e
    omega
def namesW : List Str := ["a", "x", "y", "q", "put", "rest", "x1", "defs", "cases", "lets", "iff", "delays", "forced", "abcdefghijkl", "int", "name", "call", "make", "op", "of", "cell", "value"]
theorem namesW_ok : namesW.all (wordOf lowS alnS) = true := by decide +kernel
theorem Kp.three {dk lf u : Addr} {H H' : Hp} (k : Kp [dk, lf] H H') : Kp [dk, lf, u] H H' := k.more fun b hb => by
  rcases List.mem_cons.mp hb with rfl | hb
  · simp
  · rcases List.mem_cons.mp hb with rfl | hb
    · simp
    · cases hb

abbrev rAddT : R2 := fun x y H Q => ∃ i j, x = V.str i ∧ y = V.str j ∧ i.length + j.length ≤ sizeLine ∧ Q (V.str (i ++ j)) H
abbrev rStrI : List V → Hp → VK → Prop := fun xs H Q => ∃ i : Int, xs = [V.int i] ∧ i.natAbs.log2 < 1920 ∧ Q (V.str (Str.ofString (toString i))) H
theorem set_in {σ : St1} {i : Nat} {x : Option V} (h : i < σ.length) : (σ.set i x)[i]? = some x := List.getElem?_set_self h
theorem not_contains {us : List Str} {x : Str} : (!us.contains x) = true → us.contains x = false := by
  cases us.contains x <;> simp
/-- [s for s in [p + str(at) for at in range(n)] if s not in used][0] -/
theorem spare_ok {K : PySem.W.Frag} {σ : St1} {i j n : Nat} {u : Addr} {p : Str} {us : List Str} {H : Hp} {Q : VK} (hi : i < σ.length) (hj : j < σ.length) (h1 : σ[1]? = some (some (.ref u))) (n1 : j ≠ 1) (hu : H u = some (.lst (us.map V.str)))
    (hn : n ≤ 500) (nd : (spares p n).Nodup) (hl : us.length < n) (pl : ∀ m : Nat, m < n → p.length + (Str.ofString (toString ((m : Nat) : Int))).length ≤ sizeLine)
    (k : ∀ (H' : Hp) (z : Str), z ∈ spares p n → us.contains z = false → Kp [] H H' → Q (.str z) H') :
    tOp (rIxL K) (tLc (iList K (tLc (iRng1 (tCons (tC (V.int (n : Int))) tNil)) (gName i) tYes (tOp rAddT (tC (V.str p)) (tCB rStrI (tCons (tVar i) tNil))) [i])) (gName j) (tTest (tOp (rIn K true) (tVar j) (tVar 1))) (tVar j) [j]) (tC (V.int 0)) σ H Q := by
  refine ⟨(n : Int), rfl, by omega, by omega, fun D hD => ?_⟩
  have nuD : u ≠ D := ne_of_none hu hD
  refine lc_range (lo := 0) (n := (n : Int).toNat) (fun m H' => H' = upd H D (.lst ((spares p m).map V.str))) rfl ?_ ?_
  · rintro m H' hm rfl
    refine ⟨by show ((σ.set i none).set i _).set i none = σ.set i none; rw [List.set_set, List.set_set], yesI ?_⟩
    refine ⟨_, set_in (by rw [wipe_length]; exact hi), (0 : Int) + (m : Int), rfl, ?_, _, _, rfl, rfl, ?_, _, upd_same, ?_, ?_⟩
    · have z : ((0 : Int) + (m : Int)).natAbs < 2 ^ 10 := by omega
      by_cases h0 : ((0 : Int) + (m : Int)).natAbs = 0
      · rw [h0]; decide
      · have := (Nat.log2_lt h0).mpr z
        omega
    · rw [Int.zero_add]; exact pl m (by omega)
    · rw [List.length_map, spares_len]; exact small1000 (by omega)
    · rw [upd_upd, Int.zero_add]
      congr 2
      unfold spares
      rw [List.range_succ, List.map_append, List.map_append]; rfl
  · rintro H' rfl
    rw [Int.toNat_natCast]
    have kD : Kp [] H (upd H D (.lst ((spares p n).map V.str))) := Kp.new hD
    have hu2 : (upd H D (.lst ((spares p n).map V.str))) u = some (.lst (us.map V.str)) := by rw [upd_ne nuD]; exact hu
    have eD : (upd H D (.lst ((spares p n).map V.str))) D = some (.lst ((spares p n).map V.str)) := upd_same
    generalize upd H D (.lst ((spares p n).map V.str)) = H2 at kD hu2 eD
    refine ⟨D, rfl, ⟨_, SqL.of eD⟩, fun L hL => ?_⟩
    have nDL : D ≠ L := ne_of_none eD hL
    have nuL : u ≠ L := ne_of_none hu2 hL
    refine lc_list (K := K) (a := D) (xs := (spares p n).map V.str) (fun m H' => H' = upd H2 L (.lst ((((spares p n).take m).filter fun s => !us.contains s).map V.str))) rfl ?_ ?_ ?_
    · rintro m H' _ rfl
      exact SqL.of (by rw [upd_ne nDL]; exact eD)
    · rintro m y H' hm rfl
      obtain ⟨s, hs, rfl⟩ := map_at hm
      have hml : m < n := by
        have := (List.getElem?_eq_some_iff.mp hs).1
        rw [spares_len] at this; exact this
      have e : ((spares p n).take (m + 1)) = (spares p n).take m ++ [s] := by rw [List.take_add_one, hs]; rfl
      refine ⟨by show ((σ.set j none).set j _).set j none = σ.set j none; rw [List.set_set, List.set_set], ?_⟩
      refine ⟨_, set_in (by rw [wipe_length]; exact hj), _, ?_, u, _, rfl, .inl (SqL.of (by rw [upd_ne nuL]; exact hu2)), rfl, flat_strs us, _, rfl, ?_⟩
      · rw [List.getElem?_set_ne n1]
        show (σ.set j none)[1]? = _
        rw [List.getElem?_set_ne n1]; exact h1
      · rw [inV_strs, if_pos rfl]
        refine ite2 (fun hc => ?_) (fun hc => ?_)
        · refine ⟨_, set_in (by rw [wipe_length]; exact hj), _, upd_same, ?_, ?_⟩
          · rw [List.length_map]
            have := List.length_filter_le (fun s => !us.contains s) ((spares p n).take m)
            rw [List.length_take, spares_len] at this
            exact small1000 (by omega)
          · rw [upd_upd, e, List.filter_append, List.map_append]
            congr 3
            rw [List.filter_cons_of_pos (p := fun s => !us.contains s) hc]; rfl
        · rw [e, List.filter_append, List.filter_cons_of_neg (p := fun s => !us.contains s) hc, List.filter_nil, List.append_nil]
    · rintro H' rfl
      rw [List.length_map]
      have et : (spares p n).take (spares p n).length = spares p n := List.take_length
      rw [et]
      have kL : Kp [] H2 (upd H2 L (.lst (((spares p n).filter fun s => !us.contains s).map V.str))) := Kp.new hL
      have eL : (upd H2 L (.lst (((spares p n).filter fun s => !us.contains s).map V.str))) L = some (.lst (((spares p n).filter fun s => !us.contains s).map V.str)) := upd_same
      generalize upd H2 L (.lst (((spares p n).filter fun s => !us.contains s).map V.str)) = H3 at kL eL
      have ne := spare_there nd (us := us) (by rw [spares_len]; exact hl)
      cases hf : (spares p n).filter fun s => !us.contains s with
      | nil => exact absurd hf ne
      | cons z r =>
        rw [hf] at eL
        have mz : z ∈ (spares p n).filter fun s => !us.contains s := by rw [hf]; exact List.mem_cons_self
        obtain ⟨m1, m2⟩ := List.mem_filter.mp mz
        exact ⟨L, _, 0, .str z, rfl, rfl, SqL.of eL, atI_nat (j := 0) rfl, k H3 z m1 (not_contains m2) (kD.trans kL)⟩

def spName : Sp := fun vs H Q _ => ∃ (dk lf u : Addr) (us : List Str), vs = [.ref dk, .ref u] ∧ Dk H dk lf ∧ u ∉ [dk, lf] ∧ H u = some (.lst (us.map V.str)) ∧ us.length ≤ 80 ∧
  ∀ (H' : Hp) (x : Str), nameOk x = true → us.contains x = false → H' u = some (.lst ((us ++ [x]).map V.str)) → Dk H' dk lf → Kp [dk, lf, u] H H' → Q (.str x) H'
section
variable {P : Program} {w : World} {K : PySem.W.Frag} {mg : Str → Option Value} {base : Heap}
theorem scName : FnScope ["deck", "used", "words", "way", "name", "letters", "signs", "go", "spare", "at"] ["deck", "used"] (defScope sName) := ⟨rfl, rfl, rfl, by decide +kernel, rfl, by decide +kernel, by decide +kernel⟩
theorem okName {f g g2 : Addr} {fd gd gd2 : FuncData} (F : Fun K "_law_name" "_law_name" sName f fd) (T : Blt mg) (Ddraw : Df P w K mg base "_law_draw" 1 g gd ["deck", "many"] spDraw)
    (Dpick : Df P w K mg base "_law_pick" 2 g2 gd2 ["deck", "some"] (spPick K)) : FnOk P w K mg base CX0 3 f fd ["deck", "used"] spName := by
  refine F.ok scName (fun vs H Q E h => ?_) (fun cdv A outer s H vs Q E hr h => ?_)
  · obtain ⟨_, _, _, _, rfl, _⟩ := h
    rfl
  · obtain ⟨dk, lf, u, us, rfl, D, hu2, hus, hul, k⟩ := h
    have hu := hu_of hr
    refine ⟨_, (pss_cons (ps_set (i := 2) scName.nd rfl (Or.inl rfl) (pe_lst (pa_cons pe_str (pa_cons pe_str (pa_cons pe_str (pa_cons pe_str (pa_cons pe_str (pa_cons pe_str (pa_cons pe_str (pa_cons pe_str (pa_cons pe_str (pa_cons pe_str (pa_cons pe_str (pa_cons pe_str (pa_cons pe_str (pa_cons pe_str pa_nil))))))))))))))))
      (pss_cons (ps_set (i := 2) scName.nd rfl (Or.inl rfl) (pe_op op_cat (pv 2) (pe_lst (pa_cons pe_str (pa_cons pe_str (pa_cons pe_str (pa_cons pe_str (pa_cons pe_str (pa_cons pe_str (pa_cons pe_str (pa_cons pe_str pa_nil)))))))))))
      (pss_cons (ps_set (i := 3) scName.nd rfl (Or.inl rfl) (pe_call Ddraw.ok (hr.mono (by decide)) (by rfl) Ddraw.m Ddraw.k Ddraw.b .nil pass0 (pa_cons (pv 0) (pa_cons pe_int pa_nil))))
      (pss_cons (ps_set (i := 4) scName.nd rfl (Or.inl rfl) (pe_call Dpick.ok (hr.mono (by decide)) (by rfl) Dpick.m Dpick.k Dpick.b .nil pass0 (pa_cons (pv 0) (pa_cons (pv 2) pa_nil))))
      (Evl.pss_cut (ps_if (pt_cmpR op_eq (pv 3) pe_int (nomark _)) (pss_cons (ps_set (i := 5) scName.nd rfl (Or.inl rfl) pe_str)
        (pss_cons (ps_set (i := 6) scName.nd rfl (Or.inr rfl) (pe_op op_add_str (pv 5) pe_str))
        (pss_one (ps_set (i := 4) scName.nd rfl (Or.inl rfl) (pe_op op_add_str (pe_call Dpick.ok (hr.mono (by decide)) (by rfl) Dpick.m Dpick.k Dpick.b .nil pass0 (pa_cons (pv 0) (pa_cons (pv 5) pa_nil))) (pe_join pe_str (pe_lc (own := [("go", 7)]) (g := gName 7) (tt := tYes) rfl scName.nd (pi_range1 (by rfl) T.range (pa_cons (pe_call Ddraw.ok (hr.mono (by decide)) (by rfl) Ddraw.m Ddraw.k Ddraw.b .nil pass0 (pa_cons (pv 0) (pa_cons pe_int pa_nil))) pa_nil)) (blkOk_by (N := ["deck", "used", "words", "way", "name", "letters", "signs", "go", "spare", "at"]) (sc := defScope sName) (by decide +kernel)) (fun _ _ _ _ _ => pg_name (i := 7) scName.nd rfl (Or.inl rfl)) (fun _ _ _ _ _ => pts_nil) (fun _ _ _ _ _ => (pe_call Dpick.ok (hr.mono (by decide)) (by rfl) Dpick.m Dpick.k Dpick.b .nil pass0 (pa_cons (pv 0) (pa_cons (pv 6) pa_nil))))))))))) pss_nil)
      (Evl.pss_cut (ps_if (PW.pt (pw_or (pt_cmpR op_in_seq (pv 4) (pv 1) (by rfl)) (pw_or1 (pt_cmpR op_in_seq (pv 4) (pe_tup (pa_cons pe_str (pa_cons pe_str (pa_cons pe_str (pa_cons pe_str (pa_cons pe_str (pa_cons pe_str pa_nil))))))) (by rfl))))) (pss_one (ps_set (i := 4) scName.nd rfl (Or.inl rfl) (pe_ix ix_list (pe_lc (own := [("spare", 8)]) (g := gName 8) (tt := tTest (tOp (rIn K true) (tVar 8) (tVar 1))) rfl scName.nd (pi_list (pe_lc (own := [("at", 9)]) (g := gName 9) (tt := tYes) rfl scName.nd (pi_range1 (by rfl) T.range (pa_cons pe_int pa_nil)) (blkOk_by (N := ["deck", "used", "words", "way", "name", "letters", "signs", "go", "spare", "at"]) (sc := defScope sName) (by decide +kernel)) (fun _ _ _ _ _ => pg_name (i := 9) scName.nd rfl (Or.inl rfl)) (fun _ _ _ _ _ => pts_nil) (fun _ _ _ _ _ => (pe_op op_add_str pe_str (pe_callTy call_str_int (by rfl) T.str (by decide +kernel) (pa_cons (pv 9) pa_nil)))))) (blkOk_by (N := ["deck", "used", "words", "way", "name", "letters", "signs", "go", "spare", "at"]) (sc := defScope sName) (by decide +kernel)) (fun _ _ _ _ _ => pg_name (i := 8) scName.nd rfl (Or.inl rfl)) (fun _ _ _ _ _ => (pts_one (pt_cmpR op_notIn_seq (pv 8) (pv 1) (by rfl)))) (fun _ _ _ _ _ => (pv 8))) pe_int (fun _ _ => rfl)))) pss_nil)
      (pss_cons (ps_expr (pe_bm PySem.F.plainAttrs_list PySem.F.slot_list_append PySem.F.type_list_append mt_append (pv 1) (pa_cons (pv 4) pa_nil)))
      (pss_one (ps_ret (pv 4)))))))))), ?_⟩
    have s0 := Sn.start3 (u := u) D
    -- words
    refine ⟨by decide, fun p1 h1 => ?_⟩
    generalize hG : upd H p1 _ = H1
    obtain ⟨e1, s1, x1⟩ := s0.stp h1 hG
    clear hG
    refine ⟨_, rfl, by decide, fun p2 h2 => ?_⟩
    generalize hG : upd H1 p2 _ = H2
    obtain ⟨e2, s2, x2⟩ := s1.stp h2 hG
    clear hG
    refine ⟨p1, p2, _, _, rfl, rfl, x2.at e1, e2, by decide, fun p3 h3 => ?_⟩
    generalize hG : upd H2 p3 _ = H3
    obtain ⟨e3, s3, x3⟩ := s2.stp h3 hG
    clear hG
    have n3 : p3 ∉ [dk, lf] := s2.d.mem h3
    have hus3 := x3.at (x2.at (x1.at hus))
    have e3 : H3 p3 = some (.lst (namesW.map V.str)) := e3
    clear e1 e2 x1 x2 x3 h1 h2 h3 hus s0 s1 s2
    -- way, name
    refine ⟨_, rfl, dk, lf, 3, rfl, s3.d, by decide, by decide, fun H4 way D4 K4 _ _ => ?_⟩
    have s4 := s3.call D4 K4
    have hus4 := K4 _ _ hus3 hu2
    have e4 := K4 _ _ e3 n3
    refine ⟨_, rfl, _, rfl, dk, lf, _, _, rfl, s4.d, .inl ⟨p3, rfl, .inl (SqL.of e4), n3⟩, by decide, by decide, fun H5 xv hx D5 K5 => ?_⟩
    obtain ⟨x, hxw, rfl⟩ := str_map_at hx
    have s5 := s4.call D5 K5
    have hus5 := K5 _ _ hus4 hu2
    have wx : wordOf lowS alnS x = true := List.all_eq_true.mp namesW_ok x hxw
    clear hx hxw e4 hus4 s4 D4 K4 D5 K5
    -- if way == 0
    refine ⟨fun σ H' => ∃ (y : Str) (c5 c6 : Option V), σ = [some (.ref dk), some (.ref u), some (.ref p3), some (.int way), some (.str y), c5, c6, none, none, none] ∧ wordOf lowS alnS y = true ∧ Sn [dk, lf, u] H H' dk lf ∧ H' u = some (.lst (us.map V.str)), ?_, ?_⟩
    · refine ⟨_, rfl, rfl, _, rfl, ite2 (fun _ => ?_) (fun _ => ⟨x, none, none, rfl, wx, s5, hus5⟩)⟩
      refine ⟨_, rfl, _, _, rfl, rfl, by decide, _, rfl, _, rfl, dk, lf, _, _, rfl, s5.d, .inr ⟨_, rfl, rfl⟩, by decide +kernel, by decide +kernel, fun H6 c hc D6 K6 => ?_⟩
      obtain ⟨cc, hcc, rfl⟩ := List.mem_map.mp hc
      have s6 := s5.call D6 K6
      have hus6 := K6 _ _ hus5 hu2
      refine ⟨⟨_, rfl⟩, _, rfl, dk, lf, 12, rfl, D6, by decide, by decide, fun H7 i D7 K7 i0 i12 => ?_⟩
      have s7 := s6.call D7 K7
      have hus7 := K7 _ _ hus6 hu2
      refine ⟨i, rfl, by omega, by omega, fun L hL => ?_⟩
      have nL := s7.d.mem hL
      have nL3 := s7.out3 hus7 hL
      have hL0 := s7.k.back nL3 hL
      have nuL : u ≠ L := fun z => nL3 (by simp [z])
      refine lc_range (lo := 0) (n := i.toNat) (fun j H' => ∃ ds : List Nat, ds.length = j ∧ (∀ d ∈ ds, d ∈ alnS.cps.toList) ∧ H' L = some (.lst (ds.map fun d => V.str ⟨#[d]⟩)) ∧ Sn [dk, lf, u] H H' dk lf ∧ H' u = some (.lst (us.map V.str)))
        ⟨[], rfl, (fun _ h => nomatch h), upd_same, s7.mut hL0 nL, by rw [upd_ne nuL]; exact hus7⟩ ?_ ?_
      · rintro j H' hj ⟨ds, dl, dm, eL, s', hu'⟩
        refine ⟨rfl, yesI ?_⟩
        refine ⟨_, rfl, _, rfl, dk, lf, _, _, rfl, s'.d, .inr ⟨_, rfl, rfl⟩, by decide +kernel, by decide +kernel, fun H9 y hy D9 K9 => ?_⟩
        obtain ⟨yy, hyy, rfl⟩ := List.mem_map.mp hy
        have s9 := s'.call D9 K9
        refine ⟨_, K9 _ _ eL nL, by rw [List.length_map]; exact small1000 (by omega), ds ++ [yy], by simp [dl], ?_, by rw [upd_same]; simp, s9.mut hL0 nL, by rw [upd_ne nuL]; exact K9 _ _ hu' hu2⟩
        intro d hd
        rcases List.mem_append.mp hd with hd | hd
        · exact dm d hd
        · rw [List.mem_singleton.mp hd]; exact hyy
      · rintro H' ⟨ds, dl, dm, eL, s', hu'⟩
        have em : (ds.map fun d => V.str ⟨#[d]⟩) = (ds.map fun d => (⟨#[d]⟩ : Str)).map V.str := by rw [List.map_map]; rfl
        rw [em] at eL
        have ls : ((ds.map fun d => (⟨#[d]⟩ : Str)).map (·.length)).sum = ds.length := by
          rw [List.map_map]
          clear em eL dm dl
          induction ds with
          | nil => rfl
          | cons a r ih => rw [List.map_cons, List.sum_cons, ih, List.length_cons]; show 1 + r.length = r.length + 1; omega
        have dl11 : ds.length ≤ 11 := by omega
        have wm := word_make lowS alnS hcc dm dl11
        have wl := word_len wm
        rw [Str.length_append] at wl
        refine ⟨_, L, _, rfl, rfl, .inl (SqL.of eL), by rw [ls, List.length_map, show (Str.ofString "").length = 0 from by decide +kernel]; omega, _, _, rfl, rfl, ?_, ?_⟩
        · exact big1000 (by omega)
        · exact ⟨_, _, _, rfl, wm, s', hu'⟩
    · rintro σ H6 ⟨y, c5, c6, rfl, wy, s6, hus6⟩
      clear s5 hus5 wx
      -- if name in used or name in (..)
      refine ⟨fun σ H' => ∃ (z : Str) (c5 c6 : Option V), σ = [some (.ref dk), some (.ref u), some (.ref p3), some (.int way), some (.str z), c5, c6, none, none, none] ∧ nameOk z = true ∧ us.contains z = false ∧ Sn [dk, lf, u] H H' dk lf ∧ H' u = some (.lst (us.map V.str)), ?_, ?_⟩
      · have big : ∀ m : Nat, m < 200 → (Str.ofString "v").length + (Str.ofString (toString ((m : Nat) : Int))).length ≤ sizeLine := by decide +kernel
        refine ⟨_, rfl, _, rfl, u, _, rfl, .inl (SqL.of hus6), rfl, flat_strs us, _, rfl, ?_⟩
        rw [inV_strs]
        cases hc : us.contains y with
        | true =>
          refine iteT ?_
          refine iteT ?_
          refine spare_ok (K := K) (i := 9) (j := 8) (n := 200) (p := "v") (u := u) (us := us) (by show 9 < 10; decide) (by show 8 < 10; decide) rfl (by decide) hus6 (by decide) sparesV_nd (by omega) big fun H8 z hz nz k8 => ?_
          exact ⟨z, _, _, rfl, List.all_eq_true.mp sparesV_ok z hz, nz, s6.ext k8, k8.at hus6⟩
        | false =>
          refine iteF ?_
          refine ⟨_, rfl, by decide, fun p4 h4 => ?_⟩
          generalize hG : upd H6 p4 _ = H7
          obtain ⟨e4, s7, x4⟩ := s6.stp h4 hG
          clear hG
          have e4 : H7 p4 = some (.tup (resv.map V.str)) := e4
          refine ⟨p4, _, rfl, .inr (SqT.of e4), rfl, flat_strs resv, _, rfl, ?_⟩
          rw [inV_strs]
          cases hr : resv.contains y with
          | true =>
            refine iteT ?_
            refine spare_ok (K := K) (i := 9) (j := 8) (n := 200) (p := "v") (u := u) (us := us) (by show 9 < 10; decide) (by show 8 < 10; decide) rfl (by decide) (x4.at hus6) (by decide) sparesV_nd (by omega) big fun H8 z hz nz k8 => ?_
            exact ⟨z, _, _, rfl, List.all_eq_true.mp sparesV_ok z hz, nz, s7.ext k8, k8.at (x4.at hus6)⟩
          | false =>
            refine iteF ?_
            exact ⟨y, c5, c6, rfl, by unfold nameOk; rw [wy, hr]; rfl, hc, s7, x4.at hus6⟩
      · rintro σ H7 ⟨z, c5, c6, rfl, oz, nz, s7, hus7⟩
        refine ⟨_, rfl, Or.inl ⟨rfl, _, SqL.of hus7⟩, _, rfl, u, _, _, rfl, rfl, hus7, by rw [List.length_map]; exact small1000 (by omega), ?_⟩
        have e : us.map V.str ++ [V.str z] = (us ++ [z]).map V.str := by simp
        rw [e]
        exact ⟨_, rfl, k _ z oz nz upd_same (s7.d.put_other (fun q => hu2 (by simp [q])) (fun q => hu2 (by simp [q]))) (s7.k.trans (Kp.put (by simp)))⟩
end
end Dh

/-! DhT -/
set_option Elab.async false
set_option linter.all false
set_option maxRecDepth 100000
set_option maxHeartbeats 4000000
namespace Dh
open PySem PySem.Spec PyProof.Rows L2

def tagsW : List Str := ["N", "C", "Q", "Box", "Def", "Case", "T1", "IF", "Abcdefghijkl", "Z9z", "GHJKLM", "OPRSUVWXY", "E2345678mnoq"]
theorem tagsW_ok : tagsW.all tagOk = true := by decide +kernel
def spTag : Sp := fun vs H Q _ => ∃ (dk lf u : Addr) (us : List Str), vs = [.ref dk, .ref u] ∧ Dk H dk lf ∧ u ∉ [dk, lf] ∧ H u = some (.lst (us.map V.str)) ∧ us.length ≤ 80 ∧
  ∀ (H' : Hp) (x : Str), tagOk x = true → us.contains x = false → H' u = some (.lst ((us ++ [x]).map V.str)) → Dk H' dk lf → Kp [dk, lf, u] H H' → Q (.str x) H'
section
variable {P : Program} {w : World} {K : PySem.W.Frag} {mg : Str → Option Value} {base : Heap}
theorem scTag : FnScope ["deck", "used", "name", "spare", "at"] ["deck", "used"] (defScope sTag) := ⟨rfl, rfl, rfl, by decide +kernel, rfl, by decide +kernel, by decide +kernel⟩
theorem okTag {f g2 : Addr} {fd gd2 : FuncData} (F : Fun K "_law_tag" "_law_tag" sTag f fd) (T : Blt mg)
    (Dpick : Df P w K mg base "_law_pick" 2 g2 gd2 ["deck", "some"] (spPick K)) : FnOk P w K mg base CX0 3 f fd ["deck", "used"] spTag := by
  refine F.ok scTag (fun vs H Q E h => ?_) (fun cdv A outer s H vs Q E hr h => ?_)
  · obtain ⟨_, _, _, _, rfl, _⟩ := h
    rfl
  · obtain ⟨dk, lf, u, us, rfl, D, hu2, hus, hul, k⟩ := h
    refine ⟨_, (pss_cons (ps_set (i := 2) scTag.nd rfl (Or.inl rfl) (pe_call Dpick.ok (hr.mono (by decide)) (by rfl) Dpick.m Dpick.k Dpick.b .nil pass0 (pa_cons (pv 0) (pa_cons (pe_lst (pa_cons pe_str (pa_cons pe_str (pa_cons pe_str (pa_cons pe_str (pa_cons pe_str (pa_cons pe_str (pa_cons pe_str (pa_cons pe_str (pa_cons pe_str (pa_cons pe_str (pa_cons pe_str (pa_cons pe_str (pa_cons pe_str pa_nil)))))))))))))) pa_nil))))
      (Evl.pss_cut (ps_if (pt_cmpR op_in_seq (pv 2) (pv 1) (by rfl)) (pss_one (ps_set (i := 2) scTag.nd rfl (Or.inl rfl) (pe_ix ix_list (pe_lc (own := [("spare", 3)]) (g := gName 3) (tt := tTest (tOp (rIn K true) (tVar 3) (tVar 1))) rfl scTag.nd (pi_list (pe_lc (own := [("at", 4)]) (g := gName 4) (tt := tYes) rfl scTag.nd (pi_range1 (by rfl) T.range (pa_cons pe_int pa_nil)) (blkOk_by (N := ["deck", "used", "name", "spare", "at"]) (sc := defScope sTag) (by decide +kernel)) (fun _ _ _ _ _ => pg_name (i := 4) scTag.nd rfl (Or.inl rfl)) (fun _ _ _ _ _ => pts_nil) (fun _ _ _ _ _ => (pe_op op_add_str pe_str (pe_callTy call_str_int (by rfl) T.str (by decide +kernel) (pa_cons (pv 4) pa_nil)))))) (blkOk_by (N := ["deck", "used", "name", "spare", "at"]) (sc := defScope sTag) (by decide +kernel)) (fun _ _ _ _ _ => pg_name (i := 3) scTag.nd rfl (Or.inl rfl)) (fun _ _ _ _ _ => (pts_one (pt_cmpR op_notIn_seq (pv 3) (pv 1) (by rfl)))) (fun _ _ _ _ _ => (pv 3))) pe_int (fun _ _ => rfl)))) pss_nil)
      (pss_cons (ps_expr (pe_bm PySem.F.plainAttrs_list PySem.F.slot_list_append PySem.F.type_list_append mt_append (pv 1) (pa_cons (pv 2) pa_nil)))
      (pss_one (ps_ret (pv 2)))))), ?_⟩
    have s0 := Sn.start3 (u := u) D
    refine ⟨_, rfl, by decide, fun p1 h1 => ?_⟩
    generalize hG : upd H p1 _ = H1
    obtain ⟨e1, s1, x1⟩ := s0.stp h1 hG
    clear hG
    have e1 : H1 p1 = some (.lst (tagsW.map V.str)) := e1
    refine ⟨dk, lf, _, _, rfl, s1.d, .inl ⟨p1, rfl, .inl (SqL.of e1), s0.d.mem h1⟩, by decide, by decide, fun H5 xv hx D5 K5 => ?_⟩
    obtain ⟨x, hxw, rfl⟩ := str_map_at hx
    have s6 := s1.call D5 K5
    have hus6 := K5 _ _ (x1.at hus) hu2
    have wx : tagOk x = true := List.all_eq_true.mp tagsW_ok x hxw
    have big : ∀ m : Nat, m < 90 → (Str.ofString "T").length + (Str.ofString (toString ((m : Nat) : Int))).length ≤ sizeLine := by decide +kernel
    -- if name in used
    refine ⟨fun σ H' => ∃ (z : Str), σ = [some (.ref dk), some (.ref u), some (.str z), none, none] ∧ tagOk z = true ∧ us.contains z = false ∧ Sn [dk, lf, u] H H' dk lf ∧ H' u = some (.lst (us.map V.str)), ?_, ?_⟩
    · refine ⟨_, rfl, _, rfl, u, _, rfl, .inl (SqL.of hus6), rfl, flat_strs us, _, rfl, ?_⟩
      rw [inV_strs]
      cases hc : us.contains x with
      | true =>
        refine iteT ?_
        refine spare_ok (K := K) (i := 4) (j := 3) (n := 90) (p := "T") (u := u) (us := us) (by show 4 < 5; decide) (by show 3 < 5; decide) rfl (by decide) hus6 (by decide) sparesT_nd (by omega) big fun H8 z hz nz k8 => ?_
        exact ⟨z, rfl, List.all_eq_true.mp sparesT_ok z hz, nz, s6.ext k8, k8.at hus6⟩
      | false =>
        refine iteF ?_
        exact ⟨x, rfl, wx, hc, s6, hus6⟩
    · rintro σ H7 ⟨z, rfl, oz, nz, s7, hus7⟩
      refine ⟨_, rfl, Or.inl ⟨rfl, _, SqL.of hus7⟩, _, rfl, u, _, _, rfl, rfl, hus7, by rw [List.length_map]; exact small1000 (by omega), ?_⟩
      have e : us.map V.str ++ [V.str z] = (us ++ [z]).map V.str := by simp
      rw [e]
      exact ⟨_, rfl, k _ z oz nz upd_same (s7.d.put_other (fun q => hu2 (by simp [q])) (fun q => hu2 (by simp [q]))) (s7.k.trans (Kp.put (by simp)))⟩
end
end Dh

/-! DhL -/
set_option Elab.async false
set_option linter.all false
set_option maxRecDepth 100000
set_option maxHeartbeats 4000000
namespace Dh
open PySem PySem.Spec PyProof.Rows L2

/-! ### texts of plain signs -/
def low (x : Str) : Prop := ∀ c ∈ x.cps.toList, c < 128
theorem low_strOk {x : Str} (h : low x) : PyData.strOk x = true := by
  unfold PyData.strOk
  rw [← Array.all_toList, List.all_eq_true]
  intro c hc
  have := h c hc
  exact decide_eq_true (by omega)
theorem word_low {first others x : Str} (hf : low first) (ho : low others) (h : wordOf first others x = true) : low x := by
  intro c hc
  unfold wordOf at h
  cases q : x.cps.toList with
  | nil => rw [q] at hc; cases hc
  | cons a r =>
    rw [q] at h hc
    simp only [Bool.and_eq_true, decide_eq_true_eq, List.all_eq_true] at h
    rcases List.mem_cons.mp hc with rfl | hc
    · exact hf _ h.1.1
    · exact ho _ (h.1.2 _ hc)
theorem low_of {x : Str} (h : x.cps.toList.all (fun c => decide (c < 128)) = true) : low x := fun c hc => by
  have := List.all_eq_true.mp h c hc
  simpa using this
theorem low_lowS : low lowS := low_of (by decide +kernel)
theorem low_alnS : low alnS := low_of (by decide +kernel)
theorem low_uppS : low uppS := low_of (by decide +kernel)
theorem low_bothS : low bothS := low_of (by decide +kernel)
theorem nameOk_word {x : Str} (h : nameOk x = true) : wordOf lowS alnS x = true := (Bool.and_eq_true_iff.mp h).1
theorem nameOk_low {x : Str} (h : nameOk x = true) : low x := word_low low_lowS low_alnS (nameOk_word h)
theorem tagOk_low {x : Str} (h : tagOk x = true) : low x := word_low low_uppS low_bothS h
theorem lay_strs : ∀ {us : List Str}, (∀ x ∈ us, low x) → PyData.canLayAll0 (us.map PyData.str) = true ∧ PyData.depthAll (us.map PyData.str) = 0
  | [], _ => ⟨by simp [PyData.canLayAll0], by simp [PyData.depthAll]⟩
  | x :: r, h => by
    obtain ⟨a, b⟩ := lay_strs (us := r) fun y hy => h y (List.mem_cons_of_mem _ hy)
    have c := low_strOk (h x List.mem_cons_self)
    exact ⟨by simp [PyData.canLayAll0, PyData.canLay0, a, c], by simp [PyData.depthAll, PyData.depth, b]⟩
theorem shaped_tstrs {us : List Str} (h : ∀ x ∈ us, low x) : SeqAt.shaped (.tuple (us.map PyData.str)) = true := by
  obtain ⟨a, b⟩ := lay_strs h
  simp [SeqAt.shaped, PyData.canLay0, PyData.depth, a, b]
theorem dp_strs {K : PySem.W.Frag} {H : Hp} : ∀ us : List Str, DpAll K H (us.map V.str) (us.map PyData.str)
  | [] => .nil
  | x :: r => .cons (.str x) (dp_strs r)
theorem eqv_tnil (us : List PyData) : PyData.eqv (.tuple us) (.tuple []) = us.isEmpty := by
  cases us <;> simp [PyData.eqv, PyData.eqvAll]

/-! ### tuples beside the deck -/
theorem Dk.tup {H : Hp} {dk lf a : Addr} {xs : List V} (D : Dk H dk lf) (h : H a = some (.tup xs)) : a ∉ [dk, lf] := by
  obtain ⟨kvs, h1, _⟩ := D.d
  obtain ⟨ls, h2, _⟩ := D.l
  intro z
  rcases List.mem_cons.mp z with rfl | z
  · rw [h1] at h; cases h
  · rcases List.mem_cons.mp z with rfl | z
    · rw [h2] at h; cases h
    · cases z
theorem AtL.mem {K : PySem.W.Frag} {M : List Addr} {H : Hp} : ∀ {vs : List V} {ds : List PyData}, AtL K M H vs ds → ∀ {v : V}, v ∈ vs → ∃ d, d ∈ ds ∧ At K M H v d
  | _, _, .cons h r, v, hv => by
    rcases List.mem_cons.mp hv with rfl | hv
    · exact ⟨_, List.mem_cons_self, h⟩
    · obtain ⟨d, hd, q⟩ := AtL.mem r hv
      exact ⟨d, List.mem_cons_of_mem _ hd, q⟩
theorem AtL.strs_inv {K : PySem.W.Frag} {M : List Addr} {H : Hp} : ∀ {us : List Str} {vs : List V}, AtL K M H vs (us.map PyData.str) → vs = us.map V.str
  | [], _, .nil => rfl
  | x :: r, _, .cons (.str _) h => by rw [AtL.strs_inv h]; rfl
/-- a new tuple of data -/
theorem At.newT {K : PySem.W.Frag} {M : List Addr} {H H1 : Hp} {a : Addr} {vs : List V} {ds : List PyData} (e : H1 a = some (.tup vs)) (n : a ∉ M) (h : AtL K M H1 vs ds) : At K M H1 (.ref a) (.tuple ds) := .tup (SqT.of e) n h
theorem At.ext {K : PySem.W.Frag} {M : List Addr} {H H1 : Hp} {v : V} {d : PyData} (k : Kp [] H H1) (h : At K M H v d) : At K M H1 v d := At.kp (k.more fun _ z => nomatch z) d h
theorem AtL.ext {K : PySem.W.Frag} {M : List Addr} {H H1 : Hp} {v : List V} {d : List PyData} (k : Kp [] H H1) (h : AtL K M H v d) : AtL K M H1 v d := AtL.kp (k.more fun _ z => nomatch z) d h

/-! ### leaves -/
def isLeaf (sc : List Str) (d : PyData) : Prop := (∃ x, x ∈ sc ∧ d = .tuple [.str "name", .str x]) ∨ ∃ i : Int, i.natAbs ≤ 999999999999 ∧ d = .tuple [.str "int", .int i]
def leafV (sc : List Str) (xs : List V) : Prop := (∃ x, x ∈ sc ∧ xs = [.str "name", .str x]) ∨ ∃ i : Int, i.natAbs ≤ 999999999999 ∧ xs = [.str "int", .int i]
def intsL : List Int := [0, 1, -1, 7, 10, -30, 999999999999, -999999999999, 4, 2, 86, 35, -968]
theorem intsL_ok : ∀ i ∈ intsL, i.natAbs ≤ 999999999999 := by decide
def spLeaf (K : PySem.W.Frag) : Sp := fun vs H Q _ => ∃ (dk lf sa : Addr) (sc : List Str), vs = [.ref dk, .ref sa] ∧ Dk H dk lf ∧ H sa = some (.tup (sc.map V.str)) ∧ (∀ x ∈ sc, low x) ∧ sc.length ≤ 1000 ∧
  ∀ (H' : Hp) (t : Addr) (xs : List V), leafV sc xs → H' t = some (.tup xs) → Dk H' dk lf → Kp [dk, lf] H H' → Q (.ref t) H'
section
variable {P : Program} {w : World} {K : PySem.W.Frag} {mg : Str → Option Value} {base : Heap}
theorem scLeaf : FnScope ["deck", "scope"] ["deck", "scope"] (defScope sLeaf) := ⟨rfl, rfl, rfl, by decide +kernel, rfl, by decide +kernel, by decide +kernel⟩
theorem okLeaf {f g g2 : Addr} {fd gd gd2 : FuncData} (F : Fun K "_law_leaf" "_law_leaf" sLeaf f fd) (T : Blt mg) (Ddraw : Df P w K mg base "_law_draw" 1 g gd ["deck", "many"] spDraw)
    (Dpick : Df P w K mg base "_law_pick" 2 g2 gd2 ["deck", "some"] (spPick K)) : FnOk P w K mg base CX0 3 f fd ["deck", "scope"] (spLeaf K) := by
  refine F.ok scLeaf (fun vs H Q E h => ?_) (fun cdv A outer s H vs Q E hr h => ?_)
  · obtain ⟨_, _, _, _, rfl, _⟩ := h
    rfl
  · obtain ⟨dk, lf, sa, sc, rfl, D, hsa, hlow, hlen, k⟩ := h
    refine ⟨_, (pss_cons (ps_if (PW.pt (pw_and (pt_cmpR (op_neD hr.units) (pv 1) (pe_tup pa_nil) (nomark _)) (pw_and1 (pt_cmpR op_gt (pe_call Ddraw.ok (hr.mono (by decide)) (by rfl) Ddraw.m Ddraw.k Ddraw.b .nil pass0 (pa_cons (pv 0) (pa_cons pe_int pa_nil))) pe_int (nomark _))))) (pss_one (ps_ret (pe_tup (pa_cons pe_str (pa_cons (pe_call Dpick.ok (hr.mono (by decide)) (by rfl) Dpick.m Dpick.k Dpick.b .nil pass0 (pa_cons (pv 0) (pa_cons (pv 1) pa_nil))) pa_nil))))) pss_nil)
      (pss_one (ps_ret (pe_tup (pa_cons pe_str (pa_cons (pe_call Dpick.ok (hr.mono (by decide)) (by rfl) Dpick.m Dpick.k Dpick.b .nil pass0 (pa_cons (pv 0) (pa_cons (pe_tup (pa_cons pe_int (pa_cons pe_int (pa_cons (pe_un un_neg pe_int) (pa_cons pe_int (pa_cons pe_int (pa_cons (pe_un un_neg pe_int) (pa_cons pe_int (pa_cons (pe_un un_neg pe_int) (pa_cons pe_int (pa_cons pe_int (pa_cons pe_int (pa_cons pe_int (pa_cons (pe_un un_neg pe_int) pa_nil)))))))))))))) pa_nil))) pa_nil)))))), ?_⟩
    have s0 := Sn.start D
    have nsa := D.tup hsa
    -- the last row: an int
    have last : ∀ H1, Sn [dk, lf] H H1 dk lf → ∀ (p2 : Addr) (H2 : Hp), H1 p2 = none → H2 p2 = some (.tup (intsL.map V.int)) → Sn [dk, lf] H H2 dk lf →
        (spPick K) [.ref dk, .ref p2] H2 (fun x H3 => [V.str "int", x].length ≤ sizeLine ∧ ∀ p, H3 p = none → Q (.ref p) (upd H3 p (.tup [.str "int", x]))) E0 := by
      intro H1 s1 p2 H2 f2 e2 s2
      refine ⟨dk, lf, _, _, rfl, s2.d, .inl ⟨p2, rfl, .inr (SqT.of e2), s2.d.tup e2⟩, by decide, by decide, fun H3 x hx D3 K3 => ⟨by show 2 ≤ sizeLine; decide, fun p hp => ?_⟩⟩
      obtain ⟨i, hi, rfl⟩ := List.mem_map.mp hx
      have s3 := s2.call D3 K3
      obtain ⟨e4, s4, x4⟩ := s3.stp hp rfl
      exact k _ p _ (.inr ⟨i, intsL_ok i hi, rfl⟩) e4 s4.d s4.k
    -- if scope != () ..
    refine ⟨_, rfl, by decide, fun p1 h1 => ?_⟩
    generalize hG : upd H p1 _ = H1
    obtain ⟨e1, s1, x1⟩ := s0.stp h1 hG
    clear hG
    refine ⟨.tuple (sc.map PyData.str), .tuple [], .tup (SqT.of (x1.at hsa)) (dp_strs sc), .tup (SqT.of e1) .nil, shaped_tstrs hlow, by decide, _, rfl, ?_⟩
    rw [eqv_tnil]
    cases hsc : (sc.map PyData.str).isEmpty with
    | true =>
      refine iteF ?_
      refine iteF ?_
      refine ⟨_, rfl, _, rfl, _, rfl, _, rfl, _, rfl, by show 13 ≤ sizeLine; decide, fun p2 h2 => ?_⟩
      obtain ⟨e2, s2, x2⟩ := s1.stp h2 rfl
      exact last _ s1 p2 _ h2 e2 s2
    | false =>
      refine iteT ?_
      have ne : sc ≠ [] := by
        intro z; rw [z] at hsc; simp at hsc
      refine ⟨_, rfl, dk, lf, 3, rfl, s1.d, by decide, by decide, fun H2 i D2 K2 i0 i3 => ⟨_, _, rfl, rfl, _, rfl, ?_⟩⟩
      have s2 := s1.call D2 K2
      have hsa2 := K2 _ _ (x1.at hsa) nsa
      refine ite2 (fun _ => ?_) (fun _ => ?_)
      · refine ⟨_, rfl, _, rfl, dk, lf, _, _, rfl, D2, .inl ⟨sa, rfl, .inr (SqT.of hsa2), nsa⟩, by intro z; exact ne (List.map_eq_nil_iff.mp z), by rw [List.length_map]; exact hlen, fun H3 x hx D3 K3 => ⟨by show 2 ≤ sizeLine; decide, fun p hp => ?_⟩⟩
        obtain ⟨y, hy, rfl⟩ := str_map_at hx
        have s3 := s2.call D3 K3
        obtain ⟨e4, s4, x4⟩ := s3.stp hp rfl
        exact k _ p _ (.inl ⟨y, hy, rfl⟩) e4 s4.d s4.k
      · refine ⟨_, rfl, _, rfl, _, rfl, _, rfl, _, rfl, by show 13 ≤ sizeLine; decide, fun p2 h2 => ?_⟩
        obtain ⟨e3, s3, x3⟩ := s2.stp h2 rfl
        exact last _ s2 p2 _ h2 e3 s3
end
end Dh

/-! DhE0 -/
set_option Elab.async false
set_option linter.all false
set_option maxRecDepth 100000
set_option maxHeartbeats 4000000
namespace Dh
open PySem PySem.Spec PyProof.Rows L2

/-! ### data of tuples alone: they never change -/
mutual
inductive Tp (H : Hp) : V → PyData → Prop
  | non : Tp H .non .none
  | bl (b : Bool) : Tp H (.bl b) (.bool b)
  | int (i : Int) : Tp H (.int i) (.int i)
  | str (x : Str) : Tp H (.str x) (.str x)
  | tup {a : Addr} {xs : List V} {ds : List PyData} : H a = some (.tup xs) → TpL H xs ds → Tp H (.ref a) (.tuple ds)
inductive TpL (H : Hp) : List V → List PyData → Prop
  | nil : TpL H [] []
  | cons {v : V} {vs : List V} {d : PyData} {ds : List PyData} : Tp H v d → TpL H vs ds → TpL H (v :: vs) (d :: ds)
end
/-- tuples stand -/
def TT (H H' : Hp) : Prop := ∀ a xs, H a = some (.tup xs) → H' a = some (.tup xs)
theorem TT.refl (H : Hp) : TT H H := fun _ _ h => h
theorem TT.trans {H H1 H2 : Hp} (a : TT H H1) (b : TT H1 H2) : TT H H2 := fun c xs h => b c xs (a c xs h)
theorem TT.ext {H H' : Hp} (k : Kp [] H H') : TT H H' := fun a xs h => k a _ h (by simp)
theorem TT.put {H : Hp} {D : Addr} {ys : List V} {o : HO} (h : H D = some (.lst ys)) : TT H (upd H D o) := fun a xs e => by
  rw [upd_ne (ne_of e h (by intro z; cases z))]; exact e
theorem TT.deck {H H' : Hp} {dk lf : Addr} (k : Kp [dk, lf] H H') (D : Dk H dk lf) : TT H H' := fun a xs e => k a _ e (D.tup e)
theorem TT.deck3 {H H' : Hp} {dk lf u : Addr} {xs : List V} (k : Kp [dk, lf, u] H H') (D : Dk H dk lf) (hu : H u = some (.lst xs)) : TT H H' := fun a ys e => k a _ e (by
  have h := D.tup e
  intro z
  rcases List.mem_cons.mp z with rfl | z
  · simp at h
  · rcases List.mem_cons.mp z with rfl | z
    · simp at h
    · rcases List.mem_cons.mp z with rfl | z
      · rw [hu] at e; cases e
      · cases z)
section
variable {H H' : Hp}
mutual
theorem Tp.tt (k : TT H H') : ∀ (d : PyData) {v : V}, Tp H v d → Tp H' v d
  | .none, _, h => by cases h; exact .non
  | .bool b, _, h => by cases h; exact .bl b
  | .int i, _, h => by cases h; exact .int i
  | .str x, _, h => by cases h; exact .str x
  | .tuple ds, _, h => by
    cases h with
    | tup h1 h3 => exact .tup (k _ _ h1) (TpL.tt k ds h3)
theorem TpL.tt (k : TT H H') : ∀ (ds : List PyData) {vs : List V}, TpL H vs ds → TpL H' vs ds
  | [], _, h => by cases h; exact .nil
  | d :: ds, _, h => by
    cases h with
    | cons h1 h2 => exact .cons (Tp.tt k d h1) (TpL.tt k ds h2)
end
variable {K : PySem.W.Frag} {M : List Addr}
mutual
theorem Tp.at (n : ∀ a xs, H a = some (.tup xs) → a ∉ M) : ∀ (d : PyData) {v : V}, Tp H v d → At K M H v d
  | .none, _, h => by cases h; exact .non
  | .bool b, _, h => by cases h; exact .bl b
  | .int i, _, h => by cases h; exact .int i
  | .str x, _, h => by cases h; exact .str x
  | .tuple ds, _, h => by
    cases h with
    | tup h1 h3 => exact .tup (SqT.of h1) (n _ _ h1) (TpL.at n ds h3)
theorem TpL.at (n : ∀ a xs, H a = some (.tup xs) → a ∉ M) : ∀ (ds : List PyData) {vs : List V}, TpL H vs ds → AtL K M H vs ds
  | [], _, h => by cases h; exact .nil
  | d :: ds, _, h => by
    cases h with
    | cons h1 h2 => exact .cons (Tp.at n d h1) (TpL.at n ds h2)
end
theorem TpL.mem : ∀ {vs : List V} {ds : List PyData}, TpL H vs ds → ∀ {v : V}, v ∈ vs → ∃ d, d ∈ ds ∧ Tp H v d
  | _, _, .cons h r, v, hv => by
    rcases List.mem_cons.mp hv with rfl | hv
    · exact ⟨_, List.mem_cons_self, h⟩
    · obtain ⟨d, hd, q⟩ := TpL.mem r hv
      exact ⟨d, List.mem_cons_of_mem _ hd, q⟩
theorem TpL.length : ∀ {vs : List V} {ds : List PyData}, TpL H vs ds → vs.length = ds.length
  | _, _, .nil => rfl
  | _, _, .cons _ h => by simp [TpL.length h]
theorem TpL.append : ∀ {vs ws : List V} {ds es : List PyData}, TpL H vs ds → TpL H ws es → TpL H (vs ++ ws) (ds ++ es)
  | _, _, _, _, .nil, h => h
  | _, _, _, _, .cons a b, h => .cons a (TpL.append b h)
theorem TpL.strs : ∀ (xs : List Str), TpL H (xs.map V.str) (xs.map PyData.str)
  | [] => .nil
  | x :: r => .cons (.str x) (TpL.strs r)
theorem TpL.snoc {vs : List V} {ds : List PyData} {v : V} {d : PyData} (a : TpL H vs ds) (b : Tp H v d) : TpL H (vs ++ [v]) (ds ++ [d]) := a.append (.cons b .nil)
end

/-! ### signs: functions, tags, names -/
structure Sg where
  fs : List (Str × Nat)
  ts : List (Str × Nat)
  loc : List Str
def prD (p : Str × Nat) : PyData := .tuple [.str p.1, .int (p.2 : Int)]
structure SgOk (S : Sg) : Prop where
  f1 : S.fs ≠ []
  f2 : S.fs.length ≤ 50
  f3 : ∀ p ∈ S.fs, p.2 ≤ 3
  t1 : S.ts ≠ []
  t2 : S.ts.length ≤ 50
  t3 : ∀ p ∈ S.ts, p.2 ≤ 3
  l1 : 3 ≤ S.loc.length
  l2 : S.loc.length ≤ 50
  l3 : ∀ x ∈ S.loc, nameOk x = true
  l4 : S.loc.Nodup
  f4 : ∀ p ∈ S.fs, nameOk p.1 = true
  t4 : ∀ p ∈ S.ts, tagOk p.1 = true
  t5 : (S.ts.map (·.1)).Nodup
structure SgAt (H : Hp) (dk lf sg a1 a2 a3 : Addr) (x1 x2 : List V) (S : Sg) : Prop where
  t : H sg = some (.tup [.ref a1, .ref a2, .ref a3])
  l1 : H a1 = some (.lst x1)
  n1 : a1 ∉ [dk, lf]
  p1 : TpL H x1 (S.fs.map prD)
  l2 : H a2 = some (.lst x2)
  n2 : a2 ∉ [dk, lf]
  p2 : TpL H x2 (S.ts.map prD)
  l3 : H a3 = some (.lst (S.loc.map V.str))
  n3 : a3 ∉ [dk, lf]
section
variable {H H' : Hp} {dk lf sg a1 a2 a3 : Addr} {x1 x2 : List V} {S : Sg}
theorem SgAt.kp (s : SgAt H dk lf sg a1 a2 a3 x1 x2 S) (k : Kp [dk, lf] H H') (D : Dk H dk lf) : SgAt H' dk lf sg a1 a2 a3 x1 x2 S :=
  ⟨TT.deck k D _ _ s.t, k _ _ s.l1 s.n1, s.n1, TpL.tt (TT.deck k D) _ s.p1, k _ _ s.l2 s.n2, s.n2, TpL.tt (TT.deck k D) _ s.p2, k _ _ s.l3 s.n3, s.n3⟩
theorem SgAt.ext (s : SgAt H dk lf sg a1 a2 a3 x1 x2 S) (k : Kp [] H H') : SgAt H' dk lf sg a1 a2 a3 x1 x2 S :=
  ⟨k.at s.t, k.at s.l1, s.n1, TpL.tt (TT.ext k) _ s.p1, k.at s.l2, s.n2, TpL.tt (TT.ext k) _ s.p2, k.at s.l3, s.n3⟩
theorem SgAt.put {D : Addr} {ys : List V} {o : HO} (s : SgAt H dk lf sg a1 a2 a3 x1 x2 S) (h : H D = some (.lst ys)) (m1 : a1 ≠ D) (m2 : a2 ≠ D) (m3 : a3 ≠ D) : SgAt (upd H D o) dk lf sg a1 a2 a3 x1 x2 S :=
  ⟨TT.put h _ _ s.t, by rw [upd_ne m1]; exact s.l1, s.n1, TpL.tt (TT.put h) _ s.p1, by rw [upd_ne m2]; exact s.l2, s.n2, TpL.tt (TT.put h) _ s.p2, by rw [upd_ne m3]; exact s.l3, s.n3⟩
end
/-- where the body of an expression stands -/
structure Bn (H0 H : Hp) (dk lf sg a1 a2 a3 : Addr) (x1 x2 : List V) (S : Sg) (sa : Addr) (sc : List Str) : Prop where
  s : Sn [dk, lf] H0 H dk lf
  g0 : SgAt H0 dk lf sg a1 a2 a3 x1 x2 S
  g : SgAt H dk lf sg a1 a2 a3 x1 x2 S
  a : H sa = some (.tup (sc.map V.str))
section
variable {H0 H H' : Hp} {dk lf sg a1 a2 a3 sa p D : Addr} {x1 x2 : List V} {S : Sg} {sc : List Str} {o : HO} {ys : List V}
theorem Bn.new (b : Bn H0 H dk lf sg a1 a2 a3 x1 x2 S sa sc) (hp : H p = none) (e : upd H p o = H') : H' p = some o ∧ Bn H0 H' dk lf sg a1 a2 a3 x1 x2 S sa sc ∧ Kp [] H H' := by
  obtain ⟨h1, h2, h3⟩ := b.s.stp hp e
  exact ⟨h1, ⟨h2, b.g0, b.g.ext h3, h3.at b.a⟩, h3⟩
theorem Bn.call (b : Bn H0 H dk lf sg a1 a2 a3 x1 x2 S sa sc) (D' : Dk H' dk lf) (k : Kp [dk, lf] H H') : Bn H0 H' dk lf sg a1 a2 a3 x1 x2 S sa sc :=
  ⟨b.s.call D' k, b.g0, b.g.kp k b.s.d, TT.deck k b.s.d _ _ b.a⟩
theorem Bn.tt (b : Bn H0 H dk lf sg a1 a2 a3 x1 x2 S sa sc) (k : Kp [dk, lf] H H') : TT H H' := TT.deck k b.s.d
/-- a list of this body's own is written -/
theorem Bn.put (b : Bn H0 H dk lf sg a1 a2 a3 x1 x2 S sa sc) (h0 : H0 D = none) (n : D ∉ [dk, lf]) (h : H D = some (.lst ys)) : Bn H0 (upd H D o) dk lf sg a1 a2 a3 x1 x2 S sa sc :=
  ⟨b.s.mut h0 n, b.g0, b.g.put h (ne_of_none b.g0.l1 h0) (ne_of_none b.g0.l2 h0) (ne_of_none b.g0.l3 h0), TT.put h _ _ b.a⟩
theorem Bn.free (b : Bn H0 H dk lf sg a1 a2 a3 x1 x2 S sa sc) (hp : H p = none) : H0 p = none ∧ p ∉ [dk, lf] := ⟨b.s.k.free b.s.d hp, b.s.d.mem hp⟩
end

/-! ### expressions that are made of them -/
def brD (b : Str × List Str × PyData) : PyData := .tuple [.str b.1, .tuple (b.2.1.map PyData.str), b.2.2]
inductive GE (S : Sg) : Nat → List Str → PyData → Prop
  | leaf {n : Nat} {sc : List Str} {d : PyData} : isLeaf sc d → GE S n sc d
  | call {n : Nat} {sc : List Str} {f : Str} {k : Nat} {ds : List PyData} : (f, k) ∈ S.fs → ds.length = k → (∀ d ∈ ds, GE S n sc d) → GE S (n + 1) sc (.tuple [.str "call", .str f, .tuple ds])
  | make {n : Nat} {sc : List Str} {f : Str} {k : Nat} {ds : List PyData} : (f, k) ∈ S.ts → ds.length = k → (∀ d ∈ ds, GE S n sc d) → GE S (n + 1) sc (.tuple [.str "make", .str f, .tuple ds])
  | case {n : Nat} {sc : List Str} {e : PyData} {bs : List (Str × List Str × PyData)} : GE S n sc e → bs ≠ [] → bs.length ≤ 3 → (bs.map (·.1)).Nodup → (∀ b ∈ bs, (b.1, b.2.1.length) ∈ S.ts) → (∀ b ∈ bs, b.2.1.Nodup ∧ ∀ x ∈ b.2.1, x ∈ S.loc) →
      (∀ b ∈ bs, GE S n (sc ++ b.2.1) b.2.2) → GE S (n + 1) sc (.tuple [.str "case", e, .tuple (bs.map brD)])
  | «let» {n : Nat} {sc : List Str} {x : Str} {e b : PyData} : x ∈ S.loc → GE S n sc e → GE S n (sc ++ [x]) b → GE S (n + 1) sc (.tuple [.str "let", .str x, e, b])
  | «if» {n : Nat} {sc : List Str} {o : Str} {ds : List PyData} : (o = "<" ∨ o = "=") → ds.length = 4 → (∀ d ∈ ds, GE S n sc d) → GE S (n + 1) sc (.tuple (.str "if" :: .str o :: ds))
  | op {n : Nat} {sc : List Str} {o : Str} {ds : List PyData} : (o = "+" ∨ o = "-" ∨ o = "*") → ds.length = 2 → (∀ d ∈ ds, GE S n sc d) → GE S (n + 1) sc (.tuple (.str "op" :: .str o :: ds))
  | one {n : Nat} {sc : List Str} {o : Str} {e : PyData} : (o = "delay" ∨ o = "force") → GE S n sc e → GE S (n + 1) sc (.tuple [.str o, e])
end Dh

/-! DhE -/
set_option Elab.async false
set_option linter.all false
set_option maxRecDepth 100000
set_option maxHeartbeats 4000000
namespace Dh
open PySem PySem.Spec PyProof.Rows L2

theorem perm_pairs {H : Hp} : ∀ {ys xs : List V}, ys.Perm xs → ∀ {l : List (Str × Nat)}, TpL H xs (l.map prD) → ∃ qs : List (Str × Nat), qs.Perm l ∧ TpL H ys (qs.map prD) := by
  intro ys xs h
  induction h with
  | nil =>
    intro l a
    cases l with
    | nil => exact ⟨[], .refl _, .nil⟩
    | cons p r => cases a
  | cons y _ ih =>
    intro l a
    cases l with
    | nil => cases a
    | cons p r =>
      cases a with
      | cons a1 a2 =>
        obtain ⟨qs, h1, h2⟩ := ih a2
        exact ⟨p :: qs, h1.cons p, .cons a1 h2⟩
  | swap y z r =>
    intro l a
    cases l with
    | nil => cases a
    | cons p l =>
      cases l with
      | nil => cases a with | cons _ b => cases b
      | cons q l =>
        cases a with
        | cons a1 a2 =>
          cases a2 with
          | cons a2 a3 => exact ⟨q :: p :: l, .swap p q l, .cons a2 (.cons a1 a3)⟩
  | trans _ _ ih1 ih2 =>
    intro l a
    obtain ⟨qs, h1, h2⟩ := ih2 a
    obtain ⟨rs, h3, h4⟩ := ih1 h2
    exact ⟨rs, h3.trans h1, h4⟩
theorem perm_strs : ∀ {ys xs : List V}, ys.Perm xs → ∀ {l : List Str}, xs = l.map V.str → ∃ qs : List Str, qs.Perm l ∧ ys = qs.map V.str := by
  intro ys xs h l e
  subst e
  have hm : ∀ y ∈ ys, ∃ s, y = V.str s := fun y hy => by
    obtain ⟨s, _, rfl⟩ := List.mem_map.mp (h.mem_iff.mp hy)
    exact ⟨s, rfl⟩
  have un : ∀ zs : List V, (∀ y ∈ zs, ∃ s, y = V.str s) → ∃ qs : List Str, zs = qs.map V.str := by
    intro zs
    induction zs with
    | nil => intro _; exact ⟨[], rfl⟩
    | cons z r ih =>
      intro hz
      obtain ⟨s, rfl⟩ := hz z List.mem_cons_self
      obtain ⟨qs, rfl⟩ := ih fun y hy => hz y (List.mem_cons_of_mem _ hy)
      exact ⟨s :: qs, rfl⟩
  obtain ⟨qs, rfl⟩ := un ys hm
  let g : V → Str := fun v => match v with | .str s => s | _ => Str.ofString ""
  have gi : ∀ us : List Str, (us.map V.str).map g = us := fun us => by
    rw [List.map_map]
    exact (List.map_congr_left fun _ _ => rfl).trans (List.map_id _)
  have h2 := h.map g
  rw [gi, gi] at h2
  exact ⟨qs, h2, rfl⟩
theorem cut_to (xs : List V) (k : Nat) : cutV xs none (some (k : Int)) = xs.take k := by
  unfold cutV
  rw [HT.sIx_none, HT.sIx_nat, List.drop_zero, Nat.sub_zero]
  rw [List.take_eq_take_iff]
  omega
theorem TpL.take {H : Hp} : ∀ (n : Nat) {vs : List V} {ds : List PyData}, TpL H vs ds → TpL H (vs.take n) (ds.take n)
  | 0, _, _, _ => by simp; exact .nil
  | n + 1, _, _, .nil => .nil
  | n + 1, _, _, .cons a b => .cons a (TpL.take n b)
theorem TpL.get {H : Hp} : ∀ {vs : List V} {ds : List PyData}, TpL H vs ds → ∀ {i : Nat} {v : V}, vs[i]? = some v → ∃ d, ds[i]? = some d ∧ Tp H v d
  | _, _, .nil, _, _, e => by simp at e
  | _, _, .cons h _, 0, _, e => by
    simp at e; subst e
    exact ⟨_, rfl, h⟩
  | _, _, .cons _ h, i + 1, v, e => by
    obtain ⟨d, h1, h2⟩ := TpL.get h (i := i) (v := v) (by simpa using e)
    exact ⟨d, by simpa using h1, h2⟩
theorem pair_open {H : Hp} {v : V} {p : Str × Nat} (h : Tp H v (prD p)) : ∃ t, v = .ref t ∧ H t = some (.tup [.str p.1, .int (p.2 : Int)]) := by
  cases h with
  | tup h1 h2 =>
    cases h2 with
    | cons a b =>
      cases a
      cases b with
      | cons a b =>
        cases a
        cases b
        exact ⟨_, rfl, h1⟩
theorem leaf_tp {H : Hp} {a : Addr} {sc : List Str} {xs : List V} (l : leafV sc xs) (e : H a = some (.tup xs)) : ∃ d, isLeaf sc d ∧ Tp H (.ref a) d := by
  rcases l with ⟨x, hx, rfl⟩ | ⟨i, hi, rfl⟩
  · exact ⟨_, .inl ⟨x, hx, rfl⟩, .tup e (.cons (.str _) (.cons (.str _) .nil))⟩
  · exact ⟨_, .inr ⟨i, hi, rfl⟩, .tup e (.cons (.str _) (.cons (.int _) .nil))⟩
theorem catA_ok {K : PySem.W.Frag} {H : Hp} {a b : Addr} {xs ys : List V} {Q : VK} (h1 : H a = some (.tup xs)) (h2 : H b = some (.tup ys)) (hl : xs.length + ys.length ≤ sizeLine) (k : ∀ (c : Addr) (H' : Hp), H' c = some (.tup (xs ++ ys)) → (H' = H ∨ (H c = none ∧ upd H c (.tup (xs ++ ys)) = H')) → Q (.ref c) H') :
    rCatA K (.ref a) (.ref b) H Q := by
  refine ⟨a, b, xs, ys, rfl, rfl, SqT.of h1, SqT.of h2, hl, fun e => ?_, fun _ e => ?_, fun _ _ c hc => ?_⟩
  · subst e; exact k b H h2 (.inl rfl)
  · subst e; exact k a H (by rw [List.append_nil]; exact h1) (.inl rfl)
  · exact k c _ upd_same (.inr ⟨hc, rfl⟩)
def spExpr (n : Nat) : Sp := fun vs H Q _ => ∃ (dk lf sg sa a1 a2 a3 : Addr) (x1 x2 : List V) (S : Sg) (sc : List Str), vs = [.ref dk, .ref sg, .ref sa, .int (n : Int)] ∧ Dk H dk lf ∧ SgOk S ∧ SgAt H dk lf sg a1 a2 a3 x1 x2 S ∧
  H sa = some (.tup (sc.map V.str)) ∧ (∀ x ∈ sc, low x) ∧ sc.length + 3 * n ≤ 900 ∧
  ∀ (H' : Hp) (v : V) (d : PyData), GE S n sc d → Tp H' v d → Dk H' dk lf → Kp [dk, lf] H H' → Q v H'
def spLt (n : Nat) : Sp := fun vs H Q E => ∃ m, m < n ∧ spExpr m vs H Q E

section
variable {P : Program} {w : World} {K : PySem.W.Frag} {mg : Str → Option Value} {base : Heap}
abbrev namesE : List Str := ["deck", "signs", "scope", "deep", "functions", "tags", "local", "way", "f", "many", "tag", "e", "branches", "names", "x", "parts", "go"]
theorem scExpr : FnScope namesE ["deck", "signs", "scope", "deep"] (defScope sExpr) := ⟨rfl, rfl, rfl, by decide +kernel, rfl, by decide +kernel, by decide +kernel⟩
/-- what [_law_expression(deck, signs, scope, deep - 1) for go in ..] has made at L behind i turns -/
def PvE (H0 : Hp) (dk lf sg a1 a2 a3 : Addr) (x1 x2 : List V) (S : Sg) (sa : Addr) (sc : List Str) (m : Nat) (L : Addr) (i : Nat) (H : Hp) : Prop :=
  ∃ (vs : List V) (ds : List PyData), ds.length = i ∧ (∀ d ∈ ds, GE S m sc d) ∧ H L = some (.lst vs) ∧ TpL H vs ds ∧ Bn H0 H dk lf sg a1 a2 a3 x1 x2 S sa sc
theorem exprs_turn {n m i : Nat} {σ : St1} {H0 H : Hp} {D dk lf sg sa a1 a2 a3 : Addr} {x1 x2 : List V} {S : Sg} {sc : List Str}
    (e0 : σ[0]? = some (some (.ref dk))) (e1 : σ[1]? = some (some (.ref sg))) (e2 : σ[2]? = some (some (.ref sa))) (e3 : σ[3]? = some (some (.int ((m + 1 : Nat) : Int)))) (hm : m < n)
    (ok : SgOk S) (hlow : ∀ x ∈ sc, low x) (hlen : sc.length + 3 * (m + 1) ≤ 900) (hD0 : H0 D = none) (nD : D ∉ [dk, lf]) (hi : i ≤ 900) (p : PvE H0 dk lf sg a1 a2 a3 x1 x2 S sa sc m D i H) (x : V) (R : Hp → Prop) :
    gName 16 x (wipe σ [16]) H fun σ2 H2 => wipe σ2 [16] = wipe σ [16] ∧ tYes σ2 H2 fun b H3 => if b = true then
      (tCall (spLt n) [] E0 (tCons (tVar 0) (tCons (tVar 1) (tCons (tVar 2) (tCons (tOp (rI0 fun i j => .int (i - j)) (tVar 3) (tC (.int 1))) tNil))))) σ2 H3 fun y H4 => ∃ acc, H4 D = some (.lst acc) ∧ acc.length < sizeLine ∧
        PvE H0 dk lf sg a1 a2 a3 x1 x2 S sa sc m D (i + 1) (upd H4 D (.lst (acc ++ [y]))) else R H3 := by
  obtain ⟨vs, ds, dl, dm, eD, tp, b⟩ := p
  have ne : ∀ j, j ≠ 16 → ((σ.set 16 none).set 16 (some x))[j]? = σ[j]? := fun j hj => by
    rw [List.getElem?_set_ne (Ne.symm hj), List.getElem?_set_ne (Ne.symm hj)]
  refine ⟨by show ((σ.set 16 none).set 16 _).set 16 none = σ.set 16 none; rw [List.set_set, List.set_set], yesI ?_⟩
  refine ⟨_, (ne 0 (by decide)).trans e0, _, (ne 1 (by decide)).trans e1, _, (ne 2 (by decide)).trans e2, _, (ne 3 (by decide)).trans e3, _, _, rfl, rfl, ?_⟩
  refine ⟨m, hm, dk, lf, sg, sa, a1, a2, a3, x1, x2, S, sc, ?_, b.s.d, ok, b.g, b.a, hlow, by omega, fun H' v d g t D' K' => ?_⟩
  · show [V.ref dk, V.ref sg, V.ref sa, V.int (((m + 1 : Nat) : Int) - 1)] = _
    rw [show ((m + 1 : Nat) : Int) - 1 = (m : Int) by omega]
  · have b' := b.call D' K'
    have eD' := K' _ _ eD nD
    have tt1 := b.tt K'
    have tt2 : TT H' (upd H' D (.lst (vs ++ [v]))) := TT.put eD'
    refine ⟨vs, eD', ?_, vs ++ [v], ds ++ [d], by simp [dl], ?_, upd_same, (TpL.tt (tt1.trans tt2) _ tp).snoc (Tp.tt tt2 _ t), b'.put hD0 nD eD'⟩
    · rw [tp.length]; exact small1000 (by omega)
    · intro e he
      rcases List.mem_append.mp he with he | he
      · exact dm e he
      · rw [List.mem_singleton.mp he]; exact g

set_option maxHeartbeats 16000000 in
theorem okStep {n : Nat} {f g g2 g3 g4 : Addr} {fd gd gd2 gd3 gd4 : FuncData} (F : Fun K "_law_expression" "_law_expression" sExpr f fd) (T : Blt mg) (Ddraw : Df P w K mg base "_law_draw" 1 g gd ["deck", "many"] spDraw)
    (Dpick : Df P w K mg base "_law_pick" 2 g2 gd2 ["deck", "some"] (spPick K)) (Dleaf : Df P w K mg base "_law_leaf" 3 g3 gd3 ["deck", "scope"] (spLeaf K)) (Dshuf : Df P w K mg base "_law_shuffled" 2 g4 gd4 ["deck", "some"] (spShuf K))
    (De : Df P w K mg base "_law_expression" (4 + n) f fd ["deck", "signs", "scope", "deep"] (spLt n)) : FnOk P w K mg base CX0 (4 + n + 1) f fd ["deck", "signs", "scope", "deep"] (spLt (n + 1)) := by
  refine F.ok scExpr (fun vs H Q E h => ?_) (fun cdv A outer s H vs Q E hr h => ?_)
  · obtain ⟨_, _, _, _, _, _, _, _, _, _, _, _, _, rfl, _⟩ := h
    rfl
  · obtain ⟨m, hmn, dk, lf, sg, sa, a1, a2, a3, x1, x2, S, sc, rfl, D, ok, G, hsa, hlow, hlen, k⟩ := h
    have hu := hu_of hr
    refine ⟨_, (pss_cons (ps_dput hu (pv 0) pe_str (pe_op op_sub (pe_dget hu (pv 0) pe_str (fun _ _ => rfl)) pe_int) rfl) 
    (pss_cons (ps_asg (pv 1) (pg_tup (by rfl) (pgs_cons (pg_name (i := 4) scExpr.nd rfl (Or.inl rfl)) (pgs_cons (pg_name (i := 5) scExpr.nd rfl (Or.inl rfl)) (pgs_cons (pg_name (i := 6) scExpr.nd rfl (Or.inl rfl)) pgs_nil))))) 
    (pss_cons (ps_set (i := 7) scExpr.nd rfl (Or.inl rfl) (pe_call Ddraw.ok (hr.mono (by omega)) (by rfl) Ddraw.m Ddraw.k Ddraw.b .nil pass0 (pa_cons (pv 0) (pa_cons pe_int pa_nil)))) 
    (pss_cons (ps_if (PW.pt (pw_or (pt_cmpR op_eq (pv 3) pe_int (nomark _)) (pw_or (pt_cmpR op_lt (pe_dget hu (pv 0) pe_str (fun _ _ => rfl)) pe_int (nomark _)) (pw_or1 (pt_cmpR op_lt (pv 7) pe_int (nomark _)))))) (pss_one (ps_ret (pe_call Dleaf.ok (hr.mono (by omega)) (by rfl) Dleaf.m Dleaf.k Dleaf.b .nil pass0 (pa_cons (pv 0) (pa_cons (pv 2) pa_nil))))) pss_nil) 
    (pss_cons (ps_if (pt_cmpR op_lt (pv 7) pe_int (nomark _)) (pss_cons (ps_asg (pe_call Dpick.ok (hr.mono (by omega)) (by rfl) Dpick.m Dpick.k Dpick.b .nil pass0 (pa_cons (pv 0) (pa_cons (pv 4) pa_nil))) (pg_tup (by rfl) (pgs_cons (pg_name (i := 8) scExpr.nd rfl (Or.inl rfl)) (pgs_cons (pg_name (i := 9) scExpr.nd rfl (Or.inl rfl)) pgs_nil)))) 
      (pss_one (ps_ret (pe_tup (pa_cons pe_str (pa_cons (pv 8) (pa_cons (pe_callTy call_tuple_of (by rfl) T.tuple (by decide +kernel) (pa_cons (pe_lc (own := [("go", 16)]) (g := gName 16) (tt := tYes) rfl scExpr.nd (pi_range1 (by rfl) T.range (pa_cons (pv 9) pa_nil)) (blkOk_by (N := ["deck", "signs", "scope", "deep", "functions", "tags", "local", "way", "f", "many", "tag", "e", "branches", "names", "x", "parts", "go"]) (sc := defScope sExpr) (by decide +kernel)) (fun _ _ _ _ _ => pg_name (i := 16) scExpr.nd rfl (Or.inl rfl)) (fun _ _ _ _ _ => pts_nil) (fun _ _ _ _ _ => (pe_call De.ok hr (by rfl) De.m De.k De.b .nil pass0 (pa_cons (pv 0) (pa_cons (pv 1) (pa_cons (pv 2) (pa_cons (pe_op op_sub (pv 3) pe_int) pa_nil))))))) pa_nil)) pa_nil))))))) pss_nil) 
    (pss_cons (ps_if (pt_cmpR op_lt (pv 7) pe_int (nomark _)) (pss_cons (ps_asg (pe_call Dpick.ok (hr.mono (by omega)) (by rfl) Dpick.m Dpick.k Dpick.b .nil pass0 (pa_cons (pv 0) (pa_cons (pv 5) pa_nil))) (pg_tup (by rfl) (pgs_cons (pg_name (i := 10) scExpr.nd rfl (Or.inl rfl)) (pgs_cons (pg_name (i := 9) scExpr.nd rfl (Or.inl rfl)) pgs_nil)))) 
      (pss_one (ps_ret (pe_tup (pa_cons pe_str (pa_cons (pv 10) (pa_cons (pe_callTy call_tuple_of (by rfl) T.tuple (by decide +kernel) (pa_cons (pe_lc (own := [("go", 16)]) (g := gName 16) (tt := tYes) rfl scExpr.nd (pi_range1 (by rfl) T.range (pa_cons (pv 9) pa_nil)) (blkOk_by (N := ["deck", "signs", "scope", "deep", "functions", "tags", "local", "way", "f", "many", "tag", "e", "branches", "names", "x", "parts", "go"]) (sc := defScope sExpr) (by decide +kernel)) (fun _ _ _ _ _ => pg_name (i := 16) scExpr.nd rfl (Or.inl rfl)) (fun _ _ _ _ _ => pts_nil) (fun _ _ _ _ _ => (pe_call De.ok hr (by rfl) De.m De.k De.b .nil pass0 (pa_cons (pv 0) (pa_cons (pv 1) (pa_cons (pv 2) (pa_cons (pe_op op_sub (pv 3) pe_int) pa_nil))))))) pa_nil)) pa_nil))))))) pss_nil) 
    (pss_cons (ps_if (pt_cmpR op_lt (pv 7) pe_int (nomark _)) (pss_cons (ps_par (i := 11) (j := 12) rfl scExpr.nd rfl rfl (by decide) rfl rfl (pa_cons (pe_call De.ok hr (by rfl) De.m De.k De.b .nil pass0 (pa_cons (pv 0) (pa_cons (pv 1) (pa_cons (pv 2) (pa_cons (pe_op op_sub (pv 3) pe_int) pa_nil))))) (pa_cons (pe_lst pa_nil) pa_nil)) (by rfl)) 
      (pss_cons (ps_for PassesOwn.never rfl (pi_list (pe_slice sl_list (pe_call Dshuf.ok (hr.mono (by omega)) (by rfl) Dshuf.m Dshuf.k Dshuf.b .nil pass0 (pa_cons (pv 0) (pa_cons (pv 5) pa_nil))) po_none (po_some (pe_op op_add pe_int (pe_call Ddraw.ok (hr.mono (by omega)) (by rfl) Ddraw.m Ddraw.k Ddraw.b .nil pass0 (pa_cons (pv 0) (pa_cons pe_int pa_nil))))))) (pg_tup (by rfl) (pgs_cons (pg_name (i := 10) scExpr.nd rfl (Or.inl rfl)) (pgs_cons (pg_name (i := 9) scExpr.nd rfl (Or.inl rfl)) pgs_nil)))
        (pss_cons (ps_set (i := 13) scExpr.nd rfl (Or.inl rfl) (pe_callTy call_tuple_of (by rfl) T.tuple (by decide +kernel) (pa_cons (pe_slice sl_list (pe_call Dshuf.ok (hr.mono (by omega)) (by rfl) Dshuf.m Dshuf.k Dshuf.b .nil pass0 (pa_cons (pv 0) (pa_cons (pv 6) pa_nil))) po_none (po_some (pv 9))) pa_nil))) 
        (pss_one (ps_expr (pe_bm PySem.F.plainAttrs_list PySem.F.slot_list_append PySem.F.type_list_append mt_append (pv 12) (pa_cons (pe_tup (pa_cons (pv 10) (pa_cons (pv 13) (pa_cons (pe_call De.ok hr (by rfl) De.m De.k De.b .nil pass0 (pa_cons (pv 0) (pa_cons (pv 1) (pa_cons (pe_op op_catA (pv 2) (pv 13)) (pa_cons (pe_op op_sub (pv 3) pe_int) pa_nil))))) pa_nil)))) pa_nil)))))) 
      (pss_one (ps_ret (pe_tup (pa_cons pe_str (pa_cons (pv 11) (pa_cons (pe_callTy call_tuple_of (by rfl) T.tuple (by decide +kernel) (pa_cons (pv 12) pa_nil)) pa_nil)))))))) pss_nil) 
    (pss_cons (ps_if (pt_cmpR op_eq (pv 7) pe_int (nomark _)) (pss_cons (ps_par (i := 14) (j := 11) rfl scExpr.nd rfl rfl (by decide) rfl rfl (pa_cons (pe_call Dpick.ok (hr.mono (by omega)) (by rfl) Dpick.m Dpick.k Dpick.b .nil pass0 (pa_cons (pv 0) (pa_cons (pv 6) pa_nil))) (pa_cons (pe_call De.ok hr (by rfl) De.m De.k De.b .nil pass0 (pa_cons (pv 0) (pa_cons (pv 1) (pa_cons (pv 2) (pa_cons (pe_op op_sub (pv 3) pe_int) pa_nil))))) pa_nil)) (by rfl)) 
      (pss_one (ps_ret (pe_tup (pa_cons pe_str (pa_cons (pv 14) (pa_cons (pv 11) (pa_cons (pe_call De.ok hr (by rfl) De.m De.k De.b .nil pass0 (pa_cons (pv 0) (pa_cons (pv 1) (pa_cons (pe_op op_catA (pv 2) (pe_tup (pa_cons (pv 14) pa_nil))) (pa_cons (pe_op op_sub (pv 3) pe_int) pa_nil))))) pa_nil)))))))) pss_nil) 
    (pss_cons (ps_if (pt_cmpR op_eq (pv 7) pe_int (nomark _)) (pss_cons (ps_setLc (i := 15) (own := [("go", 16)]) (g := gName 16) (tt := tYes) rfl scExpr.nd rfl rfl (sw_true rfl rfl rfl (by decide +kernel)) (pi_range1 (by rfl) T.range (pa_cons pe_int pa_nil)) (blkOk_by (N := ["deck", "signs", "scope", "deep", "functions", "tags", "local", "way", "f", "many", "tag", "e", "branches", "names", "x", "parts", "go"]) (sc := defScope sExpr) (by decide +kernel)) (fun _ _ _ _ _ => pg_name (i := 16) scExpr.nd rfl (Or.inl rfl)) (fun _ _ _ _ _ => pts_nil) (fun _ _ _ _ _ => (pe_call De.ok hr (by rfl) De.m De.k De.b .nil pass0 (pa_cons (pv 0) (pa_cons (pv 1) (pa_cons (pv 2) (pa_cons (pe_op op_sub (pv 3) pe_int) pa_nil))))))) 
      (pss_one (ps_ret (pe_op op_catA (pe_tup (pa_cons pe_str (pa_cons (pe_call Dpick.ok (hr.mono (by omega)) (by rfl) Dpick.m Dpick.k Dpick.b .nil pass0 (pa_cons (pv 0) (pa_cons pe_str pa_nil))) pa_nil))) (pe_callTy call_tuple_of (by rfl) T.tuple (by decide +kernel) (pa_cons (pv 15) pa_nil)))))) pss_nil) 
    (pss_cons (ps_if (pt_cmpR op_eq (pv 7) pe_int (nomark _)) (pss_cons (ps_setLc (i := 15) (own := [("go", 16)]) (g := gName 16) (tt := tYes) rfl scExpr.nd rfl rfl (sw_true rfl rfl rfl (by decide +kernel)) (pi_range1 (by rfl) T.range (pa_cons pe_int pa_nil)) (blkOk_by (N := ["deck", "signs", "scope", "deep", "functions", "tags", "local", "way", "f", "many", "tag", "e", "branches", "names", "x", "parts", "go"]) (sc := defScope sExpr) (by decide +kernel)) (fun _ _ _ _ _ => pg_name (i := 16) scExpr.nd rfl (Or.inl rfl)) (fun _ _ _ _ _ => pts_nil) (fun _ _ _ _ _ => (pe_call De.ok hr (by rfl) De.m De.k De.b .nil pass0 (pa_cons (pv 0) (pa_cons (pv 1) (pa_cons (pv 2) (pa_cons (pe_op op_sub (pv 3) pe_int) pa_nil))))))) 
      (pss_one (ps_ret (pe_op op_catA (pe_tup (pa_cons pe_str (pa_cons (pe_call Dpick.ok (hr.mono (by omega)) (by rfl) Dpick.m Dpick.k Dpick.b .nil pass0 (pa_cons (pv 0) (pa_cons pe_str pa_nil))) pa_nil))) (pe_callTy call_tuple_of (by rfl) T.tuple (by decide +kernel) (pa_cons (pv 15) pa_nil)))))) pss_nil) 
    (pss_one (ps_ret (pe_tup (pa_cons (pe_call Dpick.ok (hr.mono (by omega)) (by rfl) Dpick.m Dpick.k Dpick.b .nil pass0 (pa_cons (pv 0) (pa_cons (pe_tup (pa_cons pe_str (pa_cons pe_str pa_nil))) pa_nil))) (pa_cons (pe_call De.ok hr (by rfl) De.m De.k De.b .nil pass0 (pa_cons (pv 0) (pa_cons (pv 1) (pa_cons (pv 2) (pa_cons (pe_op op_sub (pv 3) pe_int) pa_nil))))) pa_nil))))))))))))))), ?_⟩
    have b0 : Bn H H dk lf sg a1 a2 a3 x1 x2 S sa sc := ⟨Sn.start D, G, G, hsa⟩
    have get : ∀ {H1 : Hp} {es : List (Key × V)} {kk : Key} {v : V}, H1 dk = some (.dK es) → valV es kk = some v → DGet H1 dk (kV kk) (some v) := fun {H1 es kk v} a b => b ▸ DGet.k a
    -- deck['fuel'] = deck['fuel'] - 1
    obtain ⟨kvs, d1, d2, d3, d4, d5, ⟨fu, d6⟩⟩ := id D.d
    refine ⟨_, rfl, dk, .int fu, rfl, get (kk := kFuel) d1 d6, _, _, rfl, rfl, _, rfl, dk, _, rfl, DPut.k (k := kFuel) d1 (small1000 (by omega)), ?_⟩
    have b1 := b0.call (D.put (k := kFuel) (i := fu - 1) d1 (.inr (.inl rfl))) (Kp.put (by simp))
    generalize upd H dk (HO.dK (putK kvs kFuel (V.int (fu - 1)))) = H1 at b1
    clear d1 d2 d3 d4 d5 d6 kvs
    -- functions, tags, local = signs; way
    refine ⟨_, rfl, sg, _, rfl, SqT.of b1.g.t, rfl, _, _, rfl, _, _, rfl, _, _, rfl, rfl, ?_⟩
    refine ⟨_, rfl, dk, lf, 13, rfl, b1.s.d, by decide, by decide, fun H2 way D2 K2 w0 w13 => ?_⟩
    have b2 := b1.call D2 K2
    clear b1
    have leafR : spLeaf K [.ref dk, .ref sa] H2 Q E0 := by
      refine ⟨dk, lf, sa, sc, rfl, b2.s.d, b2.a, hlow, by omega, fun H' t xs l e D' K' => ?_⟩
      obtain ⟨d, hd, tp⟩ := leaf_tp l e
      exact k H' _ d (.leaf hd) tp D' (b2.call D' K').s.k
    -- if deep == 0 or ..
    refine ⟨_, rfl, rfl, _, rfl, ite2 (fun h0 => ?_) (fun h0 => ?_)⟩
    · refine iteT ?_
      exact ⟨_, rfl, _, rfl, leafR⟩
    obtain ⟨m', rfl⟩ : ∃ m', m = m' + 1 := by
      cases m with
      | zero => exact absurd (by rfl) h0
      | succ m' => exact ⟨m', rfl⟩
    obtain ⟨es, d1, d2, d3, d4, d5, ⟨fu2, d6⟩⟩ := id b2.s.d.d
    refine ⟨_, rfl, dk, .int fu2, rfl, get (kk := kFuel) d1 d6, _, _, rfl, rfl, _, rfl, ite2 (fun _ => ?_) (fun _ => ?_)⟩
    · refine iteT ?_
      exact ⟨_, rfl, _, rfl, leafR⟩
    refine ⟨_, rfl, _, _, rfl, rfl, _, rfl, ite2 (fun _ => ⟨_, rfl, _, rfl, leafR⟩) (fun _ => ?_)⟩
    clear d1 d2 d3 d4 d5 d6 es h0 leafR
    have rec1 : ∀ {H3 : Hp} (b : Bn H H3 dk lf sg a1 a2 a3 x1 x2 S sa sc) {sa' : Addr} {sc' : List Str} {Q' : VK}, H3 sa' = some (.tup (sc'.map V.str)) → (∀ x ∈ sc', low x) → sc'.length + 3 * m' ≤ 900 →
        (∀ (H4 : Hp) (v : V) (d : PyData), GE S m' sc' d → Tp H4 v d → Bn H H4 dk lf sg a1 a2 a3 x1 x2 S sa sc → TT H3 H4 → Kp [dk, lf] H3 H4 → Q' v H4) →
        spLt n [.ref dk, .ref sg, .ref sa', .int (((m' + 1 : Nat) : Int) - 1)] H3 Q' E0 := by
      intro H3 b sa' sc' Q' e1 e2 e3 kk
      refine ⟨m', by omega, dk, lf, sg, sa', a1, a2, a3, x1, x2, S, sc', ?_, b.s.d, ok, b.g, e1, e2, e3, fun H' v d g t D' K' => kk H' v d g t (b.call D' K') (b.tt K') K'⟩
      rw [show ((m' + 1 : Nat) : Int) - 1 = (m' : Int) by omega]
    -- if way < 4: call
    refine ⟨_, rfl, _, _, rfl, rfl, _, rfl, ite2 (fun _ => ?_) (fun _ => ?_)⟩
    · refine ⟨_, rfl, _, rfl, dk, lf, _, _, rfl, b2.s.d, .inl ⟨a1, rfl, .inl (SqL.of b2.g.l1), b2.g.n1⟩, ?_, ?_, fun H3 x hx D3 K3 => ?_⟩
      · intro z
        have := b2.g.p1.length
        rw [z, List.length_map] at this
        exact ok.f1 (List.length_eq_zero_iff.mp this.symm)
      · rw [b2.g.p1.length, List.length_map]; have := ok.f2; omega
      have b3 := b2.call D3 K3
      obtain ⟨pd, hpd, tpx⟩ := b3.g.p1.mem hx
      obtain ⟨p, hp, rfl⟩ := List.mem_map.mp hpd
      obtain ⟨t, rfl, et⟩ := pair_open tpx
      have pk := ok.f3 p hp
      refine ⟨t, _, rfl, SqT.of et, rfl, _, _, rfl, _, _, rfl, rfl, ?_⟩
      refine ⟨_, rfl, _, rfl, (p.2 : Int), rfl, by omega, by omega, fun L hL => ?_⟩
      obtain ⟨hL0, nL⟩ := b3.free hL
      obtain ⟨eL, b4, _⟩ := b3.new (o := .lst []) hL rfl
      refine lc_range (lo := 0) (n := ((p.2 : Nat) : Int).toNat) (PvE H dk lf sg a1 a2 a3 x1 x2 S sa sc m' L)
        ⟨[], [], rfl, (fun _ h => nomatch h), eL, .nil, b4⟩ ?_ ?_
      · intro i H' hi pv
        exact exprs_turn rfl rfl rfl rfl (by omega) ok hlow hlen hL0 nL (by omega) pv _ _
      · rintro H' ⟨vs, ds, dl, dm, eL', tp, b'⟩
        refine ⟨L, vs, rfl, .inl ⟨SqL.of eL', fun t2 ht2 => ⟨by show 3 ≤ sizeLine; decide, fun r hr => ?_⟩⟩⟩
        obtain ⟨e5, b5, x5⟩ := b'.new ht2 rfl
        obtain ⟨e6, b6, x6⟩ := b5.new hr rfl
        refine k _ (.ref r) _ (.call (f := p.1) (k := p.2) hp (by omega) dm) (.tup e6 (.cons (.str _) (.cons (.str _) (.cons (.tup (x6.at e5) (TpL.tt ((TT.ext x5).trans (TT.ext x6)) _ tp)) .nil)))) b6.s.d b6.s.k
    -- if way < 6: make
    refine ⟨_, rfl, _, _, rfl, rfl, _, rfl, ite2 (fun _ => ?_) (fun _ => ?_)⟩
    · refine ⟨_, rfl, _, rfl, dk, lf, _, _, rfl, b2.s.d, .inl ⟨a2, rfl, .inl (SqL.of b2.g.l2), b2.g.n2⟩, ?_, ?_, fun H3 x hx D3 K3 => ?_⟩
      · intro z
        have := b2.g.p2.length
        rw [z, List.length_map] at this
        exact ok.t1 (List.length_eq_zero_iff.mp this.symm)
      · rw [b2.g.p2.length, List.length_map]; have := ok.t2; omega
      have b3 := b2.call D3 K3
      obtain ⟨pd, hpd, tpx⟩ := b3.g.p2.mem hx
      obtain ⟨p, hp, rfl⟩ := List.mem_map.mp hpd
      obtain ⟨t, rfl, et⟩ := pair_open tpx
      have pk := ok.t3 p hp
      refine ⟨t, _, rfl, SqT.of et, rfl, _, _, rfl, _, _, rfl, rfl, ?_⟩
      refine ⟨_, rfl, _, rfl, (p.2 : Int), rfl, by omega, by omega, fun L hL => ?_⟩
      obtain ⟨hL0, nL⟩ := b3.free hL
      obtain ⟨eL, b4, _⟩ := b3.new (o := .lst []) hL rfl
      refine lc_range (lo := 0) (n := ((p.2 : Nat) : Int).toNat) (PvE H dk lf sg a1 a2 a3 x1 x2 S sa sc m' L)
        ⟨[], [], rfl, (fun _ h => nomatch h), eL, .nil, b4⟩ ?_ ?_
      · intro i H' hi pv
        exact exprs_turn rfl rfl rfl rfl (by omega) ok hlow hlen hL0 nL (by omega) pv _ _
      · rintro H' ⟨vs, ds, dl, dm, eL', tp, b'⟩
        refine ⟨L, vs, rfl, .inl ⟨SqL.of eL', fun t2 ht2 => ⟨by show 3 ≤ sizeLine; decide, fun r hr => ?_⟩⟩⟩
        obtain ⟨e5, b5, x5⟩ := b'.new ht2 rfl
        obtain ⟨e6, b6, x6⟩ := b5.new hr rfl
        refine k _ (.ref r) _ (.make (f := p.1) (k := p.2) hp (by omega) dm) (.tup e6 (.cons (.str _) (.cons (.str _) (.cons (.tup (x6.at e5) (TpL.tt ((TT.ext x5).trans (TT.ext x6)) _ tp)) .nil)))) b6.s.d b6.s.k
    -- if way < 8: case
    refine ⟨_, rfl, _, _, rfl, rfl, _, rfl, ite2 (fun _ => ?_) (fun _ => ?_)⟩
    · refine ⟨_, rfl, _, rfl, _, rfl, _, rfl, _, _, rfl, rfl, rec1 b2 b2.a hlow (by omega) fun H3 ve de ge te b3 _ _ => ⟨by decide, fun L hL => ⟨_, _, rfl, ?_⟩⟩⟩
      obtain ⟨hL0, nL⟩ := b3.free hL
      generalize hG : upd H3 L _ = H4
      obtain ⟨eL, b4, x4⟩ := b3.new hL hG
      have te4 := Tp.tt (TT.ext x4) _ te
      clear hG x4 te b3
      -- for tag, many in shuffled(tags)[:..]
      refine ⟨_, rfl, _, rfl, dk, lf, a2, _, rfl, b4.s.d, .inl (SqL.of b4.g.l2), b4.g.n2, ?_, fun H5 l1 ys pm f1 n1 e1 D5 K5 => ?_⟩
      · rw [b4.g.p2.length, List.length_map]; have := ok.t2; omega
      have b5 := b4.call D5 K5
      have te5 := Tp.tt (b4.tt K5) _ te4
      have eL5 := K5 _ _ eL nL
      obtain ⟨qs, pq, tq⟩ := perm_pairs pm b5.g.p2
      refine ⟨_, rfl, dk, lf, 3, rfl, D5, by decide, by decide, fun H6 i D6 K6 i0 i3 => ⟨_, _, rfl, rfl, _, rfl, l1, ys, rfl, SqL.of (K6 _ _ e1 n1), fun p hp => ?_⟩⟩
      have b6 := b5.call D6 K6
      have te6 := Tp.tt (b5.tt K6) _ te5
      have eL6 := K6 _ _ eL5 nL
      have tq6 := TpL.tt (b5.tt K6) _ tq
      have et : (1 : Int) + i = ((1 + i.toNat : Nat) : Int) := by omega
      have ec : cutV ys none (some (1 + i)) = ys.take (1 + i.toNat) := by rw [et, cut_to]
      rw [ec]
      generalize hT : 1 + i.toNat = tk
      have tk1 : 1 ≤ tk ∧ tk ≤ 3 := by omega
      have tqk : TpL H6 (ys.take tk) ((qs.take tk).map prD) := by
        have := tq6.take tk
        rwa [← List.map_take] at this
      have lk : (ys.take tk).length = (qs.take tk).length := by rw [tqk.length, List.length_map]
      have qne : qs.take tk ≠ [] := by
        intro z
        have h1 : qs.length = S.ts.length := pq.length_eq
        have h2 : S.ts.length ≠ 0 := fun z => ok.t1 (List.length_eq_zero_iff.mp z)
        have := congrArg List.length z
        rw [List.length_take, List.length_nil] at this
        omega
      have qnd : ((qs.take tk).map (·.1)).Nodup := by
        have h1 : (qs.map (·.1)).Nodup := (pq.map (·.1)).nodup_iff.mpr ok.t5
        rw [List.map_take]
        exact h1.sublist (List.take_sublist _ _)
      have qin : ∀ q ∈ qs.take tk, q ∈ S.ts := fun q hq => pq.mem_iff.mp (List.mem_of_mem_take hq)
      have ql : (qs.take tk).length ≤ 3 := by rw [List.length_take]; omega
      generalize qs.take tk = rs at tqk lk qne qnd qin ql
      generalize ys.take tk = zs at tqk lk
      generalize hG : upd H6 p _ = H7
      obtain ⟨ep, b7, x7⟩ := b6.new hp hG
      clear hG
      have npL : L ≠ p := fun z => by rw [← z] at hp; rw [eL6] at hp; cases hp
      refine ⟨p, rfl, ⟨_, SqL.of ep⟩, for_list (K := K) (a := p) (xs := zs) (fun j σ H' => ∃ (vs : List V) (bs : List (Str × List Str × PyData)) (c8 c9 c10 c13 : Option V),
        σ = [some (.ref dk), some (.ref sg), some (.ref sa), some (.int ((m' + 1 : Nat) : Int)), some (.ref a1), some (.ref a2), some (.ref a3), some (.int way), c8, c9, c10, some ve, some (.ref L), c13, none, none, none] ∧
        H' L = some (.lst vs) ∧ TpL H' vs (bs.map brD) ∧ bs.length = j ∧ bs.map (·.1) = (rs.take j).map (·.1) ∧ (∀ b ∈ bs, (b.1, b.2.1.length) ∈ S.ts) ∧ (∀ b ∈ bs, b.2.1.Nodup ∧ ∀ x ∈ b.2.1, x ∈ S.loc) ∧ (∀ b ∈ bs, GE S m' (sc ++ b.2.1) b.2.2) ∧
        H' p = some (.lst zs) ∧ TpL H' zs (rs.map prD) ∧ Tp H' ve de ∧ Bn H H' dk lf sg a1 a2 a3 x1 x2 S sa sc)
        ⟨[], [], none, none, none, none, rfl, x7.at eL6, .nil, rfl, rfl, (fun _ h => nomatch h), (fun _ h => nomatch h), (fun _ h => nomatch h), ep, TpL.tt (TT.ext x7) _ tqk, Tp.tt (TT.ext x7) _ te6, b7⟩ ?_ ?_ ?_⟩
      · rintro j σ H' _ ⟨vs, bs, c8, c9, c10, c13, _, _, _, _, _, _, _, _, e, _⟩
        exact SqL.of e
      · rintro j y σ H' hj ⟨vs, bs, c8, c9, c10, c13, rfl, q1, q2, q3, q4, q5, q6, q7, q8, q9, q10, b8⟩
        obtain ⟨d, hd, tpy⟩ := q9.get hj
        rw [List.getElem?_map] at hd
        obtain ⟨q, hq, rfl⟩ := Option.map_eq_some_iff.mp hd
        have hqm : q ∈ rs := List.mem_of_getElem? hq
        have hqs := qin q hqm
        have q23 := ok.t3 q hqs
        obtain ⟨t0, rfl, e0⟩ := pair_open tpy
        refine ⟨t0, _, rfl, SqT.of e0, rfl, _, _, rfl, _, _, rfl, rfl, ?_⟩
        -- names = tuple(shuffled(local)[:many])
        refine ⟨_, rfl, _, rfl, dk, lf, a3, _, rfl, b8.s.d, .inl (SqL.of b8.g.l3), b8.g.n3, by rw [List.length_map]; have := ok.l2; omega, fun H9 l2 us pm2 f2 n2 e2 D9 K9 => ?_⟩
        obtain ⟨ns, pn, rfl⟩ := perm_strs pm2 rfl
        have b9 := b8.call D9 K9
        have t9 := b8.tt K9
        refine ⟨_, rfl, _, rfl, l2, _, rfl, SqL.of e2, fun p2 hp2 => ?_⟩
        rw [cut_to, ← List.map_take]
        generalize hG : upd H9 p2 _ = Ha
        obtain ⟨ep2, ba, xa⟩ := b9.new hp2 hG
        clear hG
        refine ⟨p2, _, rfl, .inl ⟨SqL.of ep2, fun t3 ht3 => ?_⟩⟩
        generalize hG : upd Ha t3 _ = Hb
        obtain ⟨et3, bb, xb⟩ := ba.new ht3 hG
        clear hG
        have nlen : (ns.take q.2).length = q.2 := by
          rw [List.length_take]
          have h1 : ns.length = S.loc.length := pn.length_eq
          have := ok.l1
          omega
        have nnd : (ns.take q.2).Nodup := (pn.nodup_iff.mpr ok.l4).sublist (List.take_sublist _ _)
        have nin : ∀ x ∈ ns.take q.2, x ∈ S.loc := fun x hx => pn.mem_iff.mp (List.mem_of_mem_take hx)
        generalize ns.take q.2 = names at et3 nlen nnd nin
        have tb : TT H' Hb := (t9.trans (TT.ext xa)).trans (TT.ext xb)
        have eLb : Hb L = some (.lst vs) := xb.at (xa.at (K9 _ _ q1 nL))
        have epb : Hb p = some (.lst zs) := xb.at (xa.at (K9 _ _ q8 ((b6.free hp).2)))
        -- branches.append((tag, names, ..))
        refine ⟨_, rfl, Or.inl ⟨rfl, _, SqL.of eLb⟩, _, rfl, _, rfl, _, rfl, _, rfl, _, rfl, _, rfl, catA_ok bb.a et3 (by rw [List.length_map, List.length_map]; exact big1000 (by omega)) fun c Hc ec hc => ?_⟩
        obtain ⟨bc, xc⟩ : Bn H Hc dk lf sg a1 a2 a3 x1 x2 S sa sc ∧ Kp [] Hb Hc := by
          rcases hc with rfl | ⟨hc, e⟩
          · exact ⟨bb, Kp.refl _ _⟩
          · obtain ⟨_, z1, z2⟩ := bb.new hc e
            exact ⟨z1, z2⟩
        rw [← List.map_append] at ec
        refine ⟨_, rfl, _, _, rfl, rfl, rec1 bc (sc' := sc ++ names) ec ?_ (by rw [List.length_append]; omega) fun Hd v d g tp bd td kd => ⟨by show 3 ≤ sizeLine; decide, fun r hr => ?_⟩⟩
        · intro x hx
          rcases List.mem_append.mp hx with hx | hx
          · exact hlow x hx
          · exact nameOk_low (ok.l3 x (nin x hx))
        generalize hG : upd Hd r _ = He
        obtain ⟨er, be, xe⟩ := bd.new hr hG
        clear hG
        have eLe : He L = some (.lst vs) := xe.at (kd _ _ (xc.at eLb) nL)
        have tE : TT H' He := ((tb.trans (TT.ext xc)).trans td).trans (TT.ext xe)
        have vl : vs.length = j := by rw [q2.length, List.length_map]; exact q3
        refine ⟨L, vs, _, rfl, rfl, eLe, small1000 (by have := (List.getElem?_eq_some_iff.mp hj).1; omega), ?_⟩
        have tF : TT He (upd He L (.lst (vs ++ [.ref r]))) := TT.put eLe
        refine ⟨vs ++ [.ref r], bs ++ [(q.1, names, d)], _, _, _, _, rfl, upd_same, ?_, by simp [q3], ?_, ?_, ?_, ?_, ?_, TpL.tt (tE.trans tF) _ q9, Tp.tt (tE.trans tF) _ q10, be.put hL0 nL eLe⟩
        · rw [List.map_append]
          refine (TpL.tt (tE.trans tF) _ q2).snoc (Tp.tt tF _ ?_)
          exact .tup er (.cons (.str _) (.cons (.tup (xe.at (td _ _ (xc.at et3))) (TpL.strs names)) (.cons (Tp.tt (TT.ext xe) _ tp) .nil)))
        · rw [List.map_append, q4, List.take_add_one, hq]
          simp
        · intro b hb
          rcases List.mem_append.mp hb with hb | hb
          · exact q5 b hb
          · rw [List.mem_singleton.mp hb]
            show (q.1, names.length) ∈ S.ts
            rw [nlen]; exact hqs
        · intro b hb
          rcases List.mem_append.mp hb with hb | hb
          · exact q6 b hb
          · rw [List.mem_singleton.mp hb]; exact ⟨nnd, nin⟩
        · intro b hb
          rcases List.mem_append.mp hb with hb | hb
          · exact q7 b hb
          · rw [List.mem_singleton.mp hb]; exact g
        · rw [upd_ne npL.symm]
          exact xe.at (kd _ _ (xc.at epb) ((b6.free hp).2))
      · rintro σ H' ⟨vs, bs, c8, c9, c10, c13, rfl, q1, q2, q3, q4, q5, q6, q7, q8, q9, q10, b8⟩
        refine ⟨_, rfl, _, rfl, L, vs, rfl, .inl ⟨SqL.of q1, fun t2 ht2 => ⟨by show 3 ≤ sizeLine; decide, fun r hr => ?_⟩⟩⟩
        obtain ⟨e5, b9, x9⟩ := b8.new ht2 rfl
        obtain ⟨e6, ba, xa⟩ := b9.new hr rfl
        have hrs : rs.take zs.length = rs := by rw [lk]; exact List.take_length
        rw [hrs] at q4
        refine k _ (.ref r) _ (.case (bs := bs) ge ?_ ?_ ?_ q5 q6 q7) (.tup e6 (.cons (.str _) (.cons (Tp.tt ((TT.ext x9).trans (TT.ext xa)) _ q10) (.cons (.tup (xa.at e5) (TpL.tt ((TT.ext x9).trans (TT.ext xa)) _ q2)) .nil)))) ba.s.d ba.s.k
        · intro z
          rw [z] at q4
          exact qne (List.map_eq_nil_iff.mp q4.symm)
        · have := congrArg List.length q4
          rw [List.length_map, List.length_map] at this
          omega
        · rw [q4]; exact qnd
    -- if way == 8: let
    refine ⟨_, rfl, rfl, _, rfl, ite2 (fun _ => ?_) (fun _ => ?_)⟩
    · refine ⟨_, rfl, _, rfl, dk, lf, _, _, rfl, b2.s.d, .inl ⟨a3, rfl, .inl (SqL.of b2.g.l3), b2.g.n3⟩, ?_, ?_, fun H3 x hx D3 K3 => ?_⟩
      · intro z
        have := ok.l1
        rw [List.map_eq_nil_iff.mp z] at this
        simp at this
      · rw [List.length_map]; have := ok.l2; omega
      obtain ⟨y, hy, rfl⟩ := str_map_at hx
      have b3 := b2.call D3 K3
      refine ⟨_, rfl, _, rfl, _, rfl, _, rfl, _, _, rfl, rfl, rec1 b3 b3.a hlow (by omega) fun H4 ve de ge te b4 _ _ => ⟨_, _, rfl, ?_⟩⟩
      refine ⟨_, rfl, _, rfl, _, rfl, _, rfl, _, rfl, _, rfl, by show 1 ≤ sizeLine; decide, fun q hq => ?_⟩
      generalize hG : upd H4 q _ = H5
      obtain ⟨eq, b5, x5⟩ := b4.new hq hG
      clear hG
      refine catA_ok (ys := [y].map V.str) b5.a eq (by rw [List.length_map, List.length_map]; show sc.length + 1 ≤ sizeLine; exact big1000 (by omega)) fun c Hc ec hc => ?_
      obtain ⟨bc, xc⟩ : Bn H Hc dk lf sg a1 a2 a3 x1 x2 S sa sc ∧ Kp [] H5 Hc := by
        rcases hc with rfl | ⟨hc, e⟩
        · exact ⟨b5, Kp.refl _ _⟩
        · obtain ⟨_, z1, z2⟩ := b5.new hc e
          exact ⟨z1, z2⟩
      rw [← List.map_append] at ec
      refine ⟨_, rfl, _, _, rfl, rfl, rec1 bc (sc' := sc ++ [y]) ec ?_ (by rw [List.length_append]; simp; omega) fun Hd v d g tp bd td kd => ⟨by show 4 ≤ sizeLine; decide, fun r hr => ?_⟩⟩
      · intro x hx
        rcases List.mem_append.mp hx with hx | hx
        · exact hlow x hx
        · rw [List.mem_singleton.mp hx]; exact nameOk_low (ok.l3 y hy)
      obtain ⟨er, be, xe⟩ := bd.new hr rfl
      exact k _ (.ref r) _ (.let hy ge g) (.tup er (.cons (.str _) (.cons (.str y) (.cons (Tp.tt ((((TT.ext x5).trans (TT.ext xc)).trans td).trans (TT.ext xe)) _ te) (.cons (Tp.tt (TT.ext xe) _ tp) .nil))))) be.s.d be.s.k
    -- if way == 9: if
    refine ⟨_, rfl, rfl, _, rfl, ite2 (fun _ => ?_) (fun _ => ?_)⟩
    · refine ⟨4, rfl, by decide, by decide, fun L hL => ?_⟩
      obtain ⟨hL0, nL⟩ := b2.free hL
      obtain ⟨eL, b4, _⟩ := b2.new (o := .lst []) hL rfl
      refine lc_range (lo := 0) (n := 4) (PvE H dk lf sg a1 a2 a3 x1 x2 S sa sc m' L) ⟨[], [], rfl, (fun _ h => nomatch h), eL, .nil, b4⟩ ?_ ?_
      · intro i H' hi pv
        exact exprs_turn rfl rfl rfl rfl (by omega) ok hlow hlen hL0 nL (by omega) pv _ _
      · rintro H' ⟨vs, ds, dl, dm, eL', tp, b'⟩
        refine ⟨_, rfl, dk, lf, _, _, rfl, b'.s.d, .inr ⟨_, rfl, rfl⟩, by decide, by decide, fun H5 x hx D5 K5 => ⟨by show 2 ≤ sizeLine; decide, fun q hq => ?_⟩⟩
        obtain ⟨cc, hcc, rfl⟩ := List.mem_map.mp hx
        have b5 := b'.call D5 K5
        generalize hG : upd H5 q _ = H6
        obtain ⟨eq, b6, x6⟩ := b5.new hq hG
        clear hG
        have eL6 := x6.at (K5 _ _ eL' nL)
        refine ⟨_, rfl, L, vs, rfl, .inl ⟨SqL.of eL6, fun t2 ht2 => ?_⟩⟩
        generalize hG : upd H6 t2 _ = H7
        obtain ⟨e7, b7, x7⟩ := b6.new ht2 hG
        clear hG
        have t7 := ((b'.tt K5).trans (TT.ext x6)).trans (TT.ext x7)
        refine catA_ok (x7.at eq) e7 (by rw [tp.length, dl]; show 2 + 4 ≤ sizeLine; decide) fun c Hc ec hc => ?_
        obtain ⟨bc, xc⟩ : Bn H Hc dk lf sg a1 a2 a3 x1 x2 S sa sc ∧ Kp [] H7 Hc := by
          rcases hc with rfl | ⟨hc, e⟩
          · exact ⟨b7, Kp.refl _ _⟩
          · obtain ⟨_, z1, z2⟩ := b7.new hc e
            exact ⟨z1, z2⟩
        refine k _ (.ref c) _ (.if (o := ⟨#[cc]⟩) ?_ dl dm) (.tup ec (.cons (.str _) (.cons (.str _) (TpL.tt (t7.trans (TT.ext xc)) _ tp)))) bc.s.d bc.s.k
        have h : cc ∈ [60, 61] := hcc
        rcases List.mem_cons.mp h with rfl | h
        · exact .inl (by decide)
        · rw [List.mem_singleton.mp h]; exact .inr (by decide)
    -- if way == 10: op
    refine ⟨_, rfl, rfl, _, rfl, ite2 (fun _ => ?_) (fun _ => ?_)⟩
    · refine ⟨2, rfl, by decide, by decide, fun L hL => ?_⟩
      obtain ⟨hL0, nL⟩ := b2.free hL
      obtain ⟨eL, b4, _⟩ := b2.new (o := .lst []) hL rfl
      refine lc_range (lo := 0) (n := 2) (PvE H dk lf sg a1 a2 a3 x1 x2 S sa sc m' L) ⟨[], [], rfl, (fun _ h => nomatch h), eL, .nil, b4⟩ ?_ ?_
      · intro i H' hi pv
        exact exprs_turn rfl rfl rfl rfl (by omega) ok hlow hlen hL0 nL (by omega) pv _ _
      · rintro H' ⟨vs, ds, dl, dm, eL', tp, b'⟩
        refine ⟨_, rfl, dk, lf, _, _, rfl, b'.s.d, .inr ⟨_, rfl, rfl⟩, by decide, by decide, fun H5 x hx D5 K5 => ⟨by show 2 ≤ sizeLine; decide, fun q hq => ?_⟩⟩
        obtain ⟨cc, hcc, rfl⟩ := List.mem_map.mp hx
        have b5 := b'.call D5 K5
        generalize hG : upd H5 q _ = H6
        obtain ⟨eq, b6, x6⟩ := b5.new hq hG
        clear hG
        have eL6 := x6.at (K5 _ _ eL' nL)
        refine ⟨_, rfl, L, vs, rfl, .inl ⟨SqL.of eL6, fun t2 ht2 => ?_⟩⟩
        generalize hG : upd H6 t2 _ = H7
        obtain ⟨e7, b7, x7⟩ := b6.new ht2 hG
        clear hG
        have t7 := ((b'.tt K5).trans (TT.ext x6)).trans (TT.ext x7)
        refine catA_ok (x7.at eq) e7 (by rw [tp.length, dl]; show 2 + 2 ≤ sizeLine; decide) fun c Hc ec hc => ?_
        obtain ⟨bc, xc⟩ : Bn H Hc dk lf sg a1 a2 a3 x1 x2 S sa sc ∧ Kp [] H7 Hc := by
          rcases hc with rfl | ⟨hc, e⟩
          · exact ⟨b7, Kp.refl _ _⟩
          · obtain ⟨_, z1, z2⟩ := b7.new hc e
            exact ⟨z1, z2⟩
        refine k _ (.ref c) _ (.op (o := ⟨#[cc]⟩) ?_ dl dm) (.tup ec (.cons (.str _) (.cons (.str _) (TpL.tt (t7.trans (TT.ext xc)) _ tp)))) bc.s.d bc.s.k
        have h : cc ∈ [43, 45, 42] := hcc
        rcases List.mem_cons.mp h with rfl | h
        · exact .inl (by decide)
        · rcases List.mem_cons.mp h with rfl | h
          · exact .inr (.inl (by decide))
          · rw [List.mem_singleton.mp h]; exact .inr (.inr (by decide))
    -- delay, force
    refine ⟨_, rfl, by show 2 ≤ sizeLine; decide, fun q hq => ?_⟩
    generalize hG : upd H2 q _ = H3
    obtain ⟨eq, b3, x3⟩ := b2.new hq hG
    clear hG
    have eq : H3 q = some (.tup (([Str.ofString "delay", Str.ofString "force"] : List Str).map V.str)) := eq
    refine ⟨dk, lf, _, _, rfl, b3.s.d, .inl ⟨q, rfl, .inr (SqT.of eq), b3.s.d.tup eq⟩, by decide, by decide, fun H4 x hx D4 K4 => ?_⟩
    obtain ⟨o, ho, rfl⟩ := str_map_at hx
    have b4 := b3.call D4 K4
    refine ⟨_, rfl, _, rfl, _, rfl, _, rfl, _, _, rfl, rfl, rec1 b4 b4.a hlow (by omega) fun H5 ve de ge te b5 _ _ => ⟨by show 2 ≤ sizeLine; decide, fun r hr => ?_⟩⟩
    obtain ⟨er, b6, x6⟩ := b5.new hr rfl
    refine k _ (.ref r) _ (.one (o := o) ?_ ge) (.tup er (.cons (.str _) (.cons (Tp.tt (TT.ext x6) _ te) .nil))) b6.s.d b6.s.k
    rcases List.mem_cons.mp ho with rfl | ho
    · exact .inl rfl
    · exact .inr (List.mem_singleton.mp ho)
/-- expressions of any depth -/
theorem okExpr {f g g2 g3 g4 : Addr} {fd gd gd2 gd3 gd4 : FuncData} (F : Fun K "_law_expression" "_law_expression" sExpr f fd) (hm : mg "_law_expression" = some (.ref f)) (hk : PySem.W.keepIn K (.ref f) = true) (hb : Binds K fd ["deck", "signs", "scope", "deep"] [])
    (T : Blt mg) (Ddraw : Df P w K mg base "_law_draw" 1 g gd ["deck", "many"] spDraw)
    (Dpick : Df P w K mg base "_law_pick" 2 g2 gd2 ["deck", "some"] (spPick K)) (Dleaf : Df P w K mg base "_law_leaf" 3 g3 gd3 ["deck", "scope"] (spLeaf K)) (Dshuf : Df P w K mg base "_law_shuffled" 2 g4 gd4 ["deck", "some"] (spShuf K)) :
    ∀ n, FnOk P w K mg base CX0 (4 + n) f fd ["deck", "signs", "scope", "deep"] (spLt n)
  | 0 => ⟨fun vs H Q E h => by obtain ⟨_, z, _⟩ := h; omega, fun A outer s H args us vs Q E _ _ _ _ h => by obtain ⟨_, z, _⟩ := h; omega⟩
  | n + 1 => okStep F T Ddraw Dpick Dleaf Dshuf ⟨okExpr F hm hk hb T Ddraw Dpick Dleaf Dshuf n, hm, hk, hb⟩
end
end Dh

/-! DhS -/
set_option Elab.async false
set_option linter.all false
set_option maxRecDepth 100000
set_option maxHeartbeats 4000000
namespace Dh
open PySem PySem.Spec PyProof.Rows L2

/-- new names: apart, and none of the elder ones -/
structure Fr (us ns : List Str) : Prop where
  nd : ns.Nodup
  out : ∀ x ∈ ns, x ∉ us
theorem Fr.nil (us : List Str) : Fr us [] := ⟨List.nodup_nil, fun _ h => nomatch h⟩
theorem Fr.snoc {us ns : List Str} {x : Str} (h : Fr us ns) (n : (us ++ ns).contains x = false) : Fr us (ns ++ [x]) := by
  have n' : x ∉ us ++ ns := fun z => by rw [List.contains_iff_mem.mpr z] at n; cases n
  have n1 : x ∉ us := fun z => n' (List.mem_append_left _ z)
  have n2 : x ∉ ns := fun z => n' (List.mem_append_right _ z)
  refine ⟨?_, fun y hy => ?_⟩
  · rw [List.nodup_append]
    refine ⟨h.nd, by simp, fun a ha b hb => ?_⟩
    rw [List.mem_singleton.mp hb]
    exact fun z => n2 (z ▸ ha)
  · rcases List.mem_append.mp hy with hy | hy
    · exact h.out y hy
    · rw [List.mem_singleton.mp hy]; exact n1
def kindsL : List Int := [1, 2, 0, 3, 1, 2]
def sizesL : List Int := [0, 2, 1, 3, 0, 2]
theorem kindsL_ok : ∀ i ∈ kindsL, 0 ≤ i ∧ i ≤ 3 := by decide
theorem sizesL_ok : ∀ i ∈ sizesL, 0 ≤ i ∧ i ≤ 3 := by decide
def spSigns : Sp := fun vs H Q _ => ∃ (dk lf u tg : Addr) (us tgs : List Str), vs = [.ref dk, .ref u, .ref tg] ∧ Dk H dk lf ∧ u ∉ [dk, lf] ∧ tg ∉ [dk, lf] ∧ u ≠ tg ∧ H u = some (.lst (us.map V.str)) ∧ H tg = some (.lst (tgs.map V.str)) ∧ us.length ≤ 30 ∧ tgs.length ≤ 30 ∧
  ∀ (H' : Hp) (sg a1 a2 a3 : Addr) (x1 x2 : List V) (S : Sg), SgOk S → SgAt H' dk lf sg a1 a2 a3 x1 x2 S → Fr us (S.fs.map (·.1) ++ S.loc) → Fr tgs (S.ts.map (·.1)) →
    H' u = some (.lst ((us ++ (S.fs.map (·.1) ++ S.loc)).map V.str)) → H' tg = some (.lst ((tgs ++ S.ts.map (·.1)).map V.str)) → S.fs.length ≤ 5 → S.ts.length ≤ 4 → S.loc.length ≤ 6 → Dk H' dk lf → Kp [dk, lf, u, tg] H H' → Q (.ref sg) H'
section
variable {P : Program} {w : World} {K : PySem.W.Frag} {mg : Str → Option Value} {base : Heap}
abbrev namesS : List Str := ["deck", "used", "tagged", "functions", "tags", "go"]
theorem scSigns : FnScope namesS ["deck", "used", "tagged"] (defScope sSigns) := ⟨rfl, rfl, rfl, by decide +kernel, rfl, by decide +kernel, by decide +kernel⟩
theorem okSigns {f g g2 g3 g4 : Addr} {fd gd gd2 gd3 gd4 : FuncData} (F : Fun K "_law_signs" "_law_signs" sSigns f fd) (T : Blt mg) (Ddraw : Df P w K mg base "_law_draw" 1 g gd ["deck", "many"] spDraw)
    (Dpick : Df P w K mg base "_law_pick" 2 g2 gd2 ["deck", "some"] (spPick K)) (Dname : Df P w K mg base "_law_name" 3 g3 gd3 ["deck", "used"] spName) (Dtag : Df P w K mg base "_law_tag" 3 g4 gd4 ["deck", "used"] spTag) :
    FnOk P w K mg base CX0 4 f fd ["deck", "used", "tagged"] spSigns := by
  refine F.ok scSigns (fun vs H Q E h => ?_) (fun cdv A outer s H vs Q E hr h => ?_)
  · obtain ⟨_, _, _, _, _, _, rfl, _⟩ := h
    rfl
  · obtain ⟨dk, lf, u, tg, us, tgs, rfl, D, nu, nt, nut, hus, htg, lus, ltg, k⟩ := h
    refine ⟨_, (pss_cons (ps_setLc (i := 3) (own := [("go", 5)]) (g := gName 5) (tt := tYes) rfl scSigns.nd rfl rfl (sw_true rfl rfl rfl (by decide +kernel)) (pi_range1 (by rfl) T.range (pa_cons (pe_op op_add pe_int (pe_call Ddraw.ok (hr.mono (by decide)) (by rfl) Ddraw.m Ddraw.k Ddraw.b .nil pass0 (pa_cons (pv 0) (pa_cons pe_int pa_nil)))) pa_nil)) (blkOk_by (N := namesS) (sc := defScope sSigns) (by decide +kernel)) (fun _ _ _ _ _ => pg_name (i := 5) scSigns.nd rfl (Or.inl rfl)) (fun _ _ _ _ _ => pts_nil) (fun _ _ _ _ _ => (pe_tup (pa_cons (pe_call Dname.ok (hr.mono (by decide)) (by rfl) Dname.m Dname.k Dname.b .nil pass0 (pa_cons (pv 0) (pa_cons (pv 1) pa_nil))) (pa_cons (pe_call Dpick.ok (hr.mono (by decide)) (by rfl) Dpick.m Dpick.k Dpick.b .nil pass0 (pa_cons (pv 0) (pa_cons (pe_tup (pa_cons pe_int (pa_cons pe_int (pa_cons pe_int (pa_cons pe_int (pa_cons pe_int (pa_cons pe_int pa_nil))))))) pa_nil))) pa_nil))))) 
    (pss_cons (ps_setLc (i := 4) (own := [("go", 5)]) (g := gName 5) (tt := tYes) rfl scSigns.nd rfl rfl (sw_true rfl rfl rfl (by decide +kernel)) (pi_range1 (by rfl) T.range (pa_cons (pe_op op_add pe_int (pe_call Ddraw.ok (hr.mono (by decide)) (by rfl) Ddraw.m Ddraw.k Ddraw.b .nil pass0 (pa_cons (pv 0) (pa_cons pe_int pa_nil)))) pa_nil)) (blkOk_by (N := namesS) (sc := defScope sSigns) (by decide +kernel)) (fun _ _ _ _ _ => pg_name (i := 5) scSigns.nd rfl (Or.inl rfl)) (fun _ _ _ _ _ => pts_nil) (fun _ _ _ _ _ => (pe_tup (pa_cons (pe_call Dtag.ok (hr.mono (by decide)) (by rfl) Dtag.m Dtag.k Dtag.b .nil pass0 (pa_cons (pv 0) (pa_cons (pv 2) pa_nil))) (pa_cons (pe_call Dpick.ok (hr.mono (by decide)) (by rfl) Dpick.m Dpick.k Dpick.b .nil pass0 (pa_cons (pv 0) (pa_cons (pe_tup (pa_cons pe_int (pa_cons pe_int (pa_cons pe_int (pa_cons pe_int (pa_cons pe_int (pa_cons pe_int pa_nil))))))) pa_nil))) pa_nil))))) 
    (pss_one (ps_ret (pe_tup (pa_cons (pv 3) (pa_cons (pv 4) (pa_cons (pe_lc (own := [("go", 5)]) (g := gName 5) (tt := tYes) rfl scSigns.nd (pi_range1 (by rfl) T.range (pa_cons (pe_op op_add pe_int (pe_call Ddraw.ok (hr.mono (by decide)) (by rfl) Ddraw.m Ddraw.k Ddraw.b .nil pass0 (pa_cons (pv 0) (pa_cons pe_int pa_nil)))) pa_nil)) (blkOk_by (N := namesS) (sc := defScope sSigns) (by decide +kernel)) (fun _ _ _ _ _ => pg_name (i := 5) scSigns.nd rfl (Or.inl rfl)) (fun _ _ _ _ _ => pts_nil) (fun _ _ _ _ _ => (pe_call Dname.ok (hr.mono (by decide)) (by rfl) Dname.m Dname.k Dname.b .nil pass0 (pa_cons (pv 0) (pa_cons (pv 1) pa_nil))))) pa_nil)))))))), ?_⟩
    have drop1 : ∀ {b : Addr}, b ∉ [dk, lf] → b ≠ u → b ∉ [dk, lf, u] := fun {b} h1 h2 z => by
      simp at h1 z
      rcases z with z | z | z
      · exact h1.1 z
      · exact h1.2 z
      · exact h2 z
    have drop2 : ∀ {b : Addr}, b ∉ [dk, lf] → b ≠ tg → b ∉ [dk, lf, tg] := fun {b} h1 h2 z => by
      simp at h1 z
      rcases z with z | z | z
      · exact h1.1 z
      · exact h1.2 z
      · exact h2 z
    -- functions
    refine ⟨_, rfl, dk, lf, 5, rfl, D, by decide, by decide, fun H1 i D1 K1 i0 i5 => ⟨_, _, rfl, rfl, 1 + i, rfl, by omega, by omega, fun L hL => ?_⟩⟩
    have hus1 := K1 _ _ hus nu
    have htg1 := K1 _ _ htg nt
    have nL := D1.mem hL
    have nLu : u ≠ L := ne_of_none hus1 hL
    have nLt : tg ≠ L := ne_of_none htg1 hL
    refine lc_range (lo := 0) (n := (1 + i).toNat) (fun j H' => ∃ (vs : List V) (fs : List (Str × Nat)), fs.length = j ∧ H' L = some (.lst vs) ∧ TpL H' vs (fs.map prD) ∧ (∀ p ∈ fs, nameOk p.1 = true ∧ p.2 ≤ 3) ∧ Fr us (fs.map (·.1)) ∧
      H' u = some (.lst ((us ++ fs.map (·.1)).map V.str)) ∧ Dk H' dk lf ∧ Kp [dk, lf, u] H1 H')
      ⟨[], [], rfl, upd_same, .nil, (fun _ h => nomatch h), Fr.nil us, by rw [upd_ne nLu, List.map_nil, List.append_nil]; exact hus1, D1.new hL, Kp.new hL⟩ ?_ ?_
    · rintro j H' hj ⟨vs, fs, q1, q2, q3, q4, q5, q6, q7, q8⟩
      refine ⟨rfl, yesI ?_⟩
      refine ⟨_, rfl, _, rfl, dk, lf, u, _, rfl, q7, nu, q6, by rw [List.length_append, List.length_map]; omega, fun H2 x ox nx e2 D2 K2 => ?_⟩
      have t2 := TT.deck3 K2 q7 q6
      have eL2 := K2 _ _ q2 (drop1 nL nLu.symm)
      refine ⟨_, rfl, by show 6 ≤ sizeLine; decide, fun p hp => ?_⟩
      have s2 : Sn [dk, lf] H2 H2 dk lf := Sn.start D2
      generalize hG : upd H2 p _ = H3
      obtain ⟨ep, s3, x3⟩ := s2.stp hp hG
      clear hG
      have ep : H3 p = some (.tup (kindsL.map V.int)) := ep
      refine ⟨dk, lf, _, _, rfl, s3.d, .inl ⟨p, rfl, .inr (SqT.of ep), s3.d.tup ep⟩, by decide, by decide, fun H4 y hy D4 K4 => ⟨by show 2 ≤ sizeLine; decide, fun r hr => ?_⟩⟩
      obtain ⟨z, hz, rfl⟩ := List.mem_map.mp hy
      have hz2 := kindsL_ok z hz
      have s4 := s3.call D4 K4
      have t4 := TT.deck K4 s3.d
      generalize hG : upd H4 r _ = H5
      obtain ⟨er, s5, x5⟩ := s4.stp hr hG
      clear hG
      have eL5 := x5.at (K4 _ _ (x3.at eL2) nL)
      have eu5 := x5.at (K4 _ _ (x3.at e2) nu)
      have tA : TT H' H5 := ((t2.trans (TT.ext x3)).trans t4).trans (TT.ext x5)
      have tB : TT H5 (upd H5 L (.lst (vs ++ [.ref r]))) := TT.put eL5
      have ezn : z = ((z.toNat : Nat) : Int) := by omega
      refine ⟨vs, eL5, ?_, vs ++ [.ref r], fs ++ [(x, z.toNat)], by simp [q1], upd_same, ?_, ?_, ?_, ?_, s5.d.put_other (fun q => nL (by simp [q])) (fun q => nL (by simp [q])), ?_⟩
      · rw [q3.length, List.length_map]; exact small1000 (by omega)
      · rw [List.map_append]
        refine (TpL.tt (tA.trans tB) _ q3).snoc (Tp.tt tB _ (.tup er (.cons (.str x) (.cons ?_ .nil))))
        show Tp H5 (.int z) (.int ((z.toNat : Nat) : Int))
        rw [← ezn]; exact .int z
      · intro q hq
        rcases List.mem_append.mp hq with hq | hq
        · exact q4 q hq
        · rw [List.mem_singleton.mp hq]
          exact ⟨ox, by show z.toNat ≤ 3; omega⟩
      · rw [List.map_append]; exact q5.snoc nx
      · rw [upd_ne nLu]
        have e : us ++ (fs ++ [(x, z.toNat)]).map (·.1) = us ++ fs.map (·.1) ++ [x] := by rw [List.map_append, List.append_assoc]; rfl
        rw [e]; exact eu5
      · exact (((q8.trans K2).trans (x3.more fun _ h => nomatch h)).trans ((K4.three).trans (x5.more fun _ h => nomatch h))).mut hL
    · rintro H2 ⟨vs1, fs, q1, q2, q3, q4, q5, q6, D2, K2⟩
      have lfs : fs.length ≤ 5 := by omega
      have htg2 := K2 _ _ htg1 (drop1 nt nut.symm)
      have nLm := nL
      refine ⟨_, rfl, dk, lf, 4, rfl, D2, by decide, by decide, fun H3 i2 D3 K3 j0 j4 => ⟨_, _, rfl, rfl, 1 + i2, rfl, by omega, by omega, fun L2 hL2 => ?_⟩⟩
      have hL3 := K3 _ _ q2 nL
      have hu3 := K3 _ _ q6 nu
      have htg3 := K3 _ _ htg2 nt
      have p3 := TpL.tt (TT.deck K3 D2) _ q3
      have nM := D3.mem hL2
      have nMt : tg ≠ L2 := ne_of_none htg3 hL2
      have nMu : u ≠ L2 := ne_of_none hu3 hL2
      have nML : L ≠ L2 := ne_of_none hL3 hL2
      have nLt' : L ≠ tg := fun z => nLt z.symm
      have K03 : Kp [dk, lf, u] H H3 := (((K1.three (u := u)).trans K2).trans K3.three)
      refine lc_range (lo := 0) (n := (1 + i2).toNat) (fun j H' => ∃ (vs : List V) (ts : List (Str × Nat)), ts.length = j ∧ H' L2 = some (.lst vs) ∧ TpL H' vs (ts.map prD) ∧ (∀ p ∈ ts, tagOk p.1 = true ∧ p.2 ≤ 3) ∧ Fr tgs (ts.map (·.1)) ∧
        H' tg = some (.lst ((tgs ++ ts.map (·.1)).map V.str)) ∧ Dk H' dk lf ∧ Kp [dk, lf, tg] H3 H')
        ⟨[], [], rfl, upd_same, .nil, (fun _ h => nomatch h), Fr.nil tgs, by rw [upd_ne nMt, List.map_nil, List.append_nil]; exact htg3, D3.new hL2, Kp.new hL2⟩ ?_ ?_
      · rintro j H' hj ⟨vs, ts, r1, r2, r3, r4, r5, r6, r7, r8⟩
        refine ⟨rfl, yesI ?_⟩
        refine ⟨_, rfl, _, rfl, dk, lf, tg, _, rfl, r7, nt, r6, by rw [List.length_append, List.length_map]; omega, fun H4 x ox nx e4 D4 K4 => ?_⟩
        have t4 := TT.deck3 K4 r7 r6
        have eM4 := K4 _ _ r2 (drop2 nM nMt.symm)
        refine ⟨_, rfl, by show 6 ≤ sizeLine; decide, fun p hp => ?_⟩
        have s4 : Sn [dk, lf] H4 H4 dk lf := Sn.start D4
        generalize hG : upd H4 p _ = H5
        obtain ⟨ep, s5, x5⟩ := s4.stp hp hG
        clear hG
        have ep : H5 p = some (.tup (sizesL.map V.int)) := ep
        refine ⟨dk, lf, _, _, rfl, s5.d, .inl ⟨p, rfl, .inr (SqT.of ep), s5.d.tup ep⟩, by decide, by decide, fun H6 y hy D6 K6 => ⟨by show 2 ≤ sizeLine; decide, fun r hr => ?_⟩⟩
        obtain ⟨z, hz, rfl⟩ := List.mem_map.mp hy
        have hz2 := sizesL_ok z hz
        have s6 := s5.call D6 K6
        have t6 := TT.deck K6 s5.d
        generalize hG : upd H6 r _ = H7
        obtain ⟨er, s7, x7⟩ := s6.stp hr hG
        clear hG
        have eM7 := x7.at (K6 _ _ (x5.at eM4) nM)
        have et7 := x7.at (K6 _ _ (x5.at e4) nt)
        have tA : TT H' H7 := ((t4.trans (TT.ext x5)).trans t6).trans (TT.ext x7)
        have tB : TT H7 (upd H7 L2 (.lst (vs ++ [.ref r]))) := TT.put eM7
        have ezn : z = ((z.toNat : Nat) : Int) := by omega
        refine ⟨vs, eM7, ?_, vs ++ [.ref r], ts ++ [(x, z.toNat)], by simp [r1], upd_same, ?_, ?_, ?_, ?_, s7.d.put_other (fun q => nM (by simp [q])) (fun q => nM (by simp [q])), ?_⟩
        · rw [r3.length, List.length_map]; exact small1000 (by omega)
        · rw [List.map_append]
          refine (TpL.tt (tA.trans tB) _ r3).snoc (Tp.tt tB _ (.tup er (.cons (.str x) (.cons ?_ .nil))))
          show Tp H7 (.int z) (.int ((z.toNat : Nat) : Int))
          rw [← ezn]; exact .int z
        · intro q hq
          rcases List.mem_append.mp hq with hq | hq
          · exact r4 q hq
          · rw [List.mem_singleton.mp hq]
            exact ⟨ox, by show z.toNat ≤ 3; omega⟩
        · rw [List.map_append]; exact r5.snoc nx
        · rw [upd_ne nMt]
          have e : tgs ++ (ts ++ [(x, z.toNat)]).map (·.1) = tgs ++ ts.map (·.1) ++ [x] := by rw [List.map_append, List.append_assoc]; rfl
          rw [e]; exact et7
        · exact (((r8.trans K4).trans (x5.more fun _ h => nomatch h)).trans ((K6.three).trans (x7.more fun _ h => nomatch h))).mut hL2
      · rintro H4 ⟨vs2, ts, r1, r2, r3, r4, r5, r6, D4, K4⟩
        have lts : ts.length ≤ 4 := by omega
        have hL4 := K4 _ _ hL3 (drop2 nL nLt')
        have hu4 := K4 _ _ hu3 (drop2 nu nut)
        have p4 := TpL.tt (TT.deck3 K4 D3 htg3) _ p3
        refine ⟨_, rfl, _, rfl, _, rfl, dk, lf, 4, rfl, D4, by decide, by decide, fun H5 i3 D5 K5 m0 m4 => ⟨_, _, rfl, rfl, 3 + i3, rfl, by omega, by omega, fun N hN => ?_⟩⟩
        have hL5 := K5 _ _ hL4 nL
        have hM5 := K5 _ _ r2 nM
        have hu5 := K5 _ _ hu4 nu
        have ht5 := K5 _ _ r6 nt
        have T45 := TT.deck K5 D4
        have p5 := TpL.tt T45 _ p4
        have o5 := TpL.tt T45 _ r3
        have nN := D5.mem hN
        have nNt : tg ≠ N := ne_of_none ht5 hN
        have nNu : u ≠ N := ne_of_none hu5 hN
        have nNL : L ≠ N := ne_of_none hL5 hN
        have nNM : L2 ≠ N := ne_of_none hM5 hN
        refine lc_range (lo := 0) (n := (3 + i3).toNat) (fun j H' => ∃ (ls : List Str), ls.length = j ∧ H' N = some (.lst (ls.map V.str)) ∧ (∀ p ∈ ls, nameOk p = true) ∧ Fr us (fs.map (·.1) ++ ls) ∧
          H' u = some (.lst ((us ++ (fs.map (·.1) ++ ls)).map V.str)) ∧ Dk H' dk lf ∧ Kp [dk, lf, u] H5 H')
          ⟨[], rfl, upd_same, (fun _ h => nomatch h), by rw [List.append_nil]; exact q5, by rw [upd_ne nNu, List.append_nil]; exact hu5, D5.new hN, Kp.new hN⟩ ?_ ?_
        · rintro j H' hj ⟨ls, v1, v2, v3, v4, v5, v6, v7⟩
          refine ⟨rfl, yesI ?_⟩
          refine ⟨_, rfl, _, rfl, dk, lf, u, _, rfl, v6, nu, v5, by rw [List.length_append, List.length_append, List.length_map]; omega, fun H6 x ox nx e6 D6 K6 => ?_⟩
          have eN6 := K6 _ _ v2 (drop1 nN nNu.symm)
          refine ⟨_, eN6, by rw [List.length_map]; exact small1000 (by omega), ls ++ [x], by simp [v1], by rw [List.map_append]; exact upd_same, ?_, ?_, ?_, D6.put_other (fun q => nN (by simp [q])) (fun q => nN (by simp [q])), (v7.trans K6).mut hN⟩
          · intro q hq
            rcases List.mem_append.mp hq with hq | hq
            · exact v3 q hq
            · rw [List.mem_singleton.mp hq]; exact ox
          · rw [← List.append_assoc]; exact v4.snoc nx
          · rw [upd_ne nNu]
            have e : us ++ (fs.map (·.1) ++ (ls ++ [x])) = us ++ (fs.map (·.1) ++ ls) ++ [x] := by simp only [List.append_assoc]
            rw [e]; exact e6
        · rintro H6 ⟨ls, v1, v2, v3, v4, v5, D6, K6⟩
          have hL6 := K6 _ _ hL5 (drop1 nL nLu.symm)
          have hM6 := K6 _ _ hM5 (drop1 nM nMu.symm)
          have ht6 := K6 _ _ ht5 (drop1 nt nut.symm)
          have T56 := TT.deck3 K6 D5 hu5
          refine ⟨by show 3 ≤ sizeLine; decide, fun p hp => ?_⟩
          have s6 : Sn [dk, lf] H6 H6 dk lf := Sn.start D6
          generalize hG : upd H6 p _ = H7
          obtain ⟨ep, s7, x7⟩ := s6.stp hp hG
          clear hG
          have w1 : ∀ b ∈ [dk, lf, u], b ∈ [dk, lf, u, tg] := fun b hb => by simp at hb ⊢; rcases hb with z | z | z <;> simp [z]
          have w2 : ∀ b ∈ [dk, lf, tg], b ∈ [dk, lf, u, tg] := fun b hb => by simp at hb ⊢; rcases hb with z | z | z <;> simp [z]
          have w3 : ∀ b ∈ [dk, lf], b ∈ [dk, lf, u, tg] := fun b hb => w1 b (by simp at hb ⊢; rcases hb with z | z <;> simp [z])
          have TT67 := T56.trans (TT.ext x7)
          have nfs : fs ≠ [] := fun z => by rw [z] at q1; simp at q1; omega
          have nts : ts ≠ [] := fun z => by rw [z] at r1; simp at r1; omega
          have nd2 := v4.nd
          rw [List.nodup_append] at nd2
          refine k H7 p L L2 N vs1 vs2 ⟨fs, ts, ls⟩ ⟨nfs, by show fs.length ≤ 50; omega, fun p hp => (q4 p hp).2, nts, by show ts.length ≤ 50; omega, fun p hp => (r4 p hp).2, by show 3 ≤ ls.length; omega, by show ls.length ≤ 50; omega, v3, nd2.2.1, fun p hp => (q4 p hp).1, fun p hp => (r4 p hp).1, r5.nd⟩
            ⟨ep, x7.at hL6, nL, TpL.tt TT67 _ p5, x7.at hM6, nM, TpL.tt TT67 _ o5, x7.at v2, nN⟩ v4 r5 (x7.at v5) (x7.at ht6) lfs lts (by show ls.length ≤ 6; omega) s7.d ?_
          exact (((((((K1.more w3).trans (K2.more w1)).trans (K3.more w3)).trans (K4.more w2)).trans (K5.more w3)).trans (K6.more w1)).trans (x7.more fun _ h => nomatch h))
end
end Dh

/-! DhP -/
set_option Elab.async false
set_option linter.all false
set_option maxRecDepth 100000
set_option maxHeartbeats 4000000
namespace Dh
open PySem PySem.Spec PyProof.Rows L2

/-- a definition of a drawn program -/
def RowOk (S : Sg) (r : Str × List Str × PyData) : Prop :=
  (r.1, r.2.1.length) ∈ S.fs ∧ r.2.1.Nodup ∧ (∀ x ∈ r.2.1, x ∈ S.loc) ∧ ∃ n, n ≤ 6 ∧ GE S n r.2.1 r.2.2
def spProg : Sp := fun vs H Q _ => ∃ (dk lf u tg : Addr) (us tgs : List Str) (fuel : Int), vs = [.ref dk, .ref u, .ref tg, .int fuel] ∧ Dk H dk lf ∧ u ∉ [dk, lf] ∧ tg ∉ [dk, lf] ∧ u ≠ tg ∧ H u = some (.lst (us.map V.str)) ∧ H tg = some (.lst (tgs.map V.str)) ∧ us.length ≤ 30 ∧ tgs.length ≤ 30 ∧ fuel.natAbs < 2 ^ 30 ∧
  ∀ (H' : Hp) (v : V) (S : Sg) (rows : List (Str × List Str × PyData)), Tp H' v (.tuple (rows.map brD)) → SgOk S → rows.map (·.1) = S.fs.map (·.1) → (∀ r ∈ rows, RowOk S r) → Fr us (S.fs.map (·.1) ++ S.loc) → Fr tgs (S.ts.map (·.1)) →
    H' u = some (.lst ((us ++ (S.fs.map (·.1) ++ S.loc)).map V.str)) → H' tg = some (.lst ((tgs ++ S.ts.map (·.1)).map V.str)) → S.fs.length ≤ 5 → S.ts.length ≤ 4 → S.loc.length ≤ 6 → Dk H' dk lf → Kp [dk, lf, u, tg] H H' → Q v H'
/-- where the body stands -/
structure Pn (H0 H : Hp) (dk lf sg a1 a2 a3 : Addr) (x1 x2 : List V) (S : Sg) : Prop where
  s : Sn [dk, lf] H0 H dk lf
  g0 : SgAt H0 dk lf sg a1 a2 a3 x1 x2 S
  g : SgAt H dk lf sg a1 a2 a3 x1 x2 S
section
variable {H0 H H' : Hp} {dk lf sg a1 a2 a3 sa p D : Addr} {x1 x2 : List V} {S : Sg} {sc : List Str} {o : HO} {ys : List V}
theorem Pn.new (b : Pn H0 H dk lf sg a1 a2 a3 x1 x2 S) (hp : H p = none) (e : upd H p o = H') : H' p = some o ∧ Pn H0 H' dk lf sg a1 a2 a3 x1 x2 S ∧ Kp [] H H' := by
  obtain ⟨h1, h2, h3⟩ := b.s.stp hp e
  exact ⟨h1, ⟨h2, b.g0, b.g.ext h3⟩, h3⟩
theorem Pn.call (b : Pn H0 H dk lf sg a1 a2 a3 x1 x2 S) (D' : Dk H' dk lf) (k : Kp [dk, lf] H H') : Pn H0 H' dk lf sg a1 a2 a3 x1 x2 S :=
  ⟨b.s.call D' k, b.g0, b.g.kp k b.s.d⟩
theorem Pn.tt (b : Pn H0 H dk lf sg a1 a2 a3 x1 x2 S) (k : Kp [dk, lf] H H') : TT H H' := TT.deck k b.s.d
theorem Pn.put (b : Pn H0 H dk lf sg a1 a2 a3 x1 x2 S) (h0 : H0 D = none) (n : D ∉ [dk, lf]) (h : H D = some (.lst ys)) : Pn H0 (upd H D o) dk lf sg a1 a2 a3 x1 x2 S :=
  ⟨b.s.mut h0 n, b.g0, b.g.put h (ne_of_none b.g0.l1 h0) (ne_of_none b.g0.l2 h0) (ne_of_none b.g0.l3 h0)⟩
theorem Pn.free (b : Pn H0 H dk lf sg a1 a2 a3 x1 x2 S) (hp : H p = none) : H0 p = none ∧ p ∉ [dk, lf] := ⟨b.s.k.free b.s.d hp, b.s.d.mem hp⟩
end
def deepL : List Int := [4, 3, 5, 2, 6]
theorem deepL_ok : ∀ i ∈ deepL, 0 ≤ i ∧ i ≤ 6 := by decide
section
variable {P : Program} {w : World} {K : PySem.W.Frag} {mg : Str → Option Value} {base : Heap}
abbrev namesP : List Str := ["deck", "used", "tagged", "fuel", "signs", "found", "f", "many", "names"]
theorem scProg : FnScope namesP ["deck", "used", "tagged", "fuel"] (defScope sProg) := ⟨rfl, rfl, rfl, by decide +kernel, rfl, by decide +kernel, by decide +kernel⟩
theorem okProg {f g g2 g3 g4 : Addr} {fd gd gd2 gd3 gd4 : FuncData} (F : Fun K "_law_program" "_law_program" sProg f fd) (T : Blt mg) (Dsigns : Df P w K mg base "_law_signs" 4 g gd ["deck", "used", "tagged"] spSigns)
    (Dpick : Df P w K mg base "_law_pick" 2 g2 gd2 ["deck", "some"] (spPick K)) (Dshuf : Df P w K mg base "_law_shuffled" 2 g3 gd3 ["deck", "some"] (spShuf K)) (De : Df P w K mg base "_law_expression" 11 g4 gd4 ["deck", "signs", "scope", "deep"] (spLt 7)) :
    FnOk P w K mg base CX0 12 f fd ["deck", "used", "tagged", "fuel"] spProg := by
  refine F.ok scProg (fun vs H Q E h => ?_) (fun cdv A outer s H vs Q E hr h => ?_)
  · obtain ⟨_, _, _, _, _, _, _, rfl, _⟩ := h
    rfl
  · obtain ⟨dk, lf, u, tg, us, tgs, fuel, rfl, D, nu, nt, nut, hus, htg, lus, ltg, hfu, k⟩ := h
    have hu := hu_of hr
    refine ⟨_, (pss_cons (ps_par (i := 4) (j := 5) rfl scProg.nd rfl rfl (by decide) rfl rfl (pa_cons (pe_call Dsigns.ok (hr.mono (by decide)) (by rfl) Dsigns.m Dsigns.k Dsigns.b .nil pass0 (pa_cons (pv 0) (pa_cons (pv 1) (pa_cons (pv 2) pa_nil)))) (pa_cons (pe_lst pa_nil) pa_nil)) (by rfl)) 
    (pss_cons (ps_for PassesOwn.never rfl (pi_list (pe_ix ix_tup (pv 4) pe_int (fun _ _ => rfl))) (pg_tup (by rfl) (pgs_cons (pg_name (i := 6) scProg.nd rfl (Or.inl rfl)) (pgs_cons (pg_name (i := 7) scProg.nd rfl (Or.inl rfl)) pgs_nil)))
      (pss_cons (ps_set (i := 8) scProg.nd rfl (Or.inl rfl) (pe_callTy call_tuple_of (by rfl) T.tuple (by decide +kernel) (pa_cons (pe_slice sl_list (pe_call Dshuf.ok (hr.mono (by decide)) (by rfl) Dshuf.m Dshuf.k Dshuf.b .nil pass0 (pa_cons (pv 0) (pa_cons (pe_ix ix_tup (pv 4) pe_int (fun _ _ => rfl)) pa_nil))) po_none (po_some (pv 7))) pa_nil))) 
      (pss_cons (ps_dput hu (pv 0) pe_str (pe_op op_fdivW (pv 3) (pe_callB call_len (by rfl) T.len (by decide +kernel) (pa_cons (pe_ix ix_tup (pv 4) pe_int (fun _ _ => rfl)) pa_nil))) rfl) 
      (pss_one (ps_expr (pe_bm PySem.F.plainAttrs_list PySem.F.slot_list_append PySem.F.type_list_append mt_append (pv 5) (pa_cons (pe_tup (pa_cons (pv 6) (pa_cons (pv 8) (pa_cons (pe_call De.ok (hr.mono (by decide)) (by rfl) De.m De.k De.b .nil pass0 (pa_cons (pv 0) (pa_cons (pv 4) (pa_cons (pv 8) (pa_cons (pe_call Dpick.ok (hr.mono (by decide)) (by rfl) Dpick.m Dpick.k Dpick.b .nil pass0 (pa_cons (pv 0) (pa_cons (pe_tup (pa_cons pe_int (pa_cons pe_int (pa_cons pe_int (pa_cons pe_int (pa_cons pe_int pa_nil)))))) pa_nil))) pa_nil))))) pa_nil)))) pa_nil))))))) 
    (pss_one (ps_ret (pe_callTy call_tuple_of (by rfl) T.tuple (by decide +kernel) (pa_cons (pv 5) pa_nil)))))), ?_⟩
    refine ⟨_, rfl, _, rfl, _, rfl, dk, lf, u, tg, us, tgs, rfl, D, nu, nt, nut, hus, htg, lus, ltg, fun H1 sg a1 a2 a3 x1 x2 S ok G fu ft eu et lf5 lt4 ll6 D1 K1 => ⟨by decide, fun L hL => ⟨_, _, rfl, ?_⟩⟩⟩
    have b0 : Pn H1 H1 dk lf sg a1 a2 a3 x1 x2 S := ⟨Sn.start D1, G, G⟩
    have hL0 := hL
    have nL := D1.mem hL
    generalize hG : upd H1 L _ = H2
    obtain ⟨eL, b2, y2⟩ := b0.new hL hG
    clear hG
    have get : ∀ {H1 : Hp} {es : List (Key × V)} {kk : Key} {v : V}, H1 dk = some (.dK es) → valV es kk = some v → DGet H1 dk (kV kk) (some v) := fun {H1 es kk v} a b => b ▸ DGet.k a
    -- for f, many in signs[0]
    refine ⟨_, rfl, sg, _, 0, .ref a1, rfl, rfl, SqT.of b2.g.t, atI_nat rfl, a1, rfl, ?_⟩
    refine ⟨⟨_, SqL.of b2.g.l1⟩, for_list (K := K) (a := a1) (xs := x1) (fun j σ H' => ∃ (vs : List V) (rows : List (Str × List Str × PyData)) (c6 c7 c8 : Option V),
        σ = [some (.ref dk), some (.ref u), some (.ref tg), some (.int fuel), some (.ref sg), some (.ref L), c6, c7, c8] ∧
        H' L = some (.lst vs) ∧ TpL H' vs (rows.map brD) ∧ rows.length = j ∧ rows.map (·.1) = (S.fs.take j).map (·.1) ∧ (∀ r ∈ rows, RowOk S r) ∧ Pn H1 H' dk lf sg a1 a2 a3 x1 x2 S)
        ⟨[], [], none, none, none, rfl, eL, .nil, rfl, rfl, (fun _ h => nomatch h), b2⟩ ?_ ?_ ?_⟩
    · rintro j σ H' _ ⟨vs, rows, c6, c7, c8, _, _, _, _, _, _, b⟩
      exact SqL.of b.g.l1
    · rintro j y σ H' hj ⟨vs, rows, c6, c7, c8, rfl, q1, q2, q3, q4, q5, b⟩
      obtain ⟨d, hd, tpy⟩ := b.g.p1.get hj
      rw [List.getElem?_map] at hd
      obtain ⟨q, hq, rfl⟩ := Option.map_eq_some_iff.mp hd
      have hqs : q ∈ S.fs := List.mem_of_getElem? hq
      have q23 := ok.f3 q hqs
      obtain ⟨t0, rfl, e0⟩ := pair_open tpy
      refine ⟨t0, _, rfl, SqT.of e0, rfl, _, _, rfl, _, _, rfl, rfl, ?_⟩
      -- names = tuple(shuffled(signs[2])[:many])
      refine ⟨_, rfl, _, rfl, sg, _, 2, .ref a3, rfl, rfl, SqT.of b.g.t, atI_nat rfl, dk, lf, a3, _, rfl, b.s.d, .inl (SqL.of b.g.l3), b.g.n3, by rw [List.length_map]; have := ok.l2; omega, fun H9 l2 us2 pm2 f2 n2 e2 D9 K9 => ?_⟩
      obtain ⟨ns, pn, rfl⟩ := perm_strs pm2 rfl
      have b9 := b.call D9 K9
      have t9 := b.tt K9
      refine ⟨_, rfl, _, rfl, l2, _, rfl, SqL.of e2, fun p2 hp2 => ?_⟩
      rw [cut_to, ← List.map_take]
      generalize hG : upd H9 p2 _ = Ha
      obtain ⟨ep2, ba, xa⟩ := b9.new hp2 hG
      clear hG
      refine ⟨p2, _, rfl, .inl ⟨SqL.of ep2, fun t3 ht3 => ?_⟩⟩
      generalize hG : upd Ha t3 _ = Hb
      obtain ⟨et3, bb, xb⟩ := ba.new ht3 hG
      clear hG
      have nlen : (ns.take q.2).length = q.2 := by
        rw [List.length_take]
        have h1 : ns.length = S.loc.length := pn.length_eq
        have := ok.l1
        omega
      have nnd : (ns.take q.2).Nodup := (pn.nodup_iff.mpr ok.l4).sublist (List.take_sublist _ _)
      have nin : ∀ x ∈ ns.take q.2, x ∈ S.loc := fun x hx => pn.mem_iff.mp (List.mem_of_mem_take hx)
      generalize ns.take q.2 = names at et3 nlen nnd nin
      have tb : TT H' Hb := (t9.trans (TT.ext xa)).trans (TT.ext xb)
      have eLb : Hb L = some (.lst vs) := xb.at (xa.at (K9 _ _ q1 nL))
      -- deck["fuel"] = fuel // len(signs[0])
      obtain ⟨kvs, d1, d2, d3, d4, d5, ⟨fu, d6⟩⟩ := id bb.s.d.d
      have xl : x1.length = S.fs.length := by rw [bb.g.p1.length, List.length_map]
      have xpos : 0 < x1.length := by rw [xl]; exact List.length_pos_iff.mpr ok.f1
      refine ⟨_, rfl, _, rfl, sg, _, 0, .ref a1, rfl, rfl, SqT.of bb.g.t, atI_nat rfl, _, x1.length, rfl, .inl ⟨_, SqL.of bb.g.l1, rfl⟩, ?_⟩
      have f50 := ok.f2
      refine ⟨_, _, rfl, rfl, ⟨by omega, ?_⟩, _, rfl, dk, _, rfl, DPut.k (k := kFuel) d1 (small1000 (by omega)), ?_⟩
      · show Nat.log2 x1.length < 9000
        rw [Nat.log2_lt (by omega)]
        exact Nat.lt_of_lt_of_le (m := 2 ^ 6) (by omega) (Nat.pow_le_pow_right (by decide) (by decide))
      have bc := bb.call (bb.s.d.put (k := kFuel) (i := fuel / ((x1.length : Nat) : Int)) d1 (.inr (.inl rfl))) (Kp.put (by simp))
      have kc : Kp [dk, lf] Hb (upd Hb dk (HO.dK (putK kvs kFuel (V.int (fuel / ((x1.length : Nat) : Int)))))) := Kp.put (by simp)
      have tc := bb.tt kc
      generalize upd Hb dk (HO.dK (putK kvs kFuel (V.int (fuel / ((x1.length : Nat) : Int))))) = Hc at bc kc tc
      clear d1 d2 d3 d4 d5 d6 kvs
      have eLc := kc _ _ eLb nL
      have etc := tc _ _ et3
      -- found.append((f, names, ..))
      refine ⟨_, rfl, Or.inl ⟨rfl, _, SqL.of eLc⟩, _, rfl, _, rfl, _, rfl, _, rfl, _, rfl, _, rfl, by show 5 ≤ sizeLine; decide, fun p hp => ?_⟩
      generalize hG : upd Hc p _ = Hd
      obtain ⟨ep, bd, xd⟩ := bc.new hp hG
      clear hG
      have ep : Hd p = some (.tup (deepL.map V.int)) := ep
      refine ⟨dk, lf, _, _, rfl, bd.s.d, .inl ⟨p, rfl, .inr (SqT.of ep), bd.s.d.tup ep⟩, by decide, by decide, fun He z hz De Ke => ?_⟩
      obtain ⟨m, hm, rfl⟩ := List.mem_map.mp hz
      have hm2 := deepL_ok m hm
      obtain ⟨n, rfl⟩ : ∃ n : Nat, m = (n : Int) := ⟨m.toNat, by omega⟩
      have be := bd.call De Ke
      have te := bd.tt Ke
      have eLe := Ke _ _ (xd.at eLc) nL
      have ete := te _ _ (xd.at etc)
      refine ⟨n, by omega, dk, lf, sg, t3, a1, a2, a3, x1, x2, S, names, rfl, be.s.d, ok, be.g, ete, fun x hx => nameOk_low (ok.l3 x (nin x hx)), by omega, fun Hf v d g tp Df Kf => ⟨by show 3 ≤ sizeLine; decide, fun r hr => ?_⟩⟩
      have bf := be.call Df Kf
      have tf := be.tt Kf
      have eLf := Kf _ _ eLe nL
      have etf := tf _ _ ete
      generalize hG : upd Hf r _ = Hg
      obtain ⟨er, bg, xg⟩ := bf.new hr hG
      clear hG
      have eLg := xg.at eLf
      have tE : TT H' Hg := (((((tb.trans tc).trans (TT.ext xd)).trans te).trans tf)).trans (TT.ext xg)
      have vl : vs.length = j := by rw [q2.length, List.length_map]; exact q3
      have jb : j < S.fs.length := (List.getElem?_eq_some_iff.mp hq).1
      refine ⟨L, vs, _, rfl, rfl, eLg, small1000 (by omega), ?_⟩
      have tF : TT Hg (upd Hg L (.lst (vs ++ [.ref r]))) := TT.put eLg
      refine ⟨vs ++ [.ref r], rows ++ [(q.1, names, d)], _, _, _, rfl, upd_same, ?_, by simp [q3], ?_, ?_, bg.put hL0 nL eLg⟩
      · rw [List.map_append]
        refine (TpL.tt (tE.trans tF) _ q2).snoc (Tp.tt tF _ ?_)
        exact .tup er (.cons (.str _) (.cons (.tup (xg.at etf) (TpL.strs names)) (.cons (Tp.tt (TT.ext xg) _ tp) .nil)))
      · rw [List.map_append, q4, List.take_add_one, hq]
        simp
      · intro b hb
        rcases List.mem_append.mp hb with hb | hb
        · exact q5 b hb
        · rw [List.mem_singleton.mp hb]
          exact ⟨by show (q.1, names.length) ∈ S.fs; rw [nlen]; exact hqs, nnd, nin, n, by omega, g⟩
    · rintro σ H' ⟨vs, rows, c6, c7, c8, rfl, q1, q2, q3, q4, q5, b⟩
      refine ⟨_, rfl, L, vs, rfl, .inl ⟨SqL.of q1, fun t2 ht2 => ?_⟩⟩
      generalize hG : upd H' t2 _ = Hg
      obtain ⟨e5, b9, x9⟩ := b.new ht2 hG
      clear hG
      have nuL := b9.s.k _ _ eu nu
      have ntL := b9.s.k _ _ et nt
      have xl : x1.length = S.fs.length := by rw [b.g.p1.length, List.length_map]
      rw [xl, List.take_length] at q4
      refine k Hg (.ref t2) S rows (.tup e5 (TpL.tt (TT.ext x9) _ q2)) ok q4 q5 fu ft nuL ntL lf5 lt4 ll6 b9.s.d (K1.trans (b9.s.k.more ?_))
      intro b hb
      simp at hb ⊢
      rcases hb with z | z <;> simp [z]
end
end Dh

/-! DhQ -/
set_option Elab.async false
set_option linter.all false
set_option maxRecDepth 100000
set_option maxHeartbeats 4000000
namespace Dh
open PySem PySem.Spec PyProof.Rows L2

/-! ### texts of data are plain -/
theorem low_app {x y : Str} (a : low x) (b : low y) : low (x ++ y) := fun c hc => by
  rw [Str.cps_append, Array.toList_append] at hc
  rcases List.mem_append.mp hc with h | h
  · exact a c h
  · exact b c h
theorem low_join {sep : Str} (hs : low sep) : ∀ {ts : List Str}, (∀ t ∈ ts, low t) → low (Str.join sep ts) := by
  intro ts h
  have e : TL.tl (Str.join sep ts) = TL.joinL (TL.tl sep) (ts.map TL.tl) := TL.tl_join _ _
  have go : ∀ {ts : List Str}, (∀ t ∈ ts, low t) → ∀ c ∈ TL.joinL (TL.tl sep) (ts.map TL.tl), c < 128 := by
    intro ts
    induction ts with
    | nil => intro _ c hc; cases hc
    | cons t r ih =>
      intro h c hc
      cases r with
      | nil => exact h t List.mem_cons_self c hc
      | cons t2 r2 =>
        have hc : c ∈ TL.tl t ++ (TL.tl sep ++ TL.joinL (TL.tl sep) ((t2 :: r2).map TL.tl)) := hc
        rcases List.mem_append.mp hc with h1 | h1
        · exact h t List.mem_cons_self c h1
        · rcases List.mem_append.mp h1 with h2 | h2
          · exact hs c h2
          · exact ih (fun t ht => h t (List.mem_cons_of_mem _ ht)) c h2
  intro c hc
  have hc : c ∈ TL.tl (Str.join sep ts) := hc
  rw [e] at hc
  exact go h c hc
theorem low_tuple {ts : List Str} (h : ∀ t ∈ ts, low t) : low (tupleText ts) := by
  unfold tupleText
  refine low_app (low_app (low_of (by decide +kernel)) (low_join (low_of (by decide +kernel)) h)) ?_
  split
  · exact low_of (by decide +kernel)
  · exact low_of (by decide +kernel)
theorem low_dict {ts : List Str} (h : ∀ t ∈ ts, low t) : low (dictText ts) := by
  unfold dictText
  exact low_app (low_app (low_of (by decide +kernel)) (low_join (low_of (by decide +kernel)) h)) (low_of (by decide +kernel))
theorem low_from : ∀ (ts : List Str) (k : Nat) (acc : Str), low acc → (∀ t ∈ ts, low t) → low (textFrom k acc ts)
  | [], _, _, a, _ => a
  | t :: r, k, acc, a, h => by
    refine low_from r (k + 1) (acc ++ (if k > 0 then ", " else "" : String) ++ t) (low_app (low_app a ?_) (h t List.mem_cons_self)) fun s hs => h s (List.mem_cons_of_mem _ hs)
    split
    · exact low_of (by decide +kernel)
    · exact low_of (by decide +kernel)
theorem low_list {ts : List Str} (h : ∀ t ∈ ts, low t) : low (listText ts) := low_app (low_from ts 0 _ (low_of (by decide +kernel)) h) (low_of (by decide +kernel))
theorem chars_low : ∀ q ∈ [34, 39], ∀ c, c < 128 → (Builtin.Str.reprChar q c).all (fun d => decide (d < 128)) = true := by
  have e : ([34, 39].all fun q => (List.range 128).all fun c => (Builtin.Str.reprChar q c).all (fun d => decide (d < 128))) = true := by decide +kernel
  intro q hq c hc
  have e1 := List.all_eq_true.mp e q hq
  exact List.all_eq_true.mp e1 c (List.mem_range.mpr hc)
theorem quote_in (x : Str) : reprQuote x ∈ [34, 39] := by
  unfold reprQuote
  split <;> decide
theorem fold_low {q : Nat} (hq : q ∈ [34, 39]) : ∀ (l : List Nat) (acc : Array Nat), (∀ c ∈ acc.toList, c < 128) → (∀ c ∈ l, c < 128) → ∀ c ∈ (l.foldl (fun out c => out ++ (Builtin.Str.reprChar q c).toArray) acc).toList, c < 128
  | [], acc, a, _ => a
  | d :: r, acc, a, h => by
    refine fold_low hq r _ (fun c hc => ?_) fun c hc => h c (List.mem_cons_of_mem _ hc)
    rw [Array.toList_append] at hc
    rcases List.mem_append.mp hc with h1 | h1
    · exact a c h1
    · exact of_decide_eq_true (List.all_eq_true.mp (chars_low q hq d (h d List.mem_cons_self)) c h1)
theorem low_repr {x : Str} (h : low x) : low (reprText x) := fun c hc => by
  have hc : c ∈ ((x.cps.foldl (fun out c => out ++ (Builtin.Str.reprChar (reprQuote x) c).toArray) #[reprQuote x]).push (reprQuote x)).toList := hc
  rw [Array.toList_push, ← Array.foldl_toList] at hc
  have q := quote_in x
  have ql : reprQuote x < 128 := by
    rcases List.mem_cons.mp q with e | e
    · rw [e]; decide
    · rw [List.mem_singleton.mp e]; decide
  rcases List.mem_append.mp hc with h1 | h1
  · exact fold_low q _ _ (fun c hc => by rw [List.mem_singleton.mp hc]; exact ql) h c h1
  · rw [List.mem_singleton.mp h1]; exact ql
theorem low_int (i : Int) : low (Str.ofString (toString i)) := fun c hc => by
  rcases Nat.lt_or_ge c 128 with h | h
  · exact h
  · exact absurd hc (int_text_free' c (by constructor <;> omega) i)
end Dh

/-! DhR -/
set_option Elab.async false
set_option linter.all false
set_option maxRecDepth 100000
set_option maxHeartbeats 4000000
namespace Dh
open PySem PySem.Spec PyProof.Rows L2

/-! ### how long the text of a drawn program is -/
/-- shown in at most so many signs, nested at most so deep -/
structure Ls (b k : Nat) (e : PyData) : Prop where
  s : e.showable = true
  l : e.shown.length ≤ b
  d : e.depth ≤ k
  o : low e.shown
structure LsA (b k : Nat) (ds : List PyData) : Prop where
  s : PyData.showableAll ds = true
  l : ((PyData.shownAll ds).map (·.length)).sum ≤ b
  d : PyData.depthAll ds ≤ k
  o : ∀ t ∈ PyData.shownAll ds, low t
theorem Ls.more {b b' k k' : Nat} {d : PyData} (h : Ls b k d) (e : b ≤ b') (e2 : k ≤ k') : Ls b' k' d := ⟨h.s, Nat.le_trans h.l e, Nat.le_trans h.d e2, h.o⟩
theorem LsA.nil {k : Nat} : LsA 0 k [] := ⟨rfl, Nat.le_refl _, Nat.zero_le _, fun _ h => nomatch h⟩
theorem LsA.cons {a b k : Nat} {d : PyData} {ds : List PyData} (h : Ls a k d) (r : LsA b k ds) : LsA (a + b) k (d :: ds) := by
  refine ⟨?_, ?_, ?_, ?_⟩
  · simp only [PyData.showableAll, h.s, r.s, Bool.and_self]
  · simp only [PyData.shownAll, List.map_cons, List.sum_cons]
    have := h.l; have := r.l; omega
  · simp only [PyData.depthAll]
    have := h.d; have := r.d; omega
  · intro t ht
    simp only [PyData.shownAll] at ht
    rcases List.mem_cons.mp ht with rfl | ht
    · exact h.o
    · exact r.o t ht
theorem LsA.all {b k : Nat} : ∀ {ds : List PyData}, (∀ d ∈ ds, Ls b k d) → LsA (ds.length * b) k ds
  | [], _ => by simpa using LsA.nil
  | d :: ds, h => by
    have := LsA.cons (h d List.mem_cons_self) (LsA.all fun e he => h e (List.mem_cons_of_mem _ he))
    rw [show (d :: ds).length * b = b + ds.length * b by rw [List.length_cons, Nat.add_mul, Nat.one_mul, Nat.add_comm]]
    exact this
theorem shownAll_len : ∀ ds : List PyData, (PyData.shownAll ds).length = ds.length
  | [] => rfl
  | _ :: r => by simp only [PyData.shownAll, List.length_cons, shownAll_len r]
theorem LsA.tup {b k : Nat} {ds : List PyData} (h : LsA b k ds) : Ls (b + 2 * ds.length + 3) (k + 1) (.tuple ds) := by
  have e : (PyData.tuple ds).shown = tupleText (PyData.shownAll ds) := by simp only [PyData.shown]
  refine ⟨by simp only [PyData.showable]; exact h.s, ?_, by simp only [PyData.depth]; have := h.d; omega, by rw [e]; exact low_tuple h.o⟩
  rw [e]
  have := tupleText_len_le (PyData.shownAll ds)
  rw [shownAll_len] at this
  have := h.l
  omega
theorem LsA.lst {b k : Nat} {ds : List PyData} (h : LsA b k ds) : Ls (b + 2 * ds.length + 3) (k + 1) (.list ds) := by
  have e : (PyData.list ds).shown = listText (PyData.shownAll ds) := by simp only [PyData.shown]
  refine ⟨by simp only [PyData.showable]; exact h.s, ?_, by simp only [PyData.depth]; have := h.d; omega, by rw [e]; exact low_list h.o⟩
  rw [e]
  have := listText_len_le (PyData.shownAll ds)
  rw [shownAll_len] at this
  have := h.l
  omega
theorem Ls.str {n : Nat} {x : Str} (h : low x) (hl : x.length ≤ n) : Ls (10 * n + 2) 0 (.str x) := by
  have e : (PyData.str x).shown = reprText x := by simp only [PyData.shown]
  refine ⟨by simp only [PyData.showable], ?_, by simp only [PyData.depth]; omega, by rw [e]; exact low_repr h⟩
  rw [e]
  have := StrLaws.reprText_len x (fun c hc => Nat.lt_trans (h c hc) (by decide))
  omega
theorem Ls.int {i : Int} {n : Nat} (hn : 0 < n) (h : i.natAbs < 10 ^ n) (h2 : i.natAbs.log2 < 1920) : Ls (n + 1) 0 (.int i) := by
  have e : (PyData.int i).shown = Str.ofString (toString i) := by simp only [PyData.shown]
  refine ⟨by simp only [PyData.showable]; exact decide_eq_true h2, ?_, by simp only [PyData.depth]; omega, by rw [e]; exact low_int i⟩
  rw [e]
  have := int_text_length_le10 (a := i) hn h
  rw [show (Str.ofString (toString i)).length = (toString i).length from PySem.ofString_length _]
  exact this
theorem Ls.non : Ls 4 0 .none := ⟨rfl, by decide +kernel, by decide +kernel, low_of (by decide +kernel)⟩
theorem Ls.bl (b : Bool) : Ls 5 0 (.bool b) := by
  cases b
  · exact ⟨rfl, by decide +kernel, by decide +kernel, low_of (by decide +kernel)⟩
  · exact ⟨rfl, by decide +kernel, by decide +kernel, low_of (by decide +kernel)⟩
theorem Ls.dict1 {a b k : Nat} {c d : PyData} (hc : Ls a k c) (hd : Ls b k d) : Ls (a + b + 7) (k + 1) (.dict [(c, d)]) := by
  have e : (PyData.dict [(c, d)]).shown = dictText [c.shown ++ ": " ++ d.shown] := by simp only [PyData.shown, PyData.shownKv]
  have e2 : (c.shown ++ (": " : Str) ++ d.shown).length = c.shown.length + 2 + d.shown.length := by rw [strLen_append, strLen_append]; rfl
  refine ⟨by simp only [PyData.showable, PyData.showableKv, hc.s, hd.s, Bool.and_self], ?_, by simp only [PyData.depth, PyData.depthKv]; have := hc.d; have := hd.d; omega, ?_⟩
  · rw [e]
    have := dictText_len_le [c.shown ++ ": " ++ d.shown]
    simp only [List.map_cons, List.map_nil, List.sum_cons, List.sum_nil, List.length_cons, List.length_nil] at this
    have := hc.l; have := hd.l; omega
  · rw [e]
    exact low_dict fun t ht => by
      rw [List.mem_singleton.mp ht]
      exact low_app (low_app hc.o (low_of (by decide +kernel))) hd.o
theorem Ls.dict0 : Ls 2 1 (.dict []) := ⟨rfl, by decide +kernel, by decide +kernel, low_of (by decide +kernel)⟩
def gsz : Nat → Nat
  | 0 => 171
  | n + 1 => 4 * gsz n + 1600
theorem gsz_ge : ∀ n, 171 ≤ gsz n
  | 0 => Nat.le_refl _
  | n + 1 => by have := gsz_ge n; simp only [gsz]; omega
theorem gsz_mono : ∀ {m n : Nat}, m ≤ n → gsz m ≤ gsz n
  | m, 0, h => by rw [Nat.le_zero.mp h]; exact Nat.le_refl _
  | m, n + 1, h => by
    rcases Nat.lt_or_ge m (n + 1) with h1 | h1
    · have := gsz_mono (m := m) (n := n) (by omega)
      simp only [gsz]; omega
    · rw [show m = n + 1 by omega]; exact Nat.le_refl _
theorem Ls.name {k : Nat} {x : Str} (h : nameOk x = true) : Ls 122 k (.str x) := (Ls.str (n := 12) (nameOk_low h) (word_len (nameOk_word h)).2).more (Nat.le_refl _) (Nat.zero_le _)
theorem Ls.tag {k : Nat} {x : Str} (h : tagOk x = true) : Ls 122 k (.str x) := (Ls.str (n := 12) (tagOk_low h) (word_len h).2).more (Nat.le_refl _) (Nat.zero_le _)
theorem Ls.word {x : Str} {n k : Nat} (h : (x.cps.toList.all (fun c => decide (c < 128)) && decide (x.length ≤ n)) = true) : Ls (10 * n + 2) k (.str x) := by
  rw [Bool.and_eq_true] at h
  exact (Ls.str (low_of h.1) (of_decide_eq_true h.2)).more (Nat.le_refl _) (Nat.zero_le _)
theorem Ls.names {ns : List Str} (h : ∀ x ∈ ns, nameOk x = true) (hl : ns.length ≤ 3) : Ls 375 1 (.tuple (ns.map PyData.str)) := by
  have a : LsA (ns.length * 122) 0 (ns.map PyData.str) := by
    have := LsA.all (b := 122) (k := 0) (ds := ns.map PyData.str) (fun d hd => by
      obtain ⟨x, hx, rfl⟩ := List.mem_map.mp hd
      exact Ls.name (h x hx))
    rwa [List.length_map] at this
  have := a.tup
  rw [List.length_map] at this
  exact this.more (by omega) (by omega)
theorem Ls.row {t : Str} {ns : List Str} {e : PyData} {b k : Nat} (ht : Ls 122 0 (.str t)) (hk : 1 ≤ k) (hn : ∀ x ∈ ns, nameOk x = true) (hl : ns.length ≤ 3) (he : Ls b k e) : Ls (b + 506) (k + 1) (brD (t, ns, e)) := by
  have := (LsA.cons (ht.more (Nat.le_refl _) (Nat.zero_le k)) (LsA.cons ((Ls.names hn hl).more (Nat.le_refl _) hk) (LsA.cons he LsA.nil))).tup
  exact this.more (by simp only [List.length_cons, List.length_nil]; omega) (Nat.le_refl _)
theorem GE.ls {S : Sg} (ok : SgOk S) {n : Nat} {sc : List Str} {d : PyData} (g : GE S n sc d) : (∀ x ∈ sc, nameOk x = true) → Ls (gsz n) (3 * n + 1) d := by
  induction g with
  | @leaf n sc d l =>
    intro hs
    rcases l with ⟨x, hx, rfl⟩ | ⟨i, hi, rfl⟩
    · exact (LsA.cons (Ls.word (n := 4) (k := 0) (by decide +kernel)) (LsA.cons (Ls.name (hs x hx)) LsA.nil)).tup.more (by have := gsz_ge n; simp only [List.length_cons, List.length_nil]; omega) (by omega)
    · refine (LsA.cons (Ls.word (n := 4) (k := 0) (by decide +kernel)) (LsA.cons (Ls.int (n := 12) (by decide) (by omega) ?_) LsA.nil)).tup.more (by have := gsz_ge n; simp only [List.length_cons, List.length_nil]; omega) (by omega)
      by_cases z : i.natAbs = 0
      · rw [z]; decide
      · rw [Nat.log2_lt z]
        exact Nat.lt_of_lt_of_le (m := 2 ^ 40) (by omega) (Nat.pow_le_pow_right (by decide) (by decide))
  | @call n sc f k ds hf hl hd ih =>
    intro hs
    have k3 := ok.f3 _ hf
    have a := (LsA.all (fun d h => ih d h hs)).tup
    have b := (LsA.cons (Ls.word (x := "call") (n := 4) (k := 3 * n + 2) (by decide +kernel)) (LsA.cons (Ls.name (ok.f4 _ hf)) (LsA.cons a LsA.nil))).tup
    refine b.more ?_ (by omega)
    have : ds.length * gsz n ≤ 3 * gsz n := Nat.mul_le_mul_right _ (by rw [hl]; exact k3)
    have : ds.length ≤ 3 := by rw [hl]; exact k3
    simp only [List.length_cons, List.length_nil, gsz]; omega
  | @make n sc f k ds hf hl hd ih =>
    intro hs
    have k3 := ok.t3 _ hf
    have a := (LsA.all (fun d h => ih d h hs)).tup
    have b := (LsA.cons (Ls.word (x := "make") (n := 4) (k := 3 * n + 2) (by decide +kernel)) (LsA.cons (Ls.tag (ok.t4 _ hf)) (LsA.cons a LsA.nil))).tup
    refine b.more ?_ (by omega)
    have : ds.length * gsz n ≤ 3 * gsz n := Nat.mul_le_mul_right _ (by rw [hl]; exact k3)
    have : ds.length ≤ 3 := by rw [hl]; exact k3
    simp only [List.length_cons, List.length_nil, gsz]; omega
  | @case n sc e bs he hne hl hnd hts hns hbs ih ih2 =>
    intro hs
    have a := (LsA.all (ds := bs.map brD) (b := gsz n + 506) (k := 3 * n + 2) (fun d h => by
      obtain ⟨r, hr, rfl⟩ := List.mem_map.mp h
      refine Ls.row (Ls.tag (ok.t4 _ (hts r hr))) (by omega) (fun x hx => ok.l3 x ((hns r hr).2 x hx)) (ok.t3 _ (hts r hr)) (ih2 r hr fun x hx => ?_)
      rcases List.mem_append.mp hx with hx | hx
      · exact hs x hx
      · exact ok.l3 x ((hns r hr).2 x hx))).tup
    have b := (LsA.cons (Ls.word (x := "case") (n := 4) (k := 3 * n + 3) (by decide +kernel)) (LsA.cons ((ih hs).more (Nat.le_refl _) (by omega)) (LsA.cons a LsA.nil))).tup
    refine b.more ?_ (by omega)
    have : bs.length * (gsz n + 506) ≤ 3 * (gsz n + 506) := Nat.mul_le_mul_right _ hl
    rw [List.length_map]
    simp only [List.length_cons, List.length_nil, gsz]; omega
  | @«let» n sc x e b hx he hb ih ih2 =>
    intro hs
    have c := (LsA.cons (Ls.word (x := "let") (n := 4) (k := 3 * n + 1) (by decide +kernel)) (LsA.cons (Ls.name (ok.l3 _ hx)) (LsA.cons (ih hs) (LsA.cons (ih2 fun y hy => by
      rcases List.mem_append.mp hy with hy | hy
      · exact hs y hy
      · rw [List.mem_singleton.mp hy]; exact ok.l3 _ hx) LsA.nil)))).tup
    refine c.more ?_ (by omega)
    simp only [List.length_cons, List.length_nil, gsz]; omega
  | @«if» n sc o ds ho hl hd ih =>
    intro hs
    have a := LsA.all (fun d h => ih d h hs)
    have b := (LsA.cons (Ls.word (x := "if") (n := 4) (k := 3 * n + 1) (by decide +kernel)) (LsA.cons (Ls.word (x := o) (n := 4) (k := 3 * n + 1) (by rcases ho with rfl | rfl <;> decide +kernel)) a)).tup
    refine b.more ?_ (by omega)
    rw [hl]
    simp only [List.length_cons, List.length_nil, gsz, hl]; omega
  | @op n sc o ds ho hl hd ih =>
    intro hs
    have a := LsA.all (fun d h => ih d h hs)
    have b := (LsA.cons (Ls.word (x := "op") (n := 4) (k := 3 * n + 1) (by decide +kernel)) (LsA.cons (Ls.word (x := o) (n := 4) (k := 3 * n + 1) (by rcases ho with rfl | rfl | rfl <;> decide +kernel)) a)).tup
    refine b.more ?_ (by omega)
    rw [hl]
    simp only [List.length_cons, List.length_nil, gsz, hl]; omega
  | @one n sc o e ho he ih =>
    intro hs
    have b := (LsA.cons (Ls.word (x := o) (n := 5) (k := 3 * n + 1) (by rcases ho with rfl | rfl <;> decide +kernel)) (LsA.cons (ih hs) LsA.nil)).tup
    refine b.more ?_ (by omega)
    simp only [List.length_cons, List.length_nil, gsz]; omega
/-- a drawn program -/
theorem rows_ls {S : Sg} (ok : SgOk S) {rows : List (Str × List Str × PyData)} (h : ∀ r ∈ rows, RowOk S r) (hl : rows.length ≤ 5) : Ls 16000000 21 (.tuple (rows.map brD)) := by
  have a := (LsA.all (ds := rows.map brD) (b := gsz 6 + 506) (k := 20) (fun d hd => by
    obtain ⟨r, hr, rfl⟩ := List.mem_map.mp hd
    obtain ⟨h1, h2, h3, n, hn, g⟩ := h r hr
    exact Ls.row (Ls.name (ok.f4 _ h1)) (by omega) (fun x hx => ok.l3 x (h3 x hx)) (ok.f3 _ h1) ((g.ls ok fun x hx => ok.l3 x (h3 x hx)).more (gsz_mono hn) (by omega)))).tup
  refine a.more ?_ (by omega)
  rw [List.length_map]
  have : rows.length * (gsz 6 + 506) ≤ 14424610 := Nat.le_trans (Nat.mul_le_mul_right _ hl) (by decide +kernel)
  generalize rows.length * (gsz 6 + 506) = z at this
  omega
end Dh

/-! DhV -/
set_option Elab.async false
set_option linter.all false
set_option maxRecDepth 100000
set_option maxHeartbeats 4000000

/-! A tuple turned round: t[::-1]. -/
namespace HT
open PySem PySem.Spec PyProof.Rows
section
variable {prog : Program} {w : World} {A : Around} {E : Value → Shared → Prop} {s : Shared}
theorem fm_same {α β : Type} {f g : α → Option β} : ∀ {l : List α}, (∀ x ∈ l, f x = g x) → l.filterMap f = l.filterMap g
  | [], _ => rfl
  | x :: l, h => by
    rw [List.filterMap_cons, List.filterMap_cons, h x List.mem_cons_self, fm_same fun y hy => h y (List.mem_cons_of_mem _ hy)]
theorem turned_pick (xs : Array Value) : (List.range xs.size).filterMap (fun (k : Nat) => xs[(((xs.size : Int) - 1) + (k : Int) * (-1)).toNat]?) = xs.toList.reverse := by
  have e : (List.range xs.size).filterMap (fun (k : Nat) => xs[(((xs.size : Int) - 1) + (k : Int) * (-1)).toNat]?) = ((List.range xs.size).map fun k => xs.size - 1 - k).filterMap (fun j => xs[j]?) := by
    rw [List.filterMap_map]
    refine fm_same fun k hk => ?_
    have hk := List.mem_range.mp hk
    show xs[_]? = xs[xs.size - 1 - k]?
    rw [show (((xs.size : Int) - 1) + (k : Int) * (-1)).toNat = xs.size - 1 - k by omega]
  rw [e, PySem.W.krv_range, List.filterMap_reverse]
  exact congrArg List.reverse (PySem.W.krv_all xs)
theorem applied_turned {sl : Addr} {vl vu vs : Value} {n : Nat} {Q : Int × Int × Nat → Shared → Prop} (hs : s.heap.IsSliceOf sl vl vu vs)
    (pl : IsPart vl none) (pu : IsPart vu none) (ps : IsPart vs (some (-1))) (h : Q ((n : Int) - 1, -1, n) s) :
    wpAny (model prog w) A (Builtin.Slice.sliceApplied (.ref sl) (pure (n : Int))) Q E s := by
  obtain ⟨os, g1, _, g3⟩ := id hs
  unfold Builtin.Slice.sliceApplied Builtin.Slice.sliceFields
  refine wpAny_bind (wpAny_bind (wpAny_field g1 g3 (x := vl) rfl ?_))
  refine wpAny_bind (wpAny_field g1 g3 (x := vu) rfl ?_)
  refine wpAny_bind (wpAny_field g1 g3 (x := vs) rfl (wpAny_pure ?_))
  refine wpAny_bind (slicePart_ ps ?_)
  show wpAny _ _ (if ((-1 : Int) == 0) = true then _ else _) _ _ s
  rw [if_neg (by decide)]
  refine wpAny_bind (slicePart_ pl ?_)
  refine wpAny_bind (slicePart_ pu ?_)
  refine wpAny_bind (wpAny_pure ?_)
  have e : Builtin.Slice.slicePlaces ((n : Int) - 1) (-1) (-1) = n := by
    unfold Builtin.Slice.slicePlaces
    rw [if_neg (by decide)]
    by_cases z : (n : Int) - 1 > -1
    · rw [if_pos z, show (-(-1) : Int) = 1 by decide, Int.ediv_one]; omega
    · rw [if_neg z]; omega
  show wpAny _ _ (pure ((n : Int) - 1, (-1 : Int), Builtin.Slice.slicePlaces ((n : Int) - 1) (-1) (-1))) _ _ s
  rw [e]
  exact wpAny_pure h
theorem item_turned {t sl : Addr} {items : Array Value} {vl vu vs : Value} {Q : Value → Shared → Prop} (ht : IsTup s.heap t items) (hs : s.heap.IsSliceOf sl vl vu vs)
    (pl : IsPart vl none) (pu : IsPart vu none) (ps : IsPart vs (some (-1)))
    (h : Q (.ref s.heap.objs.size) { s with heap := s.heap.push { cls := .type "tuple", data := .seq items.toList.reverse.toArray } })
    (hz : items.size ≤ sizeLine) : wpAny (model prog w) A (getItem (.ref t) (.ref sl)) Q E s := by
  have fits : sizeOk (.seq items.toList.reverse.toArray) := by
    show items.toList.reverse.toArray.size ≤ sizeLine
    rw [List.size_toArray, List.length_reverse, Array.length_toList]
    exact hz
  obtain ⟨os, g1, g2, _⟩ := id hs
  have isSl : s.TypeIs (.ref sl) "slice" := ⟨os, g1, g2⟩
  unfold getItem
  try with_reducible refine wpAny_holding ?_
  first | refine wpAny_bind (wpAny_pure ?_) | skip
  refine wpAny_bind (wpAny_sequenceKey ht.typeIs (by decide) ?_)
  have slot := PyProof.Rows.slot_tuple_getitem
  refine wpAny_bind (wpAny_callSpecial?_slot (name := Str.ofString "__getitem__") ht.typeIs slot (wpAny_call_entry slot ht.typeIs entry_tuple_getitem ?_ (args_tuple_getitem _ _)))
  show wpAny _ _ (Builtin.Tuple.tupleItemsOf (.ref t) >>= _) _ _ s
  refine wpAny_bind (tupleItemsOf_ ht ?_)
  refine wpAny_bind (wpAny_typeOf isSl ?_)
  rw [if_pos (by decide)]
  refine wpAny_bind (applied_turned (n := items.size) hs pl pu ps ?_)
  have no : ¬ (((((items.size : Int) - 1) == 0) && ((-1 : Int) == 1) && (items.size == items.size)) = true) := by
    intro q
    rw [Bool.and_eq_true, Bool.and_eq_true] at q
    exact absurd q.1.2 (by decide)
  show wpAny _ _ (if ((((items.size : Int) - 1) == 0) && ((-1 : Int) == 1) && (items.size == items.size)) = true then _ else _) _ _ s
  rw [if_neg no, turned_pick]
  refine wpAny_bind (m := Builtin.Tuple.tupleExact _) (wpAny_newObj_type ?_ fits)
  first
    | exact wpAny_pure ⟨_, rfl, wpAny_pure h⟩
    | exact wpAny_bind (wpAny_pure (wpAny_pure ⟨_, rfl, wpAny_pure h⟩))
end
end HT
namespace Dh
open PySem PySem.Spec PyProof.Rows L2
section
variable {X : Cx}
def tRevT (K : PySem.W.Frag) (te : TE) : TE := fun σ H Q => te σ H fun x H1 => ∃ a xs, x = .ref a ∧ SqT K H1 a xs ∧ ∀ p, H1 p = none → Q (.ref p) (upd H1 p (.tup xs.reverse))
theorem pe_revT {e : Expr} {te : TE} {k : Nat} {p1 p2 p3 pos : Pos} (he : PE X e te) :
    PE X (.Subscript e (.Slice none none (some (.UnaryOp .USub (.Constant (.int 1) k p1) p2)) p3) pos) (tRevT X.K te) := by
  refine ⟨fun pins s σ H Q I h => Subscript_ (thn (he.run pins s σ H _ I h) fun v s1 ⟨x, H1, I1, r1, q1⟩ => ?_)⟩
  obtain ⟨a, xs, rfl, hx, q⟩ := q1
  cases r1
  have minus : PO X (some (.UnaryOp .USub (.Constant (.int 1) k p1) p2)) (tPart (tUn (rU fun i => .int (-i)) (tC (.int 1)))) := po_some (pe_un un_neg pe_int)
  refine wpAny_Slice (thn (po_none.run pins s1 σ H1 (fun o Hh => o = none ∧ Hh = H1) I1 ⟨rfl, rfl⟩) fun vl s2 ⟨_, _, I2, pl, z1, z2⟩ => ?_)
  subst z1 z2
  refine thn (po_none.run pins s2 σ _ (fun o Hh => o = none ∧ Hh = _) I2 ⟨rfl, rfl⟩) fun vu s3 ⟨_, _, I3, pu, z1, z2⟩ => ?_
  subst z1 z2
  refine thn (minus.run pins s3 σ _ (fun o Hh => o = some (-1) ∧ Hh = _) I3 ⟨1, rfl, -1, rfl, rfl, rfl⟩) fun vs s4 ⟨_, H4, I4, ps, z1, z2⟩ => ?_
  subst z1 z2
  have I5 : Inv X pins σ H4 { s4 with heap := s4.heap.push { cls := .type "slice", data := .fields #[vl, vu, vs] } } := I4.kept (t' := s4.toks) fun b ob z => Heap.get?_push_of_some _ z
  obtain ⟨its, r, ht, hz⟩ := I5.tuple hx
  refine tail_any (ops := [.ref a, .ref s4.heap.objs.size]) ht.typeIs (PyProof.Rows.slot_tuple_getitem.lookup) ?_ (by with_unfolding_all rfl)
  refine HT.item_turned ht (Heap.IsSliceOf.new _ vl vu vs) pl pu ps ?_ (by rw [List.size_toArray, ← r.length]; exact hz)
  refine ⟨.ref _, _, I5.laid (t' := s4.toks) (o := .tup xs.reverse) (fun b ob z => Heap.get?_push_of_some _ z) (Nat.le_refl _) ?_, rfl, q _ (I5.hok.fresh (Nat.le_refl _))⟩
  exact ⟨by rw [List.length_reverse]; exact hz, _, r.reverse, IsTup.new _ _⟩
end
end Dh

/-! DhO -/
set_option Elab.async false
set_option linter.all false
set_option maxRecDepth 100000
set_option maxHeartbeats 4000000
namespace Dh
open PySem PySem.Spec PyProof.Rows L2

/-! ### drawn values of any kind -/
abbrev sOdd : Stmt := top 23
structure BltX (mg : Str → Option Value) : Prop where
  isinstance : mg "isinstance" = none
  repr : mg "repr" = none
  enumerate : mg "enumerate" = none
def tNo : L2.TT := fun _ _ _ => False
theorem ptNo {X : Cx} {e : Expr} : PT X e tNo := ⟨fun _ _ _ _ _ _ h => h.elim⟩
/-- small data, by looking -/
def lsB (d : PyData) : Bool := d.showable && decide (d.shown.length ≤ 400) && decide (d.depth ≤ 4) && d.shown.cps.toList.all (fun c => decide (c < 128))
theorem lsB.ls {d : PyData} (h : lsB d = true) : Ls 400 4 d := by
  unfold lsB at h
  simp only [Bool.and_eq_true, decide_eq_true_eq] at h
  exact ⟨h.1.1.1, h.1.1.2, h.1.2, low_of h.2⟩
def Od (K : PySem.W.Frag) (M : List Addr) (H : Hp) (v : V) : Prop := ∃ d, At K M H v d ∧ Ls 400 4 d
theorem Od.ext {K : PySem.W.Frag} {M : List Addr} {H H1 : Hp} {v : V} (k : Kp [] H H1) (h : Od K M H v) : Od K M H1 v := by
  obtain ⟨d, a, l⟩ := h
  exact ⟨d, a.ext k, l⟩
def Ods (K : PySem.W.Frag) (M : List Addr) (H : Hp) (vs : List V) : Prop := ∀ v ∈ vs, Od K M H v
theorem Ods.ext {K : PySem.W.Frag} {M : List Addr} {H H1 : Hp} {vs : List V} (k : Kp [] H H1) (h : Ods K M H vs) : Ods K M H1 vs := fun v hv => (h v hv).ext k
theorem Ods.nil {K : PySem.W.Frag} {M : List Addr} {H : Hp} : Ods K M H [] := fun _ h => nomatch h
theorem Ods.cons {K : PySem.W.Frag} {M : List Addr} {H : Hp} {v : V} {vs : List V} (a : Od K M H v) (b : Ods K M H vs) : Ods K M H (v :: vs) := fun x hx => by
  rcases List.mem_cons.mp hx with rfl | hx
  · exact a
  · exact b x hx
theorem Ods.app {K : PySem.W.Frag} {M : List Addr} {H : Hp} {us vs : List V} (a : Ods K M H us) (b : Ods K M H vs) : Ods K M H (us ++ vs) := fun x hx => (List.mem_append.mp hx).elim (a x) (b x)
theorem Ods.rep {K : PySem.W.Frag} {M : List Addr} {H : Hp} {us : List V} (a : Ods K M H us) (n : Nat) : Ods K M H (List.replicate n us).flatten := fun x hx => by
  obtain ⟨l, hl, hx⟩ := List.mem_flatten.mp hx
  rw [(List.mem_replicate.mp hl).2] at hx
  exact a x hx
theorem upd_twice {H : Hp} {p : Addr} {a b : HO} : upd (upd H p a) p b = upd H p b := by
  funext q
  by_cases z : q = p
  · rw [z, upd_same, upd_same]
  · rw [upd_ne z, upd_ne z, upd_ne z]
def spOdd (K : PySem.W.Frag) : Sp := fun vs H Q _ => ∃ (dk lf : Addr) (it : V) (M : List Addr), vs = [.ref dk, it] ∧ Dk H dk lf ∧ (∀ b ∈ [dk, lf], b ∈ M) ∧ (∀ b ∈ M, ∃ o, H b = some o) ∧ (it = .non ∨ ∃ t, it = .ref t ∧ H t = some (.tup [.int 1, .str "a"]) ∧ t ∉ M) ∧
  ∀ (H' : Hp) (v : V), Od K M H' v → Dk H' dk lf → Kp [dk, lf] H H' → Q v H'
section
variable {P : Program} {w : World} {K : PySem.W.Frag} {mg : Str → Option Value} {base : Heap}
abbrev namesO : List Str := ["deck", "it", "some"]
theorem scOdd : FnScope namesO ["deck", "it"] (defScope sOdd) := ⟨rfl, rfl, rfl, by decide +kernel, rfl, by decide +kernel, by decide +kernel⟩
theorem okOdd {f g : Addr} {fd gd : FuncData} (F : Fun K "_law_odd" "_law_odd" sOdd f fd) (T : Blt mg) (TX : BltX mg)
    (Dpick : Df P w K mg base "_law_pick" 2 g gd ["deck", "some"] (spPick K)) :
    FnOk P w K mg base CX0 3 f fd ["deck", "it"] (spOdd K) := by
  refine F.ok scOdd (fun vs H Q E h => ?_) (fun cdv A outer s H vs Q E hr h => ?_)
  · obtain ⟨_, _, _, _, rfl, _⟩ := h
    rfl
  · obtain ⟨dk, lf, it, M, rfl, D, hM, hMt, hit, k⟩ := h
    refine ⟨_, (pss_cons (ps_set (i := 2) scOdd.nd rfl (Or.inl rfl) (pe_lst (pa_cons pe_non (pa_cons pe_bl (pa_cons pe_bl (pa_cons pe_int (pa_cons pe_int (pa_cons pe_str (pa_cons pe_str (pa_cons pe_str (pa_cons pe_str (pa_cons pe_str (pa_cons pe_str (pa_cons pe_str (pa_cons pe_str (pa_cons (pe_tup pa_nil) (pa_cons (pe_tup (pa_cons (pe_tup pa_nil) pa_nil)) (pa_cons (pe_lst pa_nil) (pa_cons pe_dnewK (pa_cons (pe_disp (pps_cons pe_int pe_int pps_nil) (by rfl) (by rfl) (fun z => by cases z) (by decide)) (pa_cons (pe_tup (pa_cons pe_str (pa_cons pe_int pa_nil))) (pa_cons (pe_op op_pow pe_int pe_int) pa_nil)))))))))))))))))))))) 
    (pss_cons (ps_set (i := 2) scOdd.nd rfl (Or.inl rfl) (pe_op op_cat (pv 2) (pe_lst (pa_cons (pe_tup (pa_cons pe_str (pa_cons pe_str pa_nil))) (pa_cons (pe_tup (pa_cons pe_str (pa_cons (pe_tup pa_nil) (pa_cons (pe_tup (pa_cons pe_str (pa_cons pe_int pa_nil))) pa_nil)))) (pa_cons (pe_tup (pa_cons (pe_tup (pa_cons pe_str (pa_cons (pe_tup pa_nil) (pa_cons (pe_tup (pa_cons pe_str (pa_cons pe_int pa_nil))) pa_nil)))) pa_nil)) (pa_cons (pe_lst (pa_cons pe_str (pa_cons pe_int pa_nil))) (pa_cons pe_str pa_nil)))))))) 
    (Evl.pss_cut (ps_if (pt_val (pe_callB call_isi (by rfl) TX.isinstance (by decide +kernel) (pa_cons (pv 1) (pa_cons (pe_bltn (v := .ty "tuple") (by rfl) T.tuple (by decide +kernel) rfl) pa_nil)))) (pss_one (ps_set (i := 2) scOdd.nd rfl (Or.inl rfl) (pe_op op_cat (pv 2) (pe_op op_rep (pe_lst (pa_cons (pe_callTy call_list_of (by rfl) T.list (by decide +kernel) (pa_cons (pv 1) pa_nil)) (pa_cons (pe_op op_catA (pv 1) (pe_tup (pa_cons pe_int pa_nil))) (pa_cons (pe_slice sl_tupA (pv 1) (po_some pe_int) po_none) (pa_cons (pe_slice sl_tupA (pv 1) po_none (po_some (pe_un un_neg pe_int))) (pa_cons (pe_revT (pv 1)) (pa_cons (pe_op op_catA (pv 1) (pe_slice sl_tupA (pv 1) po_none (po_some pe_int))) (pa_cons (pe_tup (pa_cons (pv 1) pa_nil)) (pa_cons (pe_op op_catA (pe_slice sl_tupA (pv 1) po_none (po_some pe_int)) (pv 1)) (pa_cons (pe_slice sl_tupA (pv 1) po_none (po_some pe_int)) pa_nil)))))))))) pe_int)))) (pss_one (ps_if (pt_val (pe_callB call_isi (by rfl) TX.isinstance (by decide +kernel) (pa_cons (pv 1) (pa_cons (pe_bltn (v := .ty "str") (by rfl) T.str (by decide +kernel) rfl) pa_nil)))) pss_never (pss_one (ps_if (PW.pt (pw_and (pt_val (pe_callB call_isi (by rfl) TX.isinstance (by decide +kernel) (pa_cons (pv 1) (pa_cons (pe_bltn (v := .ty "int") (by rfl) T.int (by decide +kernel) rfl) pa_nil)))) (pw_and1 ptNo))) pss_never pss_nil))))) 
    (pss_one (ps_ret (pe_call Dpick.ok (hr.mono (by decide)) (by rfl) Dpick.m Dpick.k Dpick.b .nil pass0 (pa_cons (pv 0) (pa_cons (pv 2) pa_nil)))))))), ?_⟩
    have s0 : Sn [dk, lf] H H dk lf := Sn.start D
    have sub : ∀ {b : Addr}, b ∉ M → b ∉ [dk, lf] := fun {b} n z => n (hM b z)
    have nm : ∀ {Hi : Hp}, Sn [dk, lf] H Hi dk lf → ∀ {p : Addr}, Hi p = none → p ∉ M := fun {Hi} s {p} e z => by
      obtain ⟨o, ho⟩ := hMt p z
      rw [s.k _ _ ho (s.d.mem e)] at e
      cases e
    have hH0 : ∃ H0, H0 = H := ⟨_, rfl⟩
    obtain ⟨H0, hH0⟩ := hH0
    rw [← hH0] at s0 nm ⊢
    refine ⟨by show 0 ≤ sizeLine; decide, fun p1 h1 => ?_⟩
    generalize hG : upd H0 p1 _ = H1
    obtain ⟨e1, s1, x1⟩ := s0.stp h1 hG
    clear hG
    have n1 := nm s0 h1
    have b1 : At K M H1 (.ref p1) (.tuple []) := At.newT (H := H0) e1 n1 .nil
    refine ⟨by show 0 ≤ sizeLine; decide, fun p2 h2 => ?_⟩
    generalize hG : upd H1 p2 _ = H2
    obtain ⟨e2, s2, x2⟩ := s1.stp h2 hG
    clear hG
    have n2 := nm s1 h2
    replace b1 := b1.ext x2
    have b2 : At K M H2 (.ref p2) (.tuple []) := At.newT (H := H0) e2 n2 .nil
    refine ⟨by show 1 ≤ sizeLine; decide, fun p3 h3 => ?_⟩
    generalize hG : upd H2 p3 _ = H3
    obtain ⟨e3, s3, x3⟩ := s2.stp h3 hG
    clear hG
    have n3 := nm s2 h3
    replace b1 := b1.ext x3
    replace b2 := b2.ext x3
    have b3 : At K M H3 (.ref p3) (.tuple [.tuple []]) := At.newT (H := H0) e3 n3 (.cons b2 .nil)
    refine ⟨by show 0 ≤ sizeLine; decide, fun p4 h4 => ?_⟩
    generalize hG : upd H3 p4 _ = H4
    obtain ⟨e4, s4, x4⟩ := s3.stp h4 hG
    clear hG
    have n4 := nm s3 h4
    replace b1 := b1.ext x4
    replace b3 := b3.ext x4
    have b4 : At K M H4 (.ref p4) (.list []) := .lst (SqL.of e4) n4 .nil
    refine fun p5 h5 => ?_
    generalize hG : upd H4 p5 _ = H5
    obtain ⟨e5, s5, x5⟩ := s4.stp h5 hG
    clear hG
    have n5 := nm s4 h5
    replace b1 := b1.ext x5
    replace b3 := b3.ext x5
    replace b4 := b4.ext x5
    have b5 : At K M H5 (.ref p5) (.dict []) := .dic e5 n5 .nil
    refine fun p6 h6 => ?_
    refine ⟨upd_same, [(.inl 1, .int 2)], rfl, by decide, ?_⟩
    rw [upd_twice]
    generalize hG : upd H5 p6 _ = H6
    obtain ⟨e6, s6, x6⟩ := s5.stp h6 hG
    clear hG
    have n6 := nm s5 h6
    replace b1 := b1.ext x6
    replace b3 := b3.ext x6
    replace b4 := b4.ext x6
    replace b5 := b5.ext x6
    have e6 : H6 p6 = some (.dK [(.inl 1, .int 2)]) := e6
    have b6 : At K M H6 (.ref p6) (.dict [(.int 1, .int 2)]) := .dic e6 n6 (.cons (.int 2) .nil)
    refine ⟨by show 2 ≤ sizeLine; decide, fun p7 h7 => ?_⟩
    generalize hG : upd H6 p7 _ = H7
    obtain ⟨e7, s7, x7⟩ := s6.stp h7 hG
    clear hG
    have n7 := nm s6 h7
    replace b1 := b1.ext x7
    replace b3 := b3.ext x7
    replace b4 := b4.ext x7
    replace b5 := b5.ext x7
    replace b6 := b6.ext x7
    have b7 : At K M H7 (.ref p7) (.tuple [.str "int", .int 1]) := At.newT (H := H0) e7 n7 (.cons (.str _) (.cons (.int 1) .nil))
    refine ⟨_, _, rfl, rfl, ⟨by decide, by decide, by decide⟩, ?_⟩
    refine ⟨by show 20 ≤ sizeLine; decide, fun p8 h8 => ?_⟩
    generalize hG : upd H7 p8 _ = H8
    obtain ⟨e8, s8, x8⟩ := s7.stp h8 hG
    clear hG
    have n8 := nm s7 h8
    replace b1 := b1.ext x8
    replace b3 := b3.ext x8
    replace b4 := b4.ext x8
    replace b5 := b5.ext x8
    replace b6 := b6.ext x8
    replace b7 := b7.ext x8
    obtain ⟨vs1, e8, B, z1⟩ : ∃ vs, H8 p8 = some (.lst vs) ∧ Ods K M H8 vs ∧ vs.length = 20 := ⟨_, e8, Ods.cons ⟨.none, .non, lsB.ls (by decide +kernel)⟩ (Ods.cons ⟨.bool true, .bl true, lsB.ls (by decide +kernel)⟩ (Ods.cons ⟨.bool false, .bl false, lsB.ls (by decide +kernel)⟩ (Ods.cons ⟨.int 0, .int 0, lsB.ls (by decide +kernel)⟩ (Ods.cons ⟨.int 1, .int 1, lsB.ls (by decide +kernel)⟩ (Ods.cons ⟨.str "", .str _, lsB.ls (by decide +kernel)⟩ (Ods.cons ⟨.str "x", .str _, lsB.ls (by decide +kernel)⟩ (Ods.cons ⟨.str "A", .str _, lsB.ls (by decide +kernel)⟩ (Ods.cons ⟨.str "def", .str _, lsB.ls (by decide +kernel)⟩ (Ods.cons ⟨.str "int", .str _, lsB.ls (by decide +kernel)⟩ (Ods.cons ⟨.str "a\n~", .str _, lsB.ls (by decide +kernel)⟩ (Ods.cons ⟨.str ">", .str _, lsB.ls (by decide +kernel)⟩ (Ods.cons ⟨.str "/", .str _, lsB.ls (by decide +kernel)⟩ (Ods.cons ⟨_, b1, lsB.ls (by decide +kernel)⟩ (Ods.cons ⟨_, b3, lsB.ls (by decide +kernel)⟩ (Ods.cons ⟨_, b4, lsB.ls (by decide +kernel)⟩ (Ods.cons ⟨_, b5, lsB.ls (by decide +kernel)⟩ (Ods.cons ⟨_, b6, lsB.ls (by decide +kernel)⟩ (Ods.cons ⟨_, b7, lsB.ls (by decide +kernel)⟩ (Ods.cons ⟨_, .int _, lsB.ls (by decide +kernel)⟩ (Ods.nil)))))))))))))))))))), rfl⟩
    refine ⟨_, rfl, ?_⟩
    refine ⟨by show 2 ≤ sizeLine; decide, fun p9 h9 => ?_⟩
    generalize hG : upd H8 p9 _ = H9
    obtain ⟨e9, s9, x9⟩ := s8.stp h9 hG
    clear hG
    have n9 := nm s8 h9
    replace B := B.ext x9
    have b9 : At K M H9 (.ref p9) (.tuple [.str "name", .str "x"]) := At.newT (H := H0) e9 n9 (.cons (.str _) (.cons (.str _) .nil))
    refine ⟨by show 0 ≤ sizeLine; decide, fun p10 h10 => ?_⟩
    generalize hG : upd H9 p10 _ = H10
    obtain ⟨e10, s10, x10⟩ := s9.stp h10 hG
    clear hG
    have n10 := nm s9 h10
    replace B := B.ext x10
    replace b9 := b9.ext x10
    have b10 : At K M H10 (.ref p10) (.tuple []) := At.newT (H := H0) e10 n10 .nil
    refine ⟨by show 2 ≤ sizeLine; decide, fun p11 h11 => ?_⟩
    generalize hG : upd H10 p11 _ = H11
    obtain ⟨e11, s11, x11⟩ := s10.stp h11 hG
    clear hG
    have n11 := nm s10 h11
    replace B := B.ext x11
    replace b9 := b9.ext x11
    replace b10 := b10.ext x11
    have b11 : At K M H11 (.ref p11) (.tuple [.str "int", .int 1]) := At.newT (H := H0) e11 n11 (.cons (.str _) (.cons (.int 1) .nil))
    refine ⟨by show 3 ≤ sizeLine; decide, fun p12 h12 => ?_⟩
    generalize hG : upd H11 p12 _ = H12
    obtain ⟨e12, s12, x12⟩ := s11.stp h12 hG
    clear hG
    have n12 := nm s11 h12
    replace B := B.ext x12
    replace b9 := b9.ext x12
    replace b10 := b10.ext x12
    replace b11 := b11.ext x12
    have b12 : At K M H12 (.ref p12) (.tuple [.str "f", .tuple [], .tuple [.str "int", .int 1]]) := At.newT (H := H0) e12 n12 (.cons (.str _) (.cons b10 (.cons b11 .nil)))
    refine ⟨by show 0 ≤ sizeLine; decide, fun p13 h13 => ?_⟩
    generalize hG : upd H12 p13 _ = H13
    obtain ⟨e13, s13, x13⟩ := s12.stp h13 hG
    clear hG
    have n13 := nm s12 h13
    replace B := B.ext x13
    replace b9 := b9.ext x13
    replace b12 := b12.ext x13
    have b13 : At K M H13 (.ref p13) (.tuple []) := At.newT (H := H0) e13 n13 .nil
    refine ⟨by show 2 ≤ sizeLine; decide, fun p14 h14 => ?_⟩
    generalize hG : upd H13 p14 _ = H14
    obtain ⟨e14, s14, x14⟩ := s13.stp h14 hG
    clear hG
    have n14 := nm s13 h14
    replace B := B.ext x14
    replace b9 := b9.ext x14
    replace b12 := b12.ext x14
    replace b13 := b13.ext x14
    have b14 : At K M H14 (.ref p14) (.tuple [.str "int", .int 1]) := At.newT (H := H0) e14 n14 (.cons (.str _) (.cons (.int 1) .nil))
    refine ⟨by show 3 ≤ sizeLine; decide, fun p15 h15 => ?_⟩
    generalize hG : upd H14 p15 _ = H15
    obtain ⟨e15, s15, x15⟩ := s14.stp h15 hG
    clear hG
    have n15 := nm s14 h15
    replace B := B.ext x15
    replace b9 := b9.ext x15
    replace b12 := b12.ext x15
    replace b13 := b13.ext x15
    replace b14 := b14.ext x15
    have b15 : At K M H15 (.ref p15) (.tuple [.str "f", .tuple [], .tuple [.str "int", .int 1]]) := At.newT (H := H0) e15 n15 (.cons (.str _) (.cons b13 (.cons b14 .nil)))
    refine ⟨by show 1 ≤ sizeLine; decide, fun p16 h16 => ?_⟩
    generalize hG : upd H15 p16 _ = H16
    obtain ⟨e16, s16, x16⟩ := s15.stp h16 hG
    clear hG
    have n16 := nm s15 h16
    replace B := B.ext x16
    replace b9 := b9.ext x16
    replace b12 := b12.ext x16
    replace b15 := b15.ext x16
    have b16 : At K M H16 (.ref p16) (.tuple [.tuple [.str "f", .tuple [], .tuple [.str "int", .int 1]]]) := At.newT (H := H0) e16 n16 (.cons b15 .nil)
    refine ⟨by show 2 ≤ sizeLine; decide, fun p17 h17 => ?_⟩
    generalize hG : upd H16 p17 _ = H17
    obtain ⟨e17, s17, x17⟩ := s16.stp h17 hG
    clear hG
    have n17 := nm s16 h17
    replace B := B.ext x17
    replace b9 := b9.ext x17
    replace b12 := b12.ext x17
    replace b16 := b16.ext x17
    have b17 : At K M H17 (.ref p17) (.list [.str "int", .int 1]) := .lst (SqL.of e17) n17 (.cons (.str _) (.cons (.int 1) .nil))
    refine ⟨by show 5 ≤ sizeLine; decide, fun p18 h18 => ?_⟩
    generalize hG : upd H17 p18 _ = H18
    obtain ⟨e18, s18, x18⟩ := s17.stp h18 hG
    clear hG
    have n18 := nm s17 h18
    replace B := B.ext x18
    replace b9 := b9.ext x18
    replace b12 := b12.ext x18
    replace b16 := b16.ext x18
    replace b17 := b17.ext x18
    obtain ⟨vs3, e18, B2, z3⟩ : ∃ vs, H18 p18 = some (.lst vs) ∧ Ods K M H18 vs ∧ vs.length = 5 := ⟨_, e18, Ods.cons ⟨_, b9, lsB.ls (by decide +kernel)⟩ (Ods.cons ⟨_, b12, lsB.ls (by decide +kernel)⟩ (Ods.cons ⟨_, b16, lsB.ls (by decide +kernel)⟩ (Ods.cons ⟨_, b17, lsB.ls (by decide +kernel)⟩ (Ods.cons ⟨.str "(def f () 1)", .str _, lsB.ls (by decide +kernel)⟩ (Ods.nil))))), rfl⟩
    have eL : H18 p8 = some (.lst vs1) := (x18.at (x17.at (x16.at (x15.at (x14.at (x13.at (x12.at (x11.at (x10.at (x9.at e8))))))))))
    refine ⟨_, _, _, _, rfl, rfl, eL, e18, by rw [z1, z3]; decide, fun p19 h19 => ?_⟩
    generalize hG : upd H18 p19 _ = H19
    obtain ⟨e19, s19, x19⟩ := s18.stp h19 hG
    clear hG
    have n19 := nm s18 h19
    replace B := B.ext x19
    replace B2 := B2.ext x19
    have B3 := B.app B2
    generalize hV : vs1 ++ vs3 = vs2 at B3 e19
    have z2 : vs2.length = 25 := by rw [← hV, List.length_append, z1, z3]
    clear hV
    have mid : ∀ (σ : St1) (Hm : Hp) (L : Addr) (vs : List V), σ = [some (.ref dk), some it, some (.ref L)] → Hm L = some (.lst vs) → Ods K M Hm vs → vs ≠ [] → vs.length ≤ 1000 → Sn [dk, lf] H0 Hm dk lf → L ∉ [dk, lf] → ∃ (L : Addr) (vs : List V), σ = [some (.ref dk), some it, some (.ref L)] ∧ Hm L = some (.lst vs) ∧ Ods K M Hm vs ∧ vs ≠ [] ∧ vs.length ≤ 1000 ∧ Sn [dk, lf] H0 Hm dk lf ∧ L ∉ [dk, lf] := fun σ Hm L vs a b c d e f g => ⟨L, vs, a, b, c, d, e, f, g⟩
    refine ⟨fun σ Hm => ∃ (L : Addr) (vs : List V), σ = [some (.ref dk), some it, some (.ref L)] ∧ Hm L = some (.lst vs) ∧ Ods K M Hm vs ∧ vs ≠ [] ∧ vs.length ≤ 1000 ∧ Sn [dk, lf] H0 Hm dk lf ∧ L ∉ [dk, lf], ?_, ?_⟩
    rotate_left
    · rintro σ Hm ⟨L, vs, rfl, e, B, ne, le, sm, nL⟩
      refine ⟨_, rfl, _, rfl, dk, lf, _, vs, rfl, sm.d, .inl ⟨L, rfl, .inl (SqL.of e), nL⟩, ne, le, fun H2 x hx D2 K2 => ?_⟩
      obtain ⟨d, a, l⟩ := B x hx
      exact k H2 x ⟨d, At.kp (K2.more hM) d a, l⟩ D2 (by rw [← hH0]; exact sm.k.trans K2)
    have nv2 : vs2 ≠ [] := fun z => by rw [z] at z2; cases z2
    rcases hit with rfl | ⟨t, rfl, ht, nt⟩
    · refine ⟨_, rfl, _, _, _, _, _, rfl, .ty _, .base .non, rfl, _, rfl, iteF ?_⟩
      refine ⟨_, rfl, _, _, _, _, _, rfl, .ty _, .base .non, rfl, _, rfl, iteF ?_⟩
      refine ⟨_, rfl, _, _, _, _, _, rfl, .ty _, .base .non, rfl, _, rfl, iteF (iteF ?_)⟩
      exact ⟨_, _, rfl, e19, B3, nv2, by omega, s19, sub n19⟩
    have et : H19 t = _ := s19.k _ _ (by rw [hH0]; exact ht) (sub nt)
    refine ⟨_, rfl, _, _, _, _, _, rfl, .ty _, .base (.tup et), rfl, _, rfl, iteT ?_⟩
    refine ⟨_, rfl, ?_⟩
    refine ⟨_, rfl, t, _, rfl, .inr (SqT.of et), fun p20 h20 => ?_⟩
    generalize hG : upd H19 p20 _ = H20
    obtain ⟨e20, s20, x20⟩ := s19.stp h20 hG
    clear hG
    have n20 := nm s19 h20
    replace B3 := B3.ext x20
    replace et := x20.at et
    replace e19 := x20.at e19
    have e20 : H20 p20 = some (.lst [.int 1, .str "a"]) := e20
    have b20 : At K M H20 (.ref p20) (.list [.int 1, .str "a"]) := .lst (SqL.of e20) n20 ((.cons (.int 1) (.cons (.str _) .nil)))
    refine ⟨_, rfl, ?_⟩
    refine ⟨by show 1 ≤ sizeLine; decide, fun p21 h21 => ?_⟩
    generalize hG : upd H20 p21 _ = H21
    obtain ⟨e21, s21, x21⟩ := s20.stp h21 hG
    clear hG
    have n21 := nm s20 h21
    replace B3 := B3.ext x21
    replace b20 := b20.ext x21
    replace et := x21.at et
    replace e19 := x21.at e19
    refine ⟨t, p21, _, _, rfl, rfl, SqT.of et, SqT.of e21, by decide, (fun z => nomatch z), (fun _ z => nomatch z), fun _ _ => fun p22 h22 => ?_⟩
    generalize hG : upd H21 p22 _ = H22
    obtain ⟨e22, s22, x22⟩ := s21.stp h22 hG
    clear hG
    have n22 := nm s21 h22
    replace B3 := B3.ext x22
    replace b20 := b20.ext x22
    replace et := x22.at et
    replace e19 := x22.at e19
    have e22 : H22 p22 = some (.tup [.int 1, .str "a", .int 0]) := e22
    have b22 : At K M H22 (.ref p22) (.tuple [.int 1, .str "a", .int 0]) := At.newT (H := H0) e22 n22 ((.cons (.int 1) (.cons (.str _) (.cons (.int 0) .nil))))
    refine ⟨_, rfl, _, rfl, t, _, rfl, SqT.of et, (fun z => absurd z (by decide)), fun _ => fun p23 h23 => ?_⟩
    generalize hG : upd H22 p23 _ = H23
    obtain ⟨e23, s23, x23⟩ := s22.stp h23 hG
    clear hG
    have n23 := nm s22 h23
    replace B3 := B3.ext x23
    replace b20 := b20.ext x23
    replace b22 := b22.ext x23
    replace et := x23.at et
    replace e19 := x23.at e19
    have e23 : H23 p23 = some (.tup [.str "a"]) := e23
    have b23 : At K M H23 (.ref p23) (.tuple [.str "a"]) := At.newT (H := H0) e23 n23 ((.cons (.str _) .nil))
    refine ⟨_, rfl, _, rfl, _, rfl, t, _, rfl, SqT.of et, (fun z => absurd z (by decide)), fun _ => fun p24 h24 => ?_⟩
    generalize hG : upd H23 p24 _ = H24
    obtain ⟨e24, s24, x24⟩ := s23.stp h24 hG
    clear hG
    have n24 := nm s23 h24
    replace B3 := B3.ext x24
    replace b20 := b20.ext x24
    replace b22 := b22.ext x24
    replace b23 := b23.ext x24
    replace et := x24.at et
    replace e19 := x24.at e19
    have e24 : H24 p24 = some (.tup [.int 1]) := e24
    have b24 : At K M H24 (.ref p24) (.tuple [.int 1]) := At.newT (H := H0) e24 n24 ((.cons (.int 1) .nil))
    refine ⟨_, rfl, t, _, rfl, SqT.of et, fun p25 h25 => ?_⟩
    generalize hG : upd H24 p25 _ = H25
    obtain ⟨e25, s25, x25⟩ := s24.stp h25 hG
    clear hG
    have n25 := nm s24 h25
    replace B3 := B3.ext x25
    replace b20 := b20.ext x25
    replace b22 := b22.ext x25
    replace b23 := b23.ext x25
    replace b24 := b24.ext x25
    replace et := x25.at et
    replace e19 := x25.at e19
    have e25 : H25 p25 = some (.tup [.str "a", .int 1]) := e25
    have b25 : At K M H25 (.ref p25) (.tuple [.str "a", .int 1]) := At.newT (H := H0) e25 n25 ((.cons (.str _) (.cons (.int 1) .nil)))
    refine ⟨_, rfl, ?_⟩
    refine ⟨_, rfl, _, rfl, t, _, rfl, SqT.of et, (fun z => absurd z (by decide)), fun _ => fun p26 h26 => ?_⟩
    generalize hG : upd H25 p26 _ = H26
    obtain ⟨e26, s26, x26⟩ := s25.stp h26 hG
    clear hG
    have n26 := nm s25 h26
    replace B3 := B3.ext x26
    replace b20 := b20.ext x26
    replace b22 := b22.ext x26
    replace b23 := b23.ext x26
    replace b24 := b24.ext x26
    replace b25 := b25.ext x26
    replace et := x26.at et
    replace e19 := x26.at e19
    have e26 : H26 p26 = some (.tup [.int 1]) := e26
    refine ⟨t, p26, _, _, rfl, rfl, SqT.of et, SqT.of e26, by decide, (fun z => nomatch z), (fun _ z => nomatch z), fun _ _ => fun p27 h27 => ?_⟩
    generalize hG : upd H26 p27 _ = H27
    obtain ⟨e27, s27, x27⟩ := s26.stp h27 hG
    clear hG
    have n27 := nm s26 h27
    replace B3 := B3.ext x27
    replace b20 := b20.ext x27
    replace b22 := b22.ext x27
    replace b23 := b23.ext x27
    replace b24 := b24.ext x27
    replace b25 := b25.ext x27
    replace et := x27.at et
    replace e19 := x27.at e19
    have e27 : H27 p27 = some (.tup [.int 1, .str "a", .int 1]) := e27
    have b27 : At K M H27 (.ref p27) (.tuple [.int 1, .str "a", .int 1]) := At.newT (H := H0) e27 n27 ((.cons (.int 1) (.cons (.str _) (.cons (.int 1) .nil))))
    refine ⟨_, rfl, by show 1 ≤ sizeLine; decide, fun p28 h28 => ?_⟩
    generalize hG : upd H27 p28 _ = H28
    obtain ⟨e28, s28, x28⟩ := s27.stp h28 hG
    clear hG
    have n28 := nm s27 h28
    replace B3 := B3.ext x28
    replace b20 := b20.ext x28
    replace b22 := b22.ext x28
    replace b23 := b23.ext x28
    replace b24 := b24.ext x28
    replace b25 := b25.ext x28
    replace b27 := b27.ext x28
    replace et := x28.at et
    replace e19 := x28.at e19
    have bt : At K M H28 (.ref t) (.tuple [.int 1, .str "a"]) := At.newT (H := H0) et nt (.cons (.int 1) (.cons (.str _) .nil))
    have e28 : H28 p28 = some (.tup [.ref t]) := e28
    have b28 : At K M H28 (.ref p28) (.tuple [.tuple [.int 1, .str "a"]]) := At.newT (H := H0) e28 n28 ((.cons bt .nil))
    refine ⟨_, rfl, _, rfl, t, _, rfl, SqT.of et, (fun z => absurd z (by decide)), fun _ => fun p29 h29 => ?_⟩
    generalize hG : upd H28 p29 _ = H29
    obtain ⟨e29, s29, x29⟩ := s28.stp h29 hG
    clear hG
    have n29 := nm s28 h29
    replace B3 := B3.ext x29
    replace b20 := b20.ext x29
    replace b22 := b22.ext x29
    replace b23 := b23.ext x29
    replace b24 := b24.ext x29
    replace b25 := b25.ext x29
    replace b27 := b27.ext x29
    replace bt := bt.ext x29
    replace b28 := b28.ext x29
    replace et := x29.at et
    replace e19 := x29.at e19
    have e29 : H29 p29 = some (.tup [.int 1]) := e29
    refine ⟨_, rfl, ?_⟩
    refine ⟨p29, t, _, _, rfl, rfl, SqT.of e29, SqT.of et, by decide, (fun z => nomatch z), (fun _ z => nomatch z), fun _ _ => fun p30 h30 => ?_⟩
    generalize hG : upd H29 p30 _ = H30
    obtain ⟨e30, s30, x30⟩ := s29.stp h30 hG
    clear hG
    have n30 := nm s29 h30
    replace B3 := B3.ext x30
    replace b20 := b20.ext x30
    replace b22 := b22.ext x30
    replace b23 := b23.ext x30
    replace b24 := b24.ext x30
    replace b25 := b25.ext x30
    replace b27 := b27.ext x30
    replace bt := bt.ext x30
    replace b28 := b28.ext x30
    replace et := x30.at et
    replace e19 := x30.at e19
    have e30 : H30 p30 = some (.tup [.int 1, .int 1, .str "a"]) := e30
    have b30 : At K M H30 (.ref p30) (.tuple [.int 1, .int 1, .str "a"]) := At.newT (H := H0) e30 n30 ((.cons (.int 1) (.cons (.int 1) (.cons (.str _) .nil))))
    refine ⟨_, rfl, _, rfl, t, _, rfl, SqT.of et, fun _ => ?_, fun z => absurd (by decide) z⟩
    refine ⟨by show 9 ≤ sizeLine; decide, fun p31 h31 => ?_⟩
    generalize hG : upd H30 p31 _ = H31
    obtain ⟨e31, s31, x31⟩ := s30.stp h31 hG
    clear hG
    have n31 := nm s30 h31
    replace B3 := B3.ext x31
    replace b20 := b20.ext x31
    replace b22 := b22.ext x31
    replace b23 := b23.ext x31
    replace b24 := b24.ext x31
    replace b25 := b25.ext x31
    replace b27 := b27.ext x31
    replace bt := bt.ext x31
    replace b28 := b28.ext x31
    replace b30 := b30.ext x31
    replace et := x31.at et
    replace e19 := x31.at e19
    obtain ⟨vs4, e31, B4, z4⟩ : ∃ vs, H31 p31 = some (.lst vs) ∧ Ods K M H31 vs ∧ vs.length = 9 := ⟨_, e31, Ods.cons ⟨_, b20, lsB.ls (by decide +kernel)⟩ (Ods.cons ⟨_, b22, lsB.ls (by decide +kernel)⟩ (Ods.cons ⟨_, b23, lsB.ls (by decide +kernel)⟩ (Ods.cons ⟨_, b24, lsB.ls (by decide +kernel)⟩ (Ods.cons ⟨_, b25, lsB.ls (by decide +kernel)⟩ (Ods.cons ⟨_, b27, lsB.ls (by decide +kernel)⟩ (Ods.cons ⟨_, b28, lsB.ls (by decide +kernel)⟩ (Ods.cons ⟨_, b30, lsB.ls (by decide +kernel)⟩ (Ods.cons ⟨_, bt, lsB.ls (by decide +kernel)⟩ (Ods.nil))))))))), rfl⟩
    refine ⟨_, _, _, rfl, rfl, e31, by decide, by decide, by rw [z4]; decide, fun p32 h32 => ?_⟩
    generalize hG : upd H31 p32 _ = H32
    obtain ⟨e32, s32, x32⟩ := s31.stp h32 hG
    clear hG
    have n32 := nm s31 h32
    replace B3 := B3.ext x32
    replace bt := bt.ext x32
    replace B4 := B4.ext x32
    replace et := x32.at et
    replace e19 := x32.at e19
    have B5 := B4.rep (3 : Int).toNat
    have z5 : (List.replicate (3 : Int).toNat vs4).flatten.length = 27 := by rw [List.length_flatten, List.map_replicate, z4]; rfl
    generalize (List.replicate (3 : Int).toNat vs4).flatten = vs5 at B5 z5 e32
    refine ⟨_, _, _, _, rfl, rfl, e19, e32, by rw [z2, z5]; decide, fun p33 h33 => ?_⟩
    generalize hG : upd H32 p33 _ = H33
    obtain ⟨e33, s33, x33⟩ := s32.stp h33 hG
    clear hG
    have n33 := nm s32 h33
    replace B3 := B3.ext x33
    replace bt := bt.ext x33
    replace B4 := B4.ext x33
    replace B5 := B5.ext x33
    replace et := x33.at et
    replace e19 := x33.at e19
    exact ⟨_, _, rfl, e33, B3.app B5, (fun z => nv2 (List.append_eq_nil_iff.mp z).1), by rw [List.length_append, z2, z5]; decide, s33, sub n33⟩
end
end Dh

/-! DhX0 -/
set_option Elab.async false
set_option linter.all false
set_option maxRecDepth 100000
set_option maxHeartbeats 4000000

/-! Own exception classes over Exception, made by position or by keywords. -/
namespace PySem
namespace HandSPX
open Builtin Builtin.ObjectAttr
abbrev bmX : List Value := [.type "Exception", .type "BaseException", .type "object"]
section
variable {M : Model} {A : Around} {E : Value → Shared → Prop} {h : Heap} {g : Array GenState} {d : Drawn} {t : Nat} {os : OsState}
variable {nm q : Str} {C N : Addr} {bs bm bmB : List Value} {hdct : Bool} {sn : List Str} {sub : List Value} {ab : Bool} {col : Option Bool} {dd : Option Addr} {k0 k1 k2 k3 k5 : Option Value} {B newId initId : String}
theorem kwx_check (F : ExcBaseFacts B newId initId bmB) (same : ∀ Y : String, bm.contains (.type Y) = bmB.contains (.type Y)) {rest : List Value} {kw : List (Str × Value)} {Q : Unit → Shared → Prop}
    (cl : h.get? C = some (excClassObj nm q C N bs bm hdct sn sub ab col dd k0 k1 k2 k3 k5 newId)) (go : Q () ⟨h, g, d, t, os⟩) : wpAny M A (checkBuiltinCall newId ⟨.ref C :: rest, kw⟩) Q E ⟨h, g, d, t, os⟩ := by
  have isB : (Value.ref C :: bm).contains (.type B) = true := by rw [List.contains_cons, same, F.hasB, Bool.or_true]
  have star := F.noStar
  simp only [checkBuiltinCall, F.newKind, F.newSplit, F.newRow]
  repeat (first | refine wpAny_loadPart_at cl ?_ | (refine wpAny_isSubtype_exc cl ?_; rw [isB]) | refine wpAny_staticBase_exc cl ?_ | refine wpAny_madeBy_exc cl ?_ | simp only [bne_self_eq_false, Bool.false_eq_true, if_false] | wp_step)
  exact go
end
section
variable {prog : Program} {w : World} {A : Around} {E : Value → Shared → Prop} {R : Result → Shared → Prop} {h : Heap} {g : Array GenState} {d : Drawn} {t : Nat} {os : OsState}
variable {nm q : Str} {C N : Addr} {bs bm bmB : List Value} {hdct : Bool} {sn : List Str} {sub : List Value} {ab : Bool} {col : Option Bool} {dd : Option Addr} {k0 k1 k2 k3 k5 : Option Value} {B newId initId : String}
theorem kwx_new (F : ExcBaseFacts B newId initId bmB) (same : ∀ Y : String, bm.contains (.type Y) = bmB.contains (.type Y)) {rest : List Value} {kw : List (Str × Value)}
    (cl : h.get? C = some (excClassObj nm q C N bs bm hdct sn sub ab col dd k0 k1 k2 k3 k5 newId)) (few : rest.length ≤ sizeLine)
    (go : R (.ok (.ret (.ref (h.objs.size + 1)))) ⟨(h.push (W.kdv_tup rest)).push (excO C h.objs.size), g, d, t, os⟩) :
    codeAny (model prog w) A (.builtin newId ⟨.ref C :: rest, kw⟩) R ⟨h, g, d, t, os⟩ := by
  have ends := F.ends
  have isB : (Value.ref C :: bm).contains (.type B) = true := by rw [List.contains_cons, same, F.hasB, Bool.or_true]
  have isA : (Value.ref C :: bm).contains (.type "AttributeError") = false := by rw [List.contains_cons, same, F.noAttr] <;> rfl
  have isN : (Value.ref C :: bm).contains (.type "NameError") = false := by rw [List.contains_cons, same, F.noName] <;> rfl
  refine codeAny_builtinAt F.entry ?_
  unfold Builtin.«BaseException.__new__»
  refine wpAt_bind ?_
  show wpAt _ _ _ (stack >>= _) _ _ _
  refine wpAt_bind (wpAt_stack fun p below => wpAt_of_wpAny ?_)
  wp_walk
  refine wpAt_of_wpAny ?_
  rw [F.owner]
  repeat (first | with_reducible refine wpAny_madeHere_exc F.canon cl ?_ | with_reducible refine wpAny_loadPart_at cl ?_ | (with_reducible refine wpAny_isSubtype_exc cl ?_; first | rw [isB] | rw [isA] | rw [isN]) | wp_step)
  show R _ _
  rw [Heap.size_push]
  exact go
theorem kwx_type (F : ExcBaseFacts B newId initId bmB) (same : ∀ Y : String, bm.contains (.type Y) = bmB.contains (.type Y)) {rest : List Value} {kw : List (Str × Value)} {fI : Addr} {Q : Fin → Shared → Prop}
    (cl : h.get? C = some (excClassObj nm q C N bs bm hdct sn sub ab col dd k0 k1 k2 k3 k5 newId)) (few : rest.length ≤ sizeLine)
    (ini : W.Looks (model prog w) h (typeLookup (.ref C) "__init__") (some (.ref fI))) (bnd : ∀ self, W.Looks (model prog w) h (bindSpecial (.ref fI) self) (.ref fI, [self]))
    (go : codeAny (model prog w) A (.call (.ref fI) ⟨.ref (h.objs.size + 1) :: rest, kw⟩)
      (fun r s' => match r with | .ok (.ret v) => v = .none ∧ Q (.done (.ret (.ref (h.objs.size + 1)))) s' | .ok _ => False | .error e => E e s') ⟨(h.push (W.kdv_tup rest)).push (excO C h.objs.size), g, d, t, os⟩) :
    wpAny (model prog w) A (Builtin.«type.__call__» ⟨.ref C :: rest, kw⟩) Q E ⟨h, g, d, t, os⟩ := by
  repeat (first | with_reducible refine wpAny_loadPart_at cl ?_ | with_reducible refine wpAny_madeBy_exc cl ?_ | wp_step)
  refine codeAny_call_builtin_code (Code.quiet_builtin _ F.quiet) (kwx_check F same cl ?_)
  refine kwx_new F same cl few ?_
  show wpAny _ _ _ _ _ _
  have kp : ∀ b o, h.get? b = some o → ((h.push (W.kdv_tup rest)).push (excO C h.objs.size)).get? b = some o := fun b o e => Heap.get?_push_of_some _ (Heap.get?_push_of_some _ e)
  have cl1 := kp _ _ cl
  have it : ((h.push (W.kdv_tup rest)).push (excO C h.objs.size)).get? (h.objs.size + 1) = some (excO C h.objs.size) := by heap_get
  have isC : (Value.ref C :: bm).contains (.ref C) = true := by simp
  have ini1 := ini.keeps kp
  have bnd1 := (bnd (.ref (h.objs.size + 1))).keeps kp
  unfold isInstance
  repeat (first | with_reducible refine wpAny_loadPart_at it ?_ | (with_reducible refine wpAny_isSubtype_exc cl1 ?_; rw [isC]) | wp_step)
  show wpAny _ _ (typeLookup (.ref C) _) _ _ _
  refine ini1.at (wpAny_holding (wpAny_bind (bnd1.at (wpAny_bind (wpAny_call (codeAny_mono go fun r s' z => ?_))))))
  rcases r with e | (v | _ | _ | _) <;> first | exact z | exact z.elim | skip
  obtain ⟨rfl, z⟩ := z
  first
    | exact wpAny_pure (wpAny_pure z)
    | (wp_walk; exact z)
theorem kwx_call (F : ExcBaseFacts B newId initId bmB) (same : ∀ Y : String, bm.contains (.type Y) = bmB.contains (.type Y)) {rest : List Value} {kw : List (Str × Value)} {fI : Addr}
    (cl : h.get? C = some (excClassObj nm q C N bs bm hdct sn sub ab col dd k0 k1 k2 k3 k5 newId)) (few : rest.length ≤ sizeLine)
    (ini : W.Looks (model prog w) h (typeLookup (.ref C) "__init__") (some (.ref fI))) (bnd : ∀ self, W.Looks (model prog w) h (bindSpecial (.ref fI) self) (.ref fI, [self]))
    (go : codeAny (model prog w) (A.under (.builtin "type.__call__" ⟨.ref C :: rest, kw⟩)) (.call (.ref fI) ⟨.ref (h.objs.size + 1) :: rest, kw⟩) (W.InitBack (h.objs.size + 1) R)
      ⟨(h.push (W.kdv_tup rest)).push (excO C h.objs.size), g, d, t, os⟩) :
    codeAny (model prog w) A (.call (.ref C) ⟨rest, kw⟩) R ⟨h, g, d, t, os⟩ := by
  have look := tc_lookup
  have bind := tc_bind (.ref C)
  have ty : (⟨h, g, d, t, os⟩ : Shared).TypeIs (.ref C) "type" := ⟨_, cl, rfl⟩
  refine codeAny_of_tree ?_
  show wpAny _ _ (callAny (.ref C) _) _ _ _
  repeat (any_goals (first | assumption | with_reducible refine wpAny_loadPart_at cl ?_ | wp_step))
  refine ⟨rfl, ?_⟩
  refine codeAny_call_builtin_at (Code.quiet_builtin _ (by decide +kernel)) entry_typeCall (wpAny_check_type_call_sub cl (kwx_type F same cl few ini bnd ?_))
  refine codeAny_mono go fun r s' z => ?_
  rcases r with e | (v | _ | _ | _) <;> exact z
end
end HandSPX
end PySem

/-! DhX1 -/
set_option Elab.async false
set_option linter.all false
set_option maxRecDepth 100000
set_option maxHeartbeats 4000000
namespace PySem
namespace HandSPX
open Builtin Builtin.ObjectAttr
section
variable {prog : Program} {w : World} {A : Around} {E : Value → Shared → Prop} {R : Result → Shared → Prop} {hp : Heap} {g : Array GenState} {d : Drawn} {t : Nat} {os : OsState}
/-- the first field of an exception of an own class over Exception -/
theorem osx_first {K : W.Frag} {name : Str} {tk : Tok} {v : Value} {x C : Addr} {fv : Array Value} (kin : K.In hp) (at_ : hp.get? x = some { cls := .ref C, data := .fields fv }) (over : W.excOver K C bmX = true) (hd : W.hasDictIn K C = true) (tak : W.takerIn K C name = some none)
    (go : ∀ h' tk' dx, (∀ b o, b ≠ x → hp.get? b = some o → h'.get? b = some o) → hp.objs.size ≤ dx → dx ≠ x → h'.get? x = some { cls := .ref C, dict := some dx, data := .fields fv } →
      h'.Ns1 dx (fun y => if y = name then some v else none) → R (.ok (.ret .none)) ⟨h', g, d, tk', os⟩) :
    codeAny (model prog w) A (.call (.builtin "object.__setattr__") ⟨[.ref x, .str name tk, v], []⟩) R ⟨hp, g, d, t, os⟩ := by
  have J : W.InstAt hp x { cls := .ref C, data := .fields fv } C none := ⟨at_, rfl, rfl, trivial⟩
  have far : x ≠ hp.objs.size := Nat.ne_of_lt (Heap.lt_size at_)
  obtain ⟨cd, hcd, hdc⟩ := W.any_some hd
  have clsL : W.Looks (model prog w) hp (classData C) cd := W.looks_clsIn kin hcd
  refine W.osa_openX (s := ⟨hp, g, d, t, os⟩) F.store_Exception kin J over tak fun b => ?_
  show wpAny _ _ (storeInOwnDict (.ref x) (.ref C) (.str name tk) name v b) _ _ _
  obtain ⟨nm, bs, mro, ns, qn, hd', sn, sb, ab, col, del⟩ := cd
  dsimp only at hdc
  subst hdc
  unfold storeInOwnDict ownDictForStores
  repeat (first | with_reducible refine store_in_new ?_ ?_ | with_reducible refine wpAny_loadPart_at at_ ?_ | with_reducible refine clsL.at ?_ | wp_step)
  · exact ⟨_, #[], _, (Heap.get?_update_ne _ _ _ _ far.symm).trans (Heap.get?_push_at rfl rfl), rfl, fun e he => absurd he (by simp), fun _ => rfl⟩
  · intro h' tk' hn' hs
    have at1 : (hp.push { cls := .type "dict", data := .dict #[] }).get? x = some { cls := .ref C, data := .fields fv } := Heap.get?_push_of_some _ at_
    refine go h' tk' hp.objs.size (fun b o hb ho => ?_) (Nat.le_refl _) far.symm ((hs.2 x far).trans (Heap.get?_update_self _ at1 rfl)) hn'
    exact (hs.2 b (Nat.ne_of_lt (Heap.lt_size ho))).trans ((Heap.get?_update_ne _ _ _ _ hb).trans (Heap.get?_push_of_some _ ho))
end
end HandSPX
end PySem
namespace Dh
open PySem PySem.Spec PyProof.Rows L2
/-- an own class over Exception, its __init__ a def -/
structure DexC (K : PySem.W.Frag) (C : Addr) : Prop where
  ini : PySem.W.excInitIn K C HandSPX.bmX "Exception.__new__" = true
  ovr : PySem.W.excOver K C HandSPX.bmX = true
  tak : PySem.W.takerIn K C "thing" = some none
  no : PySem.W.findIn K (.ref C) "thing" = some none
  sa : PySem.W.findIn K (.ref C) "__setattr__" = some (some (.builtin "object.__setattr__"))
  ga : PySem.W.findIn K (.ref C) "__getattribute__" = some (some (.builtin "BaseException.__getattribute__"))
  gg : PySem.W.findIn K (.ref C) "__getattr__" = some none
  exC : PySem.W.subIn K (.ref C) (.type "BaseException") = some true
  tyC : PySem.W.typeIn K (.ref C) = some (.type "type")
  kC : PySem.W.keepIn K (.ref C) = true
  hdC : PySem.W.hasDictIn K C = true
  isC : (PySem.W.clsIn K C).isSome = true
  cla : PySem.W.findIn K (.ref C) "__class__" = some (some (.builtin "object.__class__"))
  hn : PySem.W.specialIn K (.builtin "object.__class__") "__get__" = some (some (.builtin "getset_descriptor.__get__"))
  ht : PySem.W.takesIn K (.builtin "object.__class__") = some true
  hm : PySem.W.mroIn K C (.type "object") = some true
/-- an exception with its thing -/
structure Ex (H : Hp) (a C : Addr) (y : V) : Prop where
  e : ∃ dx, H a = some (exo a C (some dx)) ∧ H dx = some (exd dx [("thing", y)])
section
variable {X : Cx} {pins : List (Addr × Obj)} {σ : L2.St} {H : Hp} {s : Shared} {a C dx : Addr} {f : Str} {y : V} {u : Value} {Q : Unit → Shared → Prop} {E : Value → Shared → Prop} {A : Around}
theorem thing_set (T : DexC X.K C) (I : Inv X pins σ H s) (e : H a = some (exo a C none)) (ry : RelV y u)
    (go : ∀ dx s', H dx = none → dx ≠ a → Inv X pins σ (upd (upd H dx (exd dx [("thing", y)])) a (exo a C (some dx))) s' → Q () s') : wpAny (model X.prog X.w) A (setAttr (.ref a) "thing" u) Q E s := by
  obtain ⟨t1, ho⟩ := exo_at I.hok e
  obtain ⟨hp, g, d, t, os⟩ := s
  refine PySem.W.set_plain I.kIn (ox := { cls := .ref C, dict := none, data := .fields #[.ref t1, .none, .none, .none, .bool false, .none] }) (od := none) ⟨ho, rfl, rfl, trivial⟩ T.sa ?_
  refine PySem.HandSPX.osx_first I.kIn ho T.ovr T.hdC T.tak (fun h' tk' dx kp big dne hx hn => ?_)
  have free : H dx = none := I.hok.fresh big
  have apart : ∀ {b : Addr} {o : Obj}, hp.get? b = some o → b ≠ dx := fun {b o} z => Nat.ne_of_lt (Nat.lt_of_lt_of_le (Heap.lt_size z) big)
  have nota : ∀ {b : Addr}, H b = none → b ≠ a := fun {b} n z => by rw [z, e] at n; cases n
  have other : ∀ {b : Addr} {o : HO}, H b = some o → b ≠ a → (upd (upd H dx (exd dx [("thing", y)])) a (exo a C (some dx))) b = some o := fun {b o} z ne => by
    rw [upd_ne ne, upd_ne (ne_of_none z free)]; exact z
  have un : Un X.fs [] H (upd (upd H dx (exd dx [("thing", y)])) a (exo a C (some dx))) hp h' :=
    ⟨fun b o z n _ _ => kp b o (nota n) z, fun b o z n _ _ => ⟨o.slots, kp b o (nota n) z⟩, fun b o z n _ => by rw [upd_ne (nota n), upd_ne (apart z)]; exact n,
      fun b o z _ => if hb : b = a then ⟨_, (congrArg h'.get? hb).trans hx⟩ else ⟨o, kp b o hb z⟩, fun b xs z => other z (at_ne e z exo_tup), fun b o v z => other z (at_ne e z exo_frz),
      fun b ps z => ⟨#[], by rw [other z (at_ne e z exo_tbl)]; simp⟩⟩
  refine go dx _ free dne (I.un (t' := tk') un fun b o z => ?_)
  by_cases hb : b = a
  · subst hb
    rw [upd_same] at z
    cases z
    exact exo_ok hx
  rw [upd_ne hb] at z
  by_cases hd : b = dx
  · subst hd
    rw [upd_same] at z
    cases z
    exact exd_ok hn (relO_put (fs := []) ry fun g => True.intro)
  rw [upd_ne hd] at z
  refine (I.hok b o z).stay (fun c v hc q => kp c v (hc.elim (fun hc => hc ▸ hb) fun hc => at_ne e hc exo_own) q) (fun c hc => other hc (at_ne e hc exo_own)) (fun c xs hc => other hc (at_ne e hc exo_tup))
end
end Dh

/-! DhX2 -/
set_option Elab.async false
set_option linter.all false
set_option maxRecDepth 100000
set_option maxHeartbeats 4000000
namespace Dh
open PySem PySem.Spec PyProof.Rows L2
/-- self.thing = thing -/
def tThing (K : PySem.W.Frag) (to te : TE) : TS := fun D σ H => te σ H fun y H1 => to σ H1 fun x H2 => ∃ a C : Addr, x = .ref a ∧ DexC K C ∧ H2 a = some (exo a C none) ∧
  ∀ dx, H2 dx = none → dx ≠ a → D.nx σ (upd (upd H2 dx (exd dx [("thing", y)])) a (exo a C (some dx)))
def spIni (K : PySem.W.Frag) : Sp := fun vs H Q _ => ∃ (a C : Addr) (y : V), vs = [.ref a, y] ∧ DexC K C ∧ H a = some (exo a C none) ∧
  ∀ dx, H dx = none → dx ≠ a → Q .non (upd (upd H dx (exd dx [("thing", y)])) a (exo a C (some dx)))
abbrev inside (i : Nat) : Stmt := match top i with
  | .ClassDef (body := b) .. => b.getD 0 (.Pass ⟨0, 0, 0, 0⟩)
  | _ => .Pass ⟨0, 0, 0, 0⟩
/-- how the arguments of an __init__ bind -/
structure Bth (K : PySem.W.Frag) (fd : FuncData) : Prop where
  p : Binds K fd ["self", "thing"] []
  k : ∀ (s : Shared) (v u : Value), BindsTo s fd ⟨[v], [("thing", u)]⟩ [("self", v), ("thing", u)]
/-- a class of errors, ready to be called -/
structure Dx (P : Program) (w : World) (K : PySem.W.Frag) (mg : Str → Option Value) (base : Heap) (x : Str) (C f : Addr) (fd : FuncData) : Prop where
  c : DexC K C
  ok : FnOk P w K mg base CX0 1 f fd ["self", "thing"] (spIni K)
  m : mg x = some (.ref C)
  i : PySem.W.findIn K (.ref C) "__init__" = some (some (.ref f))
  t : PySem.W.typeIn K (.ref f) = some (.type "function")
  b : Bth K fd
section
variable {X : Cx}
theorem ps_thing {o e : Expr} {to te : TE} {p' pos : Pos} (ho : PE X o to) (he : PE X e te) (hs : swapsWith e (some (.Attribute o "thing" p')) pos.line X.env = pure false := by rfl) : PS X (.Assign [.Attribute o "thing" p'] e pos) (tThing X.K to te) := by
  refine ⟨fun pins s σ H D I h => plainObj_wpAny_Assign_Attribute (thn (he.run pins s σ H _ I h) fun v s1 ⟨y, H1, I1, r1, q1⟩ => ?_) hs⟩
  refine thn (ho.run pins s1 σ H1 _ I1 q1) fun u s2 ⟨x, H2, I2, r2, a, C, ex, T, ea, q⟩ => ?_
  subst ex
  obtain rfl : u = Value.ref a := r2
  exact thing_set T I2 ea r1 fun dx s' n ne J => ⟨σ, _, J, q dx n ne⟩
section
variable {P : Program} {w : World} {K : PySem.W.Frag} {mg : Str → Option Value} {base : Heap}
theorem okIni2 {f : Addr} {fd : FuncData} (F : Fun K "__init__" "BadProgram.__init__" (inside 2) f fd) : FnOk P w K mg base CX0 1 f fd ["self", "thing"] (spIni K) := by
  have sc : FnScope ["self", "thing"] ["self", "thing"] (defScope (inside 2)) := ⟨rfl, rfl, rfl, by decide +kernel, rfl, by decide +kernel, by decide +kernel⟩
  refine F.ok sc (fun vs H Q E h => by obtain ⟨_, _, _, rfl, _⟩ := h; rfl) (fun cdv A outer s H vs Q E hr h => ?_)
  obtain ⟨a, C, y, rfl, T, e, k⟩ := h
  exact ⟨_, pss_one (ps_thing (pv 0) (pv 1)), _, rfl, _, rfl, a, C, rfl, T, e, k⟩
theorem okIni3 {f : Addr} {fd : FuncData} (F : Fun K "__init__" "BadText.__init__" (inside 3) f fd) : FnOk P w K mg base CX0 1 f fd ["self", "thing"] (spIni K) := by
  have sc : FnScope ["self", "thing"] ["self", "thing"] (defScope (inside 3)) := ⟨rfl, rfl, rfl, by decide +kernel, rfl, by decide +kernel, by decide +kernel⟩
  refine F.ok sc (fun vs H Q E h => by obtain ⟨_, _, _, rfl, _⟩ := h; rfl) (fun cdv A outer s H vs Q E hr h => ?_)
  obtain ⟨a, C, y, rfl, T, e, k⟩ := h
  exact ⟨_, pss_one (ps_thing (pv 0) (pv 1)), _, rfl, _, rfl, a, C, rfl, T, e, k⟩
theorem okIni4 {f : Addr} {fd : FuncData} (F : Fun K "__init__" "BadChecked.__init__" (inside 4) f fd) : FnOk P w K mg base CX0 1 f fd ["self", "thing"] (spIni K) := by
  have sc : FnScope ["self", "thing"] ["self", "thing"] (defScope (inside 4)) := ⟨rfl, rfl, rfl, by decide +kernel, rfl, by decide +kernel, by decide +kernel⟩
  refine F.ok sc (fun vs H Q E h => by obtain ⟨_, _, _, rfl, _⟩ := h; rfl) (fun cdv A outer s H vs Q E hr h => ?_)
  obtain ⟨a, C, y, rfl, T, e, k⟩ := h
  exact ⟨_, pss_one (ps_thing (pv 0) (pv 1)), _, rfl, _, rfl, a, C, rfl, T, e, k⟩
theorem okIni5 {f : Addr} {fd : FuncData} (F : Fun K "__init__" "BadWorld.__init__" (inside 5) f fd) : FnOk P w K mg base CX0 1 f fd ["self", "thing"] (spIni K) := by
  have sc : FnScope ["self", "thing"] ["self", "thing"] (defScope (inside 5)) := ⟨rfl, rfl, rfl, by decide +kernel, rfl, by decide +kernel, by decide +kernel⟩
  refine F.ok sc (fun vs H Q E h => by obtain ⟨_, _, _, rfl, _⟩ := h; rfl) (fun cdv A outer s H vs Q E hr h => ?_)
  obtain ⟨a, C, y, rfl, T, e, k⟩ := h
  exact ⟨_, pss_one (ps_thing (pv 0) (pv 1)), _, rfl, _, rfl, a, C, rfl, T, e, k⟩
theorem okIni6 {f : Addr} {fd : FuncData} (F : Fun K "__init__" "BadNumber.__init__" (inside 6) f fd) : FnOk P w K mg base CX0 1 f fd ["self", "thing"] (spIni K) := by
  have sc : FnScope ["self", "thing"] ["self", "thing"] (defScope (inside 6)) := ⟨rfl, rfl, rfl, by decide +kernel, rfl, by decide +kernel, by decide +kernel⟩
  refine F.ok sc (fun vs H Q E h => by obtain ⟨_, _, _, rfl, _⟩ := h; rfl) (fun cdv A outer s H vs Q E hr h => ?_)
  obtain ⟨a, C, y, rfl, T, e, k⟩ := h
  exact ⟨_, pss_one (ps_thing (pv 0) (pv 1)), _, rfl, _, rfl, a, C, rfl, T, e, k⟩
theorem okIni7 {f : Addr} {fd : FuncData} (F : Fun K "__init__" "BadKind.__init__" (inside 7) f fd) : FnOk P w K mg base CX0 1 f fd ["self", "thing"] (spIni K) := by
  have sc : FnScope ["self", "thing"] ["self", "thing"] (defScope (inside 7)) := ⟨rfl, rfl, rfl, by decide +kernel, rfl, by decide +kernel, by decide +kernel⟩
  refine F.ok sc (fun vs H Q E h => by obtain ⟨_, _, _, rfl, _⟩ := h; rfl) (fun cdv A outer s H vs Q E hr h => ?_)
  obtain ⟨a, C, y, rfl, T, e, k⟩ := h
  exact ⟨_, pss_one (ps_thing (pv 0) (pv 1)), _, rfl, _, rfl, a, C, rfl, T, e, k⟩
theorem okIni8 {f : Addr} {fd : FuncData} (F : Fun K "__init__" "BadName.__init__" (inside 8) f fd) : FnOk P w K mg base CX0 1 f fd ["self", "thing"] (spIni K) := by
  have sc : FnScope ["self", "thing"] ["self", "thing"] (defScope (inside 8)) := ⟨rfl, rfl, rfl, by decide +kernel, rfl, by decide +kernel, by decide +kernel⟩
  refine F.ok sc (fun vs H Q E h => by obtain ⟨_, _, _, rfl, _⟩ := h; rfl) (fun cdv A outer s H vs Q E hr h => ?_)
  obtain ⟨a, C, y, rfl, T, e, k⟩ := h
  exact ⟨_, pss_one (ps_thing (pv 0) (pv 1)), _, rfl, _, rfl, a, C, rfl, T, e, k⟩
theorem okIni9 {f : Addr} {fd : FuncData} (F : Fun K "__init__" "BadPromise.__init__" (inside 9) f fd) : FnOk P w K mg base CX0 1 f fd ["self", "thing"] (spIni K) := by
  have sc : FnScope ["self", "thing"] ["self", "thing"] (defScope (inside 9)) := ⟨rfl, rfl, rfl, by decide +kernel, rfl, by decide +kernel, by decide +kernel⟩
  refine F.ok sc (fun vs H Q E h => by obtain ⟨_, _, _, rfl, _⟩ := h; rfl) (fun cdv A outer s H vs Q E hr h => ?_)
  obtain ⟨a, C, y, rfl, T, e, k⟩ := h
  exact ⟨_, pss_one (ps_thing (pv 0) (pv 1)), _, rfl, _, rfl, a, C, rfl, T, e, k⟩
theorem okIni10 {f : Addr} {fd : FuncData} (F : Fun K "__init__" "BadDeed.__init__" (inside 10) f fd) : FnOk P w K mg base CX0 1 f fd ["self", "thing"] (spIni K) := by
  have sc : FnScope ["self", "thing"] ["self", "thing"] (defScope (inside 10)) := ⟨rfl, rfl, rfl, by decide +kernel, rfl, by decide +kernel, by decide +kernel⟩
  refine F.ok sc (fun vs H Q E h => by obtain ⟨_, _, _, rfl, _⟩ := h; rfl) (fun cdv A outer s H vs Q E hr h => ?_)
  obtain ⟨a, C, y, rfl, T, e, k⟩ := h
  exact ⟨_, pss_one (ps_thing (pv 0) (pv 1)), _, rfl, _, rfl, a, C, rfl, T, e, k⟩
end
/-- what stands behind such a call -/
def Qx (H : Hp) (a C : Addr) (y : V) : VK := fun v H2 => v = .non ∧ ∃ dx, H dx = none ∧ dx ≠ a ∧ H2 = upd (upd (upd H a (exo a C none)) dx (exd dx [("thing", y)])) a (exo a C (some dx))
theorem mkx_core {pins : List (Addr × Obj)} {σ : L2.St} {H : Hp} {s : Shared} {C f : Addr} {fd : FuncData} {x : Str} {us : List Value} {kw : List (Str × Value)} {y : V} {u : Value} {P : Value → Shared → Prop}
    (d : Dx X.prog X.w X.K X.mg X.base x C f fd) (room : Room 2 X.A) (I : Inv X pins σ H s) (r : RelV y u) (few : us.length ≤ sizeLine)
    (bt : ∀ (s : Shared) (v : Value), X.K.In s.heap → BindsTo s fd ⟨v :: us, kw⟩ [("self", v), ("thing", u)])
    (go : ∀ (a : Addr) (hp2 : Heap), s.heap.objs.size ≤ a → H a = none → (∀ b o, s.heap.get? b = some o → hp2.get? b = some o) → Inv X pins σ (upd H a (exo a C none)) { s with heap := hp2 } →
      ∀ (v : Value) (s' : Shared), CE X.stack X.prog X.w (upd H a (exo a C none)) { s with heap := hp2 } (Qx H a C y) v s' → P (.ref a) s') :
    wpAny (model X.prog X.w) X.A (call (.ref C) us kw) P X.xe s := by
  obtain ⟨nm, N, qn, bs, bm, hd, sn, sub, ab, col, dd, k0, k1, k2, k3, k5, hC, same⟩ := PySem.W.excInit_of I.kIn d.c.ini
  obtain ⟨hp, g, dr, tk, os⟩ := s
  have free : H (hp.objs.size + 1) = none := I.hok.fresh (Nat.le_succ _)
  have kp : ∀ b o, hp.get? b = some o → ((hp.push (PySem.W.kdv_tup us)).push (HandSPX.excO C hp.objs.size)).get? b = some o := fun b o e => Heap.get?_push_of_some _ (Heap.get?_push_of_some _ e)
  have it : ((hp.push (PySem.W.kdv_tup us)).push (HandSPX.excO C hp.objs.size)).get? (hp.objs.size + 1) = some (HandSPX.excO C hp.objs.size) := by heap_get
  have J : Inv X pins σ (upd H (hp.objs.size + 1) (exo (hp.objs.size + 1) C none)) ⟨(hp.push (PySem.W.kdv_tup us)).push (HandSPX.excO C hp.objs.size), g, dr, tk, os⟩ :=
    I.laid (t' := tk) (a := hp.objs.size + 1) (o := exo (hp.objs.size + 1) C none) (h' := (hp.push (PySem.W.kdv_tup us)).push (HandSPX.excO C hp.objs.size)) kp (Nat.le_succ _) (exo_ok it)
  have rel : Vals [V.ref (hp.objs.size + 1), y] [Value.ref (hp.objs.size + 1), u] := .cons rfl (.cons r .nil)
  have wish : spIni X.K [V.ref (hp.objs.size + 1), y] (upd H (hp.objs.size + 1) (exo (hp.objs.size + 1) C none)) (Qx H (hp.objs.size + 1) C y) E0 :=
    ⟨_, C, y, rfl, d.c, upd_same, fun dx n ne => ⟨rfl, dx, by rw [upd_ne ne] at n; exact n, ne, rfl⟩⟩
  refine wpAny_call (HandSPX.kwx_call F.excBase_Exception same hC few (PySem.W.looks_findIn I.kIn d.i) (fun self => PySem.W.bind_fn I.kIn self d.t) ?_)
  refine codeAny_mono (d.ok.run _ X.stack _ _ ⟨Value.ref (hp.objs.size + 1) :: us, kw⟩ [Value.ref (hp.objs.size + 1), u] _ (Qx H (hp.objs.size + 1) C y) E0 (room.make C us kw) (J.env0.make C us kw) (bt _ _ J.kIn) rel wish) fun res s' z => ?_
  cases res with
  | error er => exact z.elim
  | ok fl =>
    cases fl with
    | ret v =>
      have z2 := z
      obtain ⟨v', H2, _, _, _, _, rv, ev, _⟩ := z2
      subst ev
      exact ⟨rv, go _ _ (Nat.le_succ _) free kp J v s' z⟩
    | next => exact False.elim z
    | brk => exact False.elim z
    | cont => exact False.elim z
theorem Ex.kp {H H' : Hp} {a C : Addr} {y : V} (k : Kp [] H H') (h : Ex H a C y) : Ex H' a C y := by
  obtain ⟨dx, e1, e2⟩ := h.e
  exact ⟨dx, k _ _ e1 (by simp), k _ _ e2 (by simp)⟩
/-- C(e) as a value -/
def tMkx (C : Addr) (ta : TA) : TE := fun σ H Q => ta σ H fun vs H1 => ∃ y, vs = [y] ∧ ∀ a H2, H1 a = none → Ex H2 a C y → Kp [] H1 H2 → Q (.ref a) H2
theorem mkx_val {pins : List (Addr × Obj)} {σ : L2.St} {H : Hp} {s : Shared} {C f : Addr} {fd : FuncData} {x : Str} {us : List Value} {kw : List (Str × Value)} {y : V} {u : Value} {Q : VK}
    (d : Dx X.prog X.w X.K X.mg X.base x C f fd) (room : Room 2 X.A) (I : Inv X pins σ H s) (r : RelV y u) (few : us.length ≤ sizeLine)
    (bt : ∀ (s : Shared) (v : Value), X.K.In s.heap → BindsTo s fd ⟨v :: us, kw⟩ [("self", v), ("thing", u)])
    (q : ∀ a H2, H a = none → Ex H2 a C y → Kp [] H H2 → Q (.ref a) H2) : wpAny (model X.prog X.w) X.A (call (.ref C) us kw) (EP X pins σ Q) X.xe s := by
  refine mkx_core d room I r few bt fun a hp2 _ free _ J v s' z => ?_
  obtain ⟨_, H2, J2, _, _, dx, n, ne, e⟩ := J.after z
  subst e
  refine ⟨.ref a, _, J2, rfl, q a _ free ⟨dx, upd_same, by rw [upd_ne ne, upd_same]⟩ fun b o hb _ => ?_⟩
  rw [upd_ne (ne_of_none hb free), upd_ne (ne_of_none hb n), upd_ne (ne_of_none hb free)]
  exact hb
/-- C(e) that is raised -/
def tMkr (C : Addr) (ta : TA) : L2.St → Hp → XK → Prop := fun σ H Q => ta σ H fun vs H1 => ∃ y, vs = [y] ∧ ∀ dx, H1 dx = none → Q (.ref C) (some dx) (upd H1 dx (.xd [("thing", y)]))
theorem mkx_raise {pins : List (Addr × Obj)} {σ : L2.St} {H : Hp} {s : Shared} {C f : Addr} {fd : FuncData} {x : Str} {us : List Value} {kw : List (Str × Value)} {y : V} {u : Value} {Q : XK}
    (d : Dx X.prog X.w X.K X.mg X.base x C f fd) (room : Room 2 X.A) (I : Inv X pins σ H s) (r : RelV y u) (few : us.length ≤ sizeLine)
    (bt : ∀ (s : Shared) (v : Value), X.K.In s.heap → BindsTo s fd ⟨v :: us, kw⟩ [("self", v), ("thing", u)])
    (q : ∀ dx, H dx = none → Q (.ref C) (some dx) (upd H dx (.xd [("thing", y)]))) : wpAny (model X.prog X.w) X.A (call (.ref C) us kw) (MkP X pins σ Q) X.xe s := by
  refine mkx_core d room I r few bt fun a hp2 big free kp J v s' z => ?_
  obtain ⟨_, H2, os2, bare, un, hok, _, _, dx, n, ne, e⟩ := z
  subst e
  obtain ⟨hp, g, dr, tk, os⟩ := s
  obtain ⟨h2, g2, d2, t2, os'⟩ := s'
  refine mk_end (raises_own d.c.exC d.c.tyC) I big kp un hok os2 bare upd_same (by rw [upd_ne ne, upd_same]) n ?_
  have e : upd (del (upd (upd (upd H a (exo a C none)) dx (exd dx [("thing", y)])) a (exo a C (some dx))) a) dx (.xd [("thing", y)]) = upd H dx (.xd [("thing", y)]) := by
    funext b
    by_cases hb : b = dx
    · rw [hb, upd_same, upd_same]
    · rw [upd_ne hb, upd_ne hb]
      by_cases ha : b = a
      · rw [ha, del_same, free]
      · rw [del_ne ha, upd_ne ha, upd_ne hb, upd_ne ha]
  rw [e]
  exact q dx n
section
variable {x : Str} {C f : Addr} {fd : FuncData} {e : Expr} {te : TE} {p pos kp : Pos}
theorem bt_pos (d : Dx X.prog X.w X.K X.mg X.base x C f fd) {u : Value} : ∀ (s : Shared) (v : Value), X.K.In s.heap → BindsTo s fd ⟨v :: [u], []⟩ [("self", v), ("thing", u)] := fun s v k => d.b.p s [v, u] k rfl
theorem bt_kw (d : Dx X.prog X.w X.K X.mg X.base x C f fd) {u : Value} : ∀ (s : Shared) (v : Value), X.K.In s.heap → BindsTo s fd ⟨v :: [], [("thing", u)]⟩ [("self", v), ("thing", u)] := fun s v _ => d.b.k s v u
theorem pe_mkx (d : Dx X.prog X.w X.K X.mg X.base x C f fd) (room : Room 2 X.A) (hg : Gl X x) (ha : PE X e te) (na : starEach [e] X.env = [(false, eval e X.env)] := by rfl) (hdb : (x == ("__debug__" : Str)) = false := by decide) :
    PE X (.Call (.Name x p) [e] [] pos) (tMkx C (tCons te tNil)) := by
  refine ⟨fun pins s σ H Q I h => wpAny_Call_Name_kw (ld_glob I hg d.m ?_ hdb)⟩
  refine PySem.W.callWith_K (h₀ := X.base) I.ok.mod.kin d.c.kC (thn ((pa_cons ha pa_nil na).run pos pins s σ H _ I h) fun us s1 ⟨vs, H1, I1, r1, q⟩ => ⟨I1.kIn, ?_⟩) na
  obtain ⟨y, rfl, q⟩ := q
  obtain ⟨u, rfl, ru⟩ := vals1 r1
  exact mkx_val d room I1 ru (by show 1 ≤ sizeLine; decide) (bt_pos d) q
theorem pe_mkxK (d : Dx X.prog X.w X.K X.mg X.base x C f fd) (room : Room 2 X.A) (hg : Gl X x) (ha : PE X e te) (hdb : (x == ("__debug__" : Str)) = false := by decide) :
    PE X (.Call (.Name x p) [] [⟨some "thing", e, kp⟩] pos) (tMkx C (tCons te tNil)) := by
  refine ⟨fun pins s σ H Q I h => wpAny_Call_Name_kw (ld_glob I hg d.m ?_ hdb)⟩
  refine PySem.W.callWith_KW0 (h₀ := X.base) I.ok.mod.kin d.c.kC (by rfl) (thn ((pk_cons (nm := some "thing") (kpos := kp) ha pk_nil).run pos pins s σ H _ I h) fun us s1 ⟨vs, H1, I1, r1, q⟩ => ⟨I1.kIn, ?_⟩)
  obtain ⟨y, rfl, q⟩ := q
  obtain ⟨u, rfl, ru⟩ := vals1 r1
  exact mkx_val (us := []) d room I1 ru (by decide) (bt_kw d) q
theorem pmk_mkx (d : Dx X.prog X.w X.K X.mg X.base x C f fd) (room : Room 2 X.A) (hg : Gl X x) (ha : PE X e te) (na : starEach [e] X.env = [(false, eval e X.env)] := by rfl) (hdb : (x == ("__debug__" : Str)) = false := by decide) :
    PMk X (.Call (.Name x p) [e] [] pos) (tMkr C (tCons te tNil)) := by
  refine fun pins s σ H Q I h => wpAny_Call_Name_kw (ld_glob I hg d.m ?_ hdb)
  refine PySem.W.callWith_K (h₀ := X.base) I.ok.mod.kin d.c.kC (thn ((pa_cons ha pa_nil na).run pos pins s σ H _ I h) fun us s1 ⟨vs, H1, I1, r1, q⟩ => ⟨I1.kIn, ?_⟩) na
  obtain ⟨y, rfl, q⟩ := q
  obtain ⟨u, rfl, ru⟩ := vals1 r1
  exact mkx_raise d room I1 ru (by show 1 ≤ sizeLine; decide) (bt_pos d) q
theorem pmk_mkxK (d : Dx X.prog X.w X.K X.mg X.base x C f fd) (room : Room 2 X.A) (hg : Gl X x) (ha : PE X e te) (hdb : (x == ("__debug__" : Str)) = false := by decide) :
    PMk X (.Call (.Name x p) [] [⟨some "thing", e, kp⟩] pos) (tMkr C (tCons te tNil)) := by
  refine fun pins s σ H Q I h => wpAny_Call_Name_kw (ld_glob I hg d.m ?_ hdb)
  refine PySem.W.callWith_KW0 (h₀ := X.base) I.ok.mod.kin d.c.kC (by rfl) (thn ((pk_cons (nm := some "thing") (kpos := kp) ha pk_nil).run pos pins s σ H _ I h) fun us s1 ⟨vs, H1, I1, r1, q⟩ => ⟨I1.kIn, ?_⟩)
  obtain ⟨y, rfl, q⟩ := q
  obtain ⟨u, rfl, ru⟩ := vals1 r1
  exact mkx_raise (us := []) d room I1 ru (by decide) (bt_kw d) q
end
end
end Dh

/-! DhX3 -/
set_option Elab.async false
set_option linter.all false
set_option maxRecDepth 100000
set_option maxHeartbeats 4000000
namespace Dh
open PySem PySem.Spec PyProof.Rows L2
/-- isinstance(e, c), e an exception that stands as a value -/
def rIsX (K : PySem.W.Frag) : List V → Hp → VK → Prop := fun xs H Q => ∃ (a C : Addr) (y c : V) (cv : Value) (b : Bool), xs = [.ref a, c] ∧ ClsV c cv ∧ DexC K C ∧ Ex H a C y ∧ PySem.W.kitOne K (.ref C) cv = some b ∧ Q (.bl b) H
/-- .. a tuple of classes -/
def rIsXT (K : PySem.W.Frag) : List V → Hp → VK → Prop := fun xs H Q => ∃ (a C tp : Addr) (y : V) (cs : List V) (us : List Value) (b : Bool), xs = [.ref a, .ref tp] ∧ H tp = some (.tup cs) ∧ Paired ClsV cs us ∧ DexC K C ∧ Ex H a C y ∧ PySem.W.kitAny K (.ref C) us = some b ∧ Q (.bl b) H
/-- e.thing -/
def tXt (K : PySem.W.Frag) (te : TE) : TE := fun σ H Q => te σ H fun x H1 => ∃ (a C : Addr) (y : V), x = .ref a ∧ DexC K C ∧ Ex H1 a C y ∧ Q y H1
section
variable {X : Cx}
theorem Ex.inst {pins : List (Addr × Obj)} {σ : L2.St} {H : Hp} {s : Shared} {a C : Addr} {y : V} (I : Inv X pins σ H s) (e : Ex H a C y) : ∃ (ox od : Obj) (u : Value), PySem.W.InstAt s.heap a ox C (some od) ∧ PySem.W.lookIn "thing" od = some (some u) ∧ RelV y u := by
  obtain ⟨dx, e1, e2⟩ := e.e
  obtain ⟨t1, ho⟩ := exo_at I.hok e1
  obtain ⟨mA, hns, rel⟩ := exd_at I.hok e2
  obtain ⟨od, hd, hl⟩ := lookIn_ns hns
  obtain ⟨u, hu, ru⟩ := RelO.some_of (v := y) (o := mA "thing") (rel "thing")
  exact ⟨_, od, u, ⟨ho, rfl, rfl, hd⟩, by rw [hl, hu], ru⟩
theorem DexC.kit {K : PySem.W.Frag} {C a : Addr} {ox : Obj} {od : Option Obj} (d : DexC K C) : PySem.W.KitX K (.ref a) (.ref C) (fun h => PySem.W.InstAt h a ox C od) :=
  PySem.W.kitx_exc d.isC d.ga d.gg d.exC d.cla d.hn d.ht d.hm
theorem call_isX : CallR X (.builtin "isinstance") (rIsX X.K) := by
  intro pins s σ H xs us Q I r h
  obtain ⟨a, C, y, c, cv, b, rfl, k, d, ex, e, q⟩ := h
  obtain ⟨u1, u2, rfl, r1, r2⟩ := vals2 r
  cases (show u1 = Value.ref a from r1)
  have e2 := k.eq r2
  subst e2
  obtain ⟨ox, od, _, J, _, _⟩ := ex.inst I
  exact PySem.W.kia_one d.kit I.kIn J e (fun z => nomatch z) fun tk => ⟨.bl b, H, I.tok tk, rfl, q⟩
theorem call_isXT : CallR X (.builtin "isinstance") (rIsXT X.K) := by
  intro pins s σ H xs us Q I r h
  obtain ⟨a, C, tp, y, cs, ws, b, rfl, hT, k, d, ex, e, q⟩ := h
  obtain ⟨u1, u2, rfl, r1, r2⟩ := vals2 r
  cases (show u1 = Value.ref a from r1)
  cases (show u2 = Value.ref tp from r2)
  obtain ⟨ox, od, _, J, _, _⟩ := ex.inst I
  obtain ⟨_, its, rv, o, h1, h2, n, h3⟩ := (show ObjOk X.prog X.w H s.heap tp (.tup cs) from I.hok tp _ hT)
  have same := ClsV.all k rv
  subst same
  obtain ⟨oc, odd, dt, sl⟩ := o
  simp only at h2 h3
  subst h2 h3
  exact PySem.W.kia_tup d.kit I.kIn J h1 e (fun z => nomatch z) fun tk => ⟨.bl b, H, I.tok tk, rfl, q⟩
theorem pe_xt {e : Expr} {te : TE} {pos : Pos} (he : PE X e te) (hb : attributeBase e "thing" X.env (eval e X.env) = eval e X.env := by rfl) : PE X (.Attribute e "thing" pos) (tXt X.K te) := by
  refine ⟨fun pins s σ H Q I h => attr_of hb (thn (he.run pins s σ H _ I h) fun u s1 hh => ?_)⟩
  obtain ⟨x, H1, I1, rx, a, C, y, ex, d, E1, q⟩ := hh
  subst ex
  obtain rfl : u = Value.ref a := rx
  obtain ⟨ox, od, v, J, hl, rv⟩ := E1.inst I1
  exact HandSPX.exc_get I1.kIn J d.ga d.gg d.exC (PySem.W.findObj_own d.hdC d.no rfl hl) (handed_of rv) ⟨y, H1, I1.tok _, rv, q⟩
end
end Dh

/-! DhX4 -/
set_option Elab.async false
set_option linter.all false
set_option maxRecDepth 100000
set_option maxHeartbeats 4000000
/-! try with several clauses «except X as n», all of them with one name. -/
namespace Dh
open PySem PySem.Spec PyProof.Rows L2
/-- what is wished behind a suite: the name n is gone -/
def gone (i : Nat) (D : Ends) : Ends := { nx := fun σ H => D.nx (σ.set i none) H, rt := D.rt, bk := fun σ H => D.bk (σ.set i none) H, ct := fun σ H => D.ct (σ.set i none) H }
/-- what the clauses wish of an exception of the body, one after the other -/
def wAll (K : PySem.W.Frag) (i : Nat) (Wout : WX) (D : Ends) : List (Value × (Addr → Value → Option Addr → TS)) → WX
  | [] => Wout
  | (c, ts) :: r => fun cls d σ H => ∃ b, PySem.W.exmOne K cls c = some b ∧ (b = true → ∀ a, H a = none → ts a cls d (gone i D) (σ.set i (some (.ref a))) H) ∧ (b = false → wAll K i Wout D r cls d σ H)
inductive AsOk (X : Cx) (i : Nat) (n : Str) : List ExceptHandler → List (Value × (Addr → Value → Option Addr → TS)) → Prop
  | nil : AsOk X i n [] []
  | cons {x : Str} {c : Value} {ts : Addr → Value → Option Addr → TS} {b₀ : Stmt} {suite : List Stmt} {np pos' : Pos} {hds : List ExceptHandler} {l : List (Value × (Addr → Value → Option Addr → TS))} (hc : Names X x c)
      (hsu : ∀ (a : Addr) (oe : Obj) (cls : Value) (d : Option Addr) (pn : List (Addr × Obj)), Zc cls d oe → (∃ vs, oe.data = .fields vs) → PSs (X.suite a ((a, oe) :: pn)) (b₀ :: suite) (ts a cls d)) (r : AsOk X i n hds l) :
      AsOk X i n (.ExceptHandler (some (.Name x np)) (some n) (b₀ :: suite) pos' :: hds) ((c, ts) :: l)
section
variable {X : Cx} {i : Nat} {n : Str} {body : List Stmt} {h₀ : ExceptHandler} {hds : List ExceptHandler} {l : List (Value × (Addr → Value → Option Addr → TS))} {pos : Pos} {tb : WX → TS} {Wout : WX}
theorem ps_try_asAll (hs : X.stack = X.env :: X.outer) (hf : X.env.frame = some X.env.locals) (hN : X.N.Nodup) (hi : X.N[i]? = some n) (hln : X.env.kindOf n = some .local) (tk : Takes X Wout)
    (hb : ∀ (W : WX) (pn : List (Addr × Obj)) (xe : Value → Shared → Prop), Takes (X.tr pn xe) W → PassesOwn (model X.prog X.w) X.A X.env xe → PSs (X.tr pn xe) body (tb W))
    (hh : AsOk X i n (h₀ :: hds) l) : PS X (.Try body (h₀ :: hds) [] [] pos) (fun D σ H => tb (wAll X.K i Wout D l) D σ H) := by
  refine ⟨fun pins s σ H D I h => ?_⟩
  have ok := I.ok
  have hfr : X.A.frames = some (X.env :: X.outer) := by rw [ok.frames, hs]
  have hloc : Loc X.env.scope n := .inl hln
  refine wpAny_Try_except ?_
  refine wpAny_mono ((hb (wAll X.K i Wout D l) (X.pn ++ pins) (fun e s₁ => wpAny (model X.prog X.w) X.A (noteFrame e X.env) (fun _ s₂ => wpAny (model X.prog X.w) X.A (setFlight e none) (fun _ s₃ =>
    wpAny (model X.prog X.w) X.A (handleBy e X.env (h₀ :: hds)) (SP X pins D) X.xe s₃) X.xe s₂) X.xe s₁) (fun u s' xx => ?_) PassesOwn.looking).run [] s σ H D (I.toTry _) h) (fun f s1 hsp => ?_) (fun e s1 he => he)
  · obtain ⟨a, B, sI, pins', σ', H', cls, d, rfl, J', nb, up, sky, na, os, ag, w⟩ := xx
    have J : Inv X pins σ' H' sI := J'.ofTry ok
    have sky' : Sky B (X.env :: X.outer) a (Zc cls d) X.env.locals s'.heap := by rw [← hs]; exact sky
    show wpAny (model X.prog X.w) X.A (noteFrame (.ref a) X.env) _ _ _
    refine Sky.land Zc.steady hfr hf sky' fun h3 fl3 up3 => ?_
    have J3 : Inv X pins σ' H' { s' with heap := h3 } := J.landed nb fl3.1 (up.trans up3) os ag
    obtain ⟨oe3, vs3, he3, hz3, hd3⟩ := fl3.there
    have noFrame : ∀ {h : Heap} {o : Obj} {vs : Array Value}, h.FunFrames B (X.env :: X.outer) → h.get? a = some o → o.data = .fields vs → a ∉ frs (X.env :: X.outer) := fun {h o vs} ff e dd hm => by
      obtain ⟨_, o', e', hnf⟩ := ff.mem hm
      rw [e] at e'; cases e'
      exact hnf _ dd
    have nfr := noFrame fl3.2.2.1 he3 hd3
    have nL : a ≠ X.env.locals := fun z => nfr (List.mem_filterMap.mpr ⟨X.env, List.mem_cons_self, by rw [hf, z]⟩)
    have nF : a ∉ X.fs := fun hm => by
      obtain ⟨e, he, q⟩ := List.mem_filterMap.mp hm
      exact nfr (List.mem_filterMap.mpr ⟨e, List.mem_cons_of_mem _ he, q⟩)
    have S3 := J3.suite he3 hd3 na nL nF
    have go : ∀ {hds' : List ExceptHandler} {l' : List (Value × (Addr → Value → Option Addr → TS))}, AsOk X i n hds' l' → wAll X.K i Wout D l' cls d σ' H' →
        wpAny (model X.prog X.w) X.A (handleBy (.ref a) X.env hds') (SP X pins D) X.xe { s' with heap := h3 } := by
      intro hds' l' hk
      induction hk with
      | nil =>
        intro w
        refine wpAny_handleBy_nil ?_
        obtain ⟨k1, k2, k3, oe, vs, T, oT, ts', he, hz, hd, h1, hr⟩ := id fl3
        unfold PySem.passOn
        refine wpAny_bind (wpAny_field he hd h1 ?_)
        rw [if_neg (show ¬ ((Value.ref T == Value.none) = true) from by simp)]
        have fin : wpAny (model X.prog X.w) X.A (setFlight (.ref a) X.env.frame) (fun _ s4 => wpAny (model X.prog X.w) X.A (throw (.ref a) : Sem Flow) (SP X pins D) X.xe s4) X.xe { s' with heap := h3 } := by
          rw [hf]
          refine HandSPX.setFlight_upZ fl3 fun h4 hh4 up4 => wpAny_throw (tk _ _ ?_)
          exact ⟨a, B, sI, pins, σ', H', cls, d, rfl, J, nb, (up.trans up3).trans up4, .inr (.inr (by rw [hs]; exact hh4)), na, os, ag, w⟩
        first
          | exact wpAny_bind (wpAny_pure (wpAny_bind fin))
          | exact wpAny_bind fin
      | @cons x c ts b₀ suite np pos' hds2 l2 hc hsu r ih =>
        intro w
        obtain ⟨b, hb1, hyes, hno⟩ := w
        refine wpAny_handleBy_cons (codeAny_handlers_test ?_) (by intro q; cases q)
        have LT : PySem.W.Looks (model X.prog X.w) h3 (typeOf (.ref a)) cls := fun A Q E s k q => wpAny_typeOf_ref (k _ _ he3) (by rw [hz3.1]; exact q)
        have LM := PySem.W.exm_one (M := model X.prog X.w) (J3.kIn) LT hb1
        have test : ∀ {Q : Value → Shared → Prop} {E : Value → Shared → Prop}, Q c { s' with heap := h3 } → wpAny (model X.prog X.w) (X.A.mark (some (.ref a))) (eval (.Name x np) X.env) Q E { s' with heap := h3 } := fun {Q E} q => by
          obtain ⟨hg, hdbg, hm | ⟨hm, hv, hnn⟩⟩ := hc
          · exact ld_glob (X := X.suite a ((a, oe3) :: (X.pn ++ pins))) S3 hg hm q hdbg
          · exact ld_blt (X := X.suite a ((a, oe3) :: (X.pn ++ pins))) S3 hg hm hv q hnn hdbg
        refine test (LM.here ?_)
        cases b with
        | true =>
          refine codeAny_handlers_suite_as ?_
          refine HandSPX.lands_againZ fl3 fun h4 fl4 up4 => ?_
          have J4 : Inv X pins σ' H' { s' with heap := h4 } := J.landed nb fl4.1 ((up.trans up3).trans up4) os ag
          obtain ⟨oe4, vs4, he4, hz4, hd4⟩ := fl4.there
          have S4 := J4.suite he4 hd4 na nL nF
          refine store_ok (X := X.suite a ((a, oe4) :: (X.pn ++ pins))) (v := .ref a) S4 hN hi hloc rfl (fun s5 S5 => ?_) (.inr hln)
          refine wpAny_mono ((hsu a oe4 cls d (X.pn ++ pins) hz4 ⟨_, hd4⟩).run [] s5 _ H' _ S5 (hyes rfl a na)) (fun f s6 hsp => ?_) (fun _ _ z => False.elim z)
          have ends : ∀ {σ6 : L2.St} {H6 : Hp} {Q : Shared → Prop}, Inv (X.suite a ((a, oe4) :: (X.pn ++ pins))) [] σ6 H6 s6 → (∀ s7, Inv X pins (σ6.set i none) H6 s7 → Q s7) →
              wpAny (model X.prog X.w) X.A (do bindName X.env n .none; unbindBehindTheSuite X.env n pos') (fun _ s7 => Q s7) X.xe s6 := fun {σ6 H6 Q} S6 hq => gone_ok (S6.unsuite ok) hN hi hln hq
          cases f with
          | next =>
            obtain ⟨σ6, H6, S6, q6⟩ := hsp
            exact ends S6 fun s7 J7 => ⟨_, _, J7, q6⟩
          | brk =>
            obtain ⟨σ6, H6, S6, q6⟩ := hsp
            exact ends S6 fun s7 J7 => ⟨_, _, J7, q6⟩
          | cont =>
            obtain ⟨σ6, H6, S6, q6⟩ := hsp
            exact ends S6 fun s7 J7 => ⟨_, _, J7, q6⟩
          | ret u =>
            obtain ⟨v6, σ6, H6, S6, r6, q6⟩ := hsp
            exact ends S6 fun s7 J7 => ⟨_, _, _, J7, r6, q6⟩
        | false =>
          show wpAny _ X.A (handleBy (.ref a) X.env hds2) _ _ _
          exact ih (hno rfl)
    exact go hh w
  · cases f with
    | next =>
      obtain ⟨σ', H', J', q⟩ := hsp
      exact wpAny_execs_nil ⟨σ', H', J'.ofTry ok, q⟩
    | brk =>
      obtain ⟨σ', H', J', q⟩ := hsp
      exact ⟨σ', H', J'.ofTry ok, q⟩
    | cont =>
      obtain ⟨σ', H', J', q⟩ := hsp
      exact ⟨σ', H', J'.ofTry ok, q⟩
    | ret u =>
      obtain ⟨v, σ', H', J', r, q⟩ := hsp
      exact ⟨v, σ', H', J'.ofTry ok, r, q⟩
end
end Dh

/-! DhY1 -/
set_option Elab.async false
set_option linter.all false
set_option maxRecDepth 100000
set_option maxHeartbeats 4000000
namespace Dh
open PySem PySem.Spec PyProof.Rows L2

/-! ### the nine classes -/
abbrev sSame : Stmt := top 15
abbrev sPos : Stmt := top 24
abbrev sNm : Stmt := top 25
abbrev sKinds : Stmt := top 26
abbrev sOwn : Stmt := top 27
abbrev sCaught : Stmt := top 28
abbrev sLaw : Stmt := top 29
structure Nine (P : Program) (w : World) (K : PySem.W.Frag) (mg : Str → Option Value) (base : Heap) : Type where
  C : Nat → Addr
  f : Nat → Addr
  fd : Nat → FuncData
  D : Addr
  d0 : Dx P w K mg base "BadProgram" (C 0) (f 0) (fd 0)
  d1 : Dx P w K mg base "BadText" (C 1) (f 1) (fd 1)
  d2 : Dx P w K mg base "BadChecked" (C 2) (f 2) (fd 2)
  d3 : Dx P w K mg base "BadWorld" (C 3) (f 3) (fd 3)
  d4 : Dx P w K mg base "BadNumber" (C 4) (f 4) (fd 4)
  d5 : Dx P w K mg base "BadKind" (C 5) (f 5) (fd 5)
  d6 : Dx P w K mg base "BadName" (C 6) (f 6) (fd 6)
  d7 : Dx P w K mg base "BadPromise" (C 7) (f 7) (fd 7)
  d8 : Dx P w K mg base "BadDeed" (C 8) (f 8) (fd 8)
  mD : mg "DebtError" = some (.ref D)
  own : ∀ i, i < 9 → ∀ j, j < 9 → PySem.W.kitOne K (.ref (C i)) (.ref (C j)) = some (decide (i = j))
  debt : ∀ i, i < 9 → PySem.W.kitOne K (.ref (C i)) (.ref D) = some true
  exc : ∀ i, i < 9 → PySem.W.kitOne K (.ref (C i)) (.type "Exception") = some true
  stop : ∀ i, i < 9 → PySem.W.kitOne K (.ref (C i)) (.type "StopIteration") = some false
  six : ∀ i, i < 9 → PySem.W.kitAny K (.ref (C i)) [.type "ValueError", .type "TypeError", .type "LookupError", .type "ArithmeticError", .type "RuntimeError", .type "AttributeError"] = some false
  exm : ∀ i, i < 9 → ∀ j, j < 9 → PySem.W.exmOne K (.ref (C i)) (.ref (C j)) = some (decide (i = j))
  exD : ∀ i, i < 9 → PySem.W.exmOne K (.ref (C i)) (.ref D) = some true
section
variable {P : Program} {w : World} {K : PySem.W.Frag} {mg : Str → Option Value} {base : Heap}
theorem Nine.c (hN : Nine P w K mg base) : ∀ i, i < 9 → DexC K (hN.C i)
  | 0, _ => hN.d0.c
  | 1, _ => hN.d1.c
  | 2, _ => hN.d2.c
  | 3, _ => hN.d3.c
  | 4, _ => hN.d4.c
  | 5, _ => hN.d5.c
  | 6, _ => hN.d6.c
  | 7, _ => hN.d7.c
  | 8, _ => hN.d8.c
  | n + 9, h => absurd h (by omega)
/-- errors of these classes, one after the other -/
inductive Exs (H : Hp) (C : Nat → Addr) (y : V) : Nat → List V → Prop
  | nil {n : Nat} : Exs H C y n []
  | cons {n : Nat} {a : Addr} {xs : List V} : Ex H a (C n) y → Exs H C y (n + 1) xs → Exs H C y n (.ref a :: xs)
theorem Exs.kp {H H' : Hp} {C : Nat → Addr} {y : V} (k : Kp [] H H') : ∀ {n : Nat} {xs : List V}, Exs H C y n xs → Exs H' C y n xs
  | _, _, .nil => .nil
  | _, _, .cons a b => .cons (a.kp k) (b.kp k)
theorem Exs.get {H : Hp} {C : Nat → Addr} {y : V} : ∀ {n : Nat} {xs : List V}, Exs H C y n xs → ∀ {i : Nat} {v : V}, xs[i]? = some v → ∃ a, v = .ref a ∧ Ex H a (C (n + i)) y
  | _, _, .nil, i, _, h => by simp at h
  | n, _, .cons a b, 0, _, h => by
    simp at h
    exact ⟨_, h.symm, a⟩
  | n, _, .cons a b, i + 1, v, h => by
    obtain ⟨c, e, x⟩ := b.get (i := i) (by simpa using h)
    exact ⟨c, e, by rw [show n + (i + 1) = n + 1 + i by omega]; exact x⟩
def spErrs (C : Nat → Addr) : Sp := fun vs H Q _ => ∃ it : V, vs = [it] ∧ ∀ (H' : Hp) (L : Addr) (xs : List V), xs.length = 9 → H' L = some (.lst xs) → Exs H' C it 0 xs → Kp [] H H' → Q (.ref L) H'
theorem scPos : FnScope ["it", "found"] ["it"] (defScope sPos) := ⟨rfl, rfl, rfl, by decide +kernel, rfl, by decide +kernel, by decide +kernel⟩
theorem okPos (hN : Nine P w K mg base) {f : Addr} {fd : FuncData} (F : Fun K "_law_by_position" "_law_by_position" sPos f fd) : FnOk P w K mg base CX0 3 f fd ["it"] (spErrs hN.C) := by
  refine F.ok scPos (fun vs H Q E h => by obtain ⟨_, rfl, _⟩ := h; rfl) (fun cdv A outer s H vs Q E hr h => ?_)
  obtain ⟨it, rfl, k⟩ := h
  refine ⟨_, (pss_cons (ps_set (i := 1) scPos.nd rfl (Or.inl rfl) (pe_lst (pa_cons (pe_mkx (hN.d0) (hr.mono (by decide)) (by rfl) (pv 0)) (pa_cons (pe_mkx (hN.d1) (hr.mono (by decide)) (by rfl) (pv 0)) (pa_cons (pe_mkx (hN.d2) (hr.mono (by decide)) (by rfl) (pv 0)) (pa_cons (pe_mkx (hN.d3) (hr.mono (by decide)) (by rfl) (pv 0)) (pa_cons (pe_mkx (hN.d4) (hr.mono (by decide)) (by rfl) (pv 0)) (pa_cons (pe_mkx (hN.d5) (hr.mono (by decide)) (by rfl) (pv 0)) (pa_cons (pe_mkx (hN.d6) (hr.mono (by decide)) (by rfl) (pv 0)) pa_nil))))))))) (pss_one (ps_ret (pe_op op_cat (pv 1) (pe_lst (pa_cons (pe_mkx (hN.d7) (hr.mono (by decide)) (by rfl) (pv 0)) (pa_cons (pe_mkx (hN.d8) (hr.mono (by decide)) (by rfl) (pv 0)) pa_nil))))))), ?_⟩
  have hH0 : ∃ H0, H0 = H := ⟨_, rfl⟩
  obtain ⟨H0, hH0⟩ := hH0
  rw [← hH0] at k ⊢
  refine ⟨_, rfl, _, rfl, fun a0 H1 f0 b0 k1 => ?_⟩
  refine ⟨_, rfl, _, rfl, fun a1 H2 f1 b1 k2 => ?_⟩
  replace b0 := b0.kp k2
  refine ⟨_, rfl, _, rfl, fun a2 H3 f2 b2 k3 => ?_⟩
  replace b0 := b0.kp k3
  replace b1 := b1.kp k3
  refine ⟨_, rfl, _, rfl, fun a3 H4 f3 b3 k4 => ?_⟩
  replace b0 := b0.kp k4
  replace b1 := b1.kp k4
  replace b2 := b2.kp k4
  refine ⟨_, rfl, _, rfl, fun a4 H5 f4 b4 k5 => ?_⟩
  replace b0 := b0.kp k5
  replace b1 := b1.kp k5
  replace b2 := b2.kp k5
  replace b3 := b3.kp k5
  refine ⟨_, rfl, _, rfl, fun a5 H6 f5 b5 k6 => ?_⟩
  replace b0 := b0.kp k6
  replace b1 := b1.kp k6
  replace b2 := b2.kp k6
  replace b3 := b3.kp k6
  replace b4 := b4.kp k6
  refine ⟨_, rfl, _, rfl, fun a6 H7 f6 b6 k7 => ?_⟩
  replace b0 := b0.kp k7
  replace b1 := b1.kp k7
  replace b2 := b2.kp k7
  replace b3 := b3.kp k7
  replace b4 := b4.kp k7
  replace b5 := b5.kp k7
  refine ⟨by show 7 ≤ sizeLine; decide, fun p8 q8 => ?_⟩
  generalize hG : upd H7 p8 _ = H8
  obtain ⟨e8, k8⟩ : H8 p8 = some _ ∧ Kp [] H7 H8 := ⟨by rw [← hG]; exact upd_same, by rw [← hG]; exact Kp.new q8⟩
  clear hG
  replace b0 := b0.kp k8
  replace b1 := b1.kp k8
  replace b2 := b2.kp k8
  replace b3 := b3.kp k8
  replace b4 := b4.kp k8
  replace b5 := b5.kp k8
  replace b6 := b6.kp k8
  refine ⟨_, rfl, ?_⟩
  refine ⟨_, rfl, _, rfl, fun a7 H9 f7 b7 k9 => ?_⟩
  replace b0 := b0.kp k9
  replace b1 := b1.kp k9
  replace b2 := b2.kp k9
  replace b3 := b3.kp k9
  replace b4 := b4.kp k9
  replace b5 := b5.kp k9
  replace b6 := b6.kp k9
  refine ⟨_, rfl, _, rfl, fun a8 H10 f8 b8 k10 => ?_⟩
  replace b0 := b0.kp k10
  replace b1 := b1.kp k10
  replace b2 := b2.kp k10
  replace b3 := b3.kp k10
  replace b4 := b4.kp k10
  replace b5 := b5.kp k10
  replace b6 := b6.kp k10
  replace b7 := b7.kp k10
  refine ⟨by show 2 ≤ sizeLine; decide, fun p11 q11 => ?_⟩
  generalize hG : upd H10 p11 _ = H11
  obtain ⟨e11, k11⟩ : H11 p11 = some _ ∧ Kp [] H10 H11 := ⟨by rw [← hG]; exact upd_same, by rw [← hG]; exact Kp.new q11⟩
  clear hG
  replace b0 := b0.kp k11
  replace b1 := b1.kp k11
  replace b2 := b2.kp k11
  replace b3 := b3.kp k11
  replace b4 := b4.kp k11
  replace b5 := b5.kp k11
  replace b6 := b6.kp k11
  replace b7 := b7.kp k11
  replace b8 := b8.kp k11
  refine ⟨_, _, _, _, rfl, rfl, (k11.at (k10.at (k9.at e8))), e11, by show 9 ≤ sizeLine; decide, fun p12 q12 => ?_⟩
  generalize hG : upd H11 p12 _ = H12
  obtain ⟨e12, k12⟩ : H12 p12 = some _ ∧ Kp [] H11 H12 := ⟨by rw [← hG]; exact upd_same, by rw [← hG]; exact Kp.new q12⟩
  clear hG
  replace b0 := b0.kp k12
  replace b1 := b1.kp k12
  replace b2 := b2.kp k12
  replace b3 := b3.kp k12
  replace b4 := b4.kp k12
  replace b5 := b5.kp k12
  replace b6 := b6.kp k12
  replace b7 := b7.kp k12
  replace b8 := b8.kp k12
  exact k H12 p12 _ (by rfl) e12 (.cons b0 (.cons b1 (.cons b2 (.cons b3 (.cons b4 (.cons b5 (.cons b6 (.cons b7 (.cons b8 .nil))))))))) (((((((((((k1.trans k2).trans k3).trans k4).trans k5).trans k6).trans k7).trans k8).trans k9).trans k10).trans k11).trans k12)
theorem scName2 : FnScope ["it", "found"] ["it"] (defScope sNm) := ⟨rfl, rfl, rfl, by decide +kernel, rfl, by decide +kernel, by decide +kernel⟩
theorem okNm (hN : Nine P w K mg base) {f : Addr} {fd : FuncData} (F : Fun K "_law_by_name" "_law_by_name" sNm f fd) : FnOk P w K mg base CX0 3 f fd ["it"] (spErrs hN.C) := by
  refine F.ok scName2 (fun vs H Q E h => by obtain ⟨_, rfl, _⟩ := h; rfl) (fun cdv A outer s H vs Q E hr h => ?_)
  obtain ⟨it, rfl, k⟩ := h
  refine ⟨_, (pss_cons (ps_set (i := 1) scName2.nd rfl (Or.inl rfl) (pe_lst (pa_cons (pe_mkxK (hN.d0) (hr.mono (by decide)) (by rfl) (pv 0)) (pa_cons (pe_mkxK (hN.d1) (hr.mono (by decide)) (by rfl) (pv 0)) (pa_cons (pe_mkxK (hN.d2) (hr.mono (by decide)) (by rfl) (pv 0)) (pa_cons (pe_mkxK (hN.d3) (hr.mono (by decide)) (by rfl) (pv 0)) (pa_cons (pe_mkxK (hN.d4) (hr.mono (by decide)) (by rfl) (pv 0)) pa_nil))))))) (pss_one (ps_ret (pe_op op_cat (pv 1) (pe_lst (pa_cons (pe_mkxK (hN.d5) (hr.mono (by decide)) (by rfl) (pv 0)) (pa_cons (pe_mkxK (hN.d6) (hr.mono (by decide)) (by rfl) (pv 0)) (pa_cons (pe_mkxK (hN.d7) (hr.mono (by decide)) (by rfl) (pv 0)) (pa_cons (pe_mkxK (hN.d8) (hr.mono (by decide)) (by rfl) (pv 0)) pa_nil))))))))), ?_⟩
  have hH0 : ∃ H0, H0 = H := ⟨_, rfl⟩
  obtain ⟨H0, hH0⟩ := hH0
  rw [← hH0] at k ⊢
  refine ⟨_, rfl, _, rfl, fun a0 H1 f0 b0 k1 => ?_⟩
  refine ⟨_, rfl, _, rfl, fun a1 H2 f1 b1 k2 => ?_⟩
  replace b0 := b0.kp k2
  refine ⟨_, rfl, _, rfl, fun a2 H3 f2 b2 k3 => ?_⟩
  replace b0 := b0.kp k3
  replace b1 := b1.kp k3
  refine ⟨_, rfl, _, rfl, fun a3 H4 f3 b3 k4 => ?_⟩
  replace b0 := b0.kp k4
  replace b1 := b1.kp k4
  replace b2 := b2.kp k4
  refine ⟨_, rfl, _, rfl, fun a4 H5 f4 b4 k5 => ?_⟩
  replace b0 := b0.kp k5
  replace b1 := b1.kp k5
  replace b2 := b2.kp k5
  replace b3 := b3.kp k5
  refine ⟨by show 5 ≤ sizeLine; decide, fun p6 q6 => ?_⟩
  generalize hG : upd H5 p6 _ = H6
  obtain ⟨e6, k6⟩ : H6 p6 = some _ ∧ Kp [] H5 H6 := ⟨by rw [← hG]; exact upd_same, by rw [← hG]; exact Kp.new q6⟩
  clear hG
  replace b0 := b0.kp k6
  replace b1 := b1.kp k6
  replace b2 := b2.kp k6
  replace b3 := b3.kp k6
  replace b4 := b4.kp k6
  refine ⟨_, rfl, ?_⟩
  refine ⟨_, rfl, _, rfl, fun a5 H7 f5 b5 k7 => ?_⟩
  replace b0 := b0.kp k7
  replace b1 := b1.kp k7
  replace b2 := b2.kp k7
  replace b3 := b3.kp k7
  replace b4 := b4.kp k7
  refine ⟨_, rfl, _, rfl, fun a6 H8 f6 b6 k8 => ?_⟩
  replace b0 := b0.kp k8
  replace b1 := b1.kp k8
  replace b2 := b2.kp k8
  replace b3 := b3.kp k8
  replace b4 := b4.kp k8
  replace b5 := b5.kp k8
  refine ⟨_, rfl, _, rfl, fun a7 H9 f7 b7 k9 => ?_⟩
  replace b0 := b0.kp k9
  replace b1 := b1.kp k9
  replace b2 := b2.kp k9
  replace b3 := b3.kp k9
  replace b4 := b4.kp k9
  replace b5 := b5.kp k9
  replace b6 := b6.kp k9
  refine ⟨_, rfl, _, rfl, fun a8 H10 f8 b8 k10 => ?_⟩
  replace b0 := b0.kp k10
  replace b1 := b1.kp k10
  replace b2 := b2.kp k10
  replace b3 := b3.kp k10
  replace b4 := b4.kp k10
  replace b5 := b5.kp k10
  replace b6 := b6.kp k10
  replace b7 := b7.kp k10
  refine ⟨by show 4 ≤ sizeLine; decide, fun p11 q11 => ?_⟩
  generalize hG : upd H10 p11 _ = H11
  obtain ⟨e11, k11⟩ : H11 p11 = some _ ∧ Kp [] H10 H11 := ⟨by rw [← hG]; exact upd_same, by rw [← hG]; exact Kp.new q11⟩
  clear hG
  replace b0 := b0.kp k11
  replace b1 := b1.kp k11
  replace b2 := b2.kp k11
  replace b3 := b3.kp k11
  replace b4 := b4.kp k11
  replace b5 := b5.kp k11
  replace b6 := b6.kp k11
  replace b7 := b7.kp k11
  replace b8 := b8.kp k11
  refine ⟨_, _, _, _, rfl, rfl, (k11.at (k10.at (k9.at (k8.at (k7.at e6))))), e11, by show 9 ≤ sizeLine; decide, fun p12 q12 => ?_⟩
  generalize hG : upd H11 p12 _ = H12
  obtain ⟨e12, k12⟩ : H12 p12 = some _ ∧ Kp [] H11 H12 := ⟨by rw [← hG]; exact upd_same, by rw [← hG]; exact Kp.new q12⟩
  clear hG
  replace b0 := b0.kp k12
  replace b1 := b1.kp k12
  replace b2 := b2.kp k12
  replace b3 := b3.kp k12
  replace b4 := b4.kp k12
  replace b5 := b5.kp k12
  replace b6 := b6.kp k12
  replace b7 := b7.kp k12
  replace b8 := b8.kp k12
  exact k H12 p12 _ (by rfl) e12 (.cons b0 (.cons b1 (.cons b2 (.cons b3 (.cons b4 (.cons b5 (.cons b6 (.cons b7 (.cons b8 .nil))))))))) (((((((((((k1.trans k2).trans k3).trans k4).trans k5).trans k6).trans k7).trans k8).trans k9).trans k10).trans k11).trans k12)
def spKinds (C : Nat → Addr) : Sp := fun vs H Q _ => ∃ (a : Addr) (i : Nat) (y : V), vs = [.ref a] ∧ i < 9 ∧ Ex H a (C i) y ∧ ∀ (H' : Hp) (L : Addr), H' L = some (.lst ((List.range 9).map fun j => V.bl (decide (i = j)))) → Kp [] H H' → Q (.ref L) H'
theorem scKinds : FnScope ["error", "found"] ["error"] (defScope sKinds) := ⟨rfl, rfl, rfl, by decide +kernel, rfl, by decide +kernel, by decide +kernel⟩
theorem okKinds (hN : Nine P w K mg base) {f : Addr} {fd : FuncData} (F : Fun K "_law_kinds" "_law_kinds" sKinds f fd) (TX : BltX mg) : FnOk P w K mg base CX0 1 f fd ["error"] (spKinds hN.C) := by
  refine F.ok scKinds (fun vs H Q E h => by obtain ⟨_, _, _, rfl, _⟩ := h; rfl) (fun cdv A outer s H vs Q E hr h => ?_)
  obtain ⟨a, i, y, rfl, hi, ex, k⟩ := h
  refine ⟨_, (pss_cons (ps_set (i := 1) scKinds.nd rfl (Or.inl rfl) (pe_lst (pa_cons (pe_callB call_isX (by rfl) TX.isinstance (by decide +kernel) (pa_cons (pv 0) (pa_cons (pe_glob (v := .ref (hN.C 0)) (by rfl) hN.d0.m rfl) pa_nil))) (pa_cons (pe_callB call_isX (by rfl) TX.isinstance (by decide +kernel) (pa_cons (pv 0) (pa_cons (pe_glob (v := .ref (hN.C 1)) (by rfl) hN.d1.m rfl) pa_nil))) (pa_cons (pe_callB call_isX (by rfl) TX.isinstance (by decide +kernel) (pa_cons (pv 0) (pa_cons (pe_glob (v := .ref (hN.C 2)) (by rfl) hN.d2.m rfl) pa_nil))) pa_nil))))) (pss_cons (ps_set (i := 1) scKinds.nd rfl (Or.inl rfl) (pe_op op_cat (pv 1) (pe_lst (pa_cons (pe_callB call_isX (by rfl) TX.isinstance (by decide +kernel) (pa_cons (pv 0) (pa_cons (pe_glob (v := .ref (hN.C 3)) (by rfl) hN.d3.m rfl) pa_nil))) (pa_cons (pe_callB call_isX (by rfl) TX.isinstance (by decide +kernel) (pa_cons (pv 0) (pa_cons (pe_glob (v := .ref (hN.C 4)) (by rfl) hN.d4.m rfl) pa_nil))) (pa_cons (pe_callB call_isX (by rfl) TX.isinstance (by decide +kernel) (pa_cons (pv 0) (pa_cons (pe_glob (v := .ref (hN.C 5)) (by rfl) hN.d5.m rfl) pa_nil))) pa_nil)))))) (pss_one (ps_ret (pe_op op_cat (pv 1) (pe_lst (pa_cons (pe_callB call_isX (by rfl) TX.isinstance (by decide +kernel) (pa_cons (pv 0) (pa_cons (pe_glob (v := .ref (hN.C 6)) (by rfl) hN.d6.m rfl) pa_nil))) (pa_cons (pe_callB call_isX (by rfl) TX.isinstance (by decide +kernel) (pa_cons (pv 0) (pa_cons (pe_glob (v := .ref (hN.C 7)) (by rfl) hN.d7.m rfl) pa_nil))) (pa_cons (pe_callB call_isX (by rfl) TX.isinstance (by decide +kernel) (pa_cons (pv 0) (pa_cons (pe_glob (v := .ref (hN.C 8)) (by rfl) hN.d8.m rfl) pa_nil))) pa_nil))))))))), ?_⟩
  have hH0 : ∃ H0, H0 = H := ⟨_, rfl⟩
  obtain ⟨H0, hH0⟩ := hH0
  rw [← hH0] at k ex ⊢
  refine ⟨_, rfl, a, hN.C i, y, .ref (hN.C 0), _, _, rfl, .own _, hN.c i hi, ex, hN.own i hi 0 (by decide), ?_⟩
  refine ⟨_, rfl, a, hN.C i, y, .ref (hN.C 1), _, _, rfl, .own _, hN.c i hi, ex, hN.own i hi 1 (by decide), ?_⟩
  refine ⟨_, rfl, a, hN.C i, y, .ref (hN.C 2), _, _, rfl, .own _, hN.c i hi, ex, hN.own i hi 2 (by decide), ?_⟩
  refine ⟨by show 3 ≤ sizeLine; decide, fun p1 q1 => ?_⟩
  generalize hG : upd H0 p1 _ = H1
  obtain ⟨e1, k1⟩ : H1 p1 = some _ ∧ Kp [] H0 H1 := ⟨by rw [← hG]; exact upd_same, by rw [← hG]; exact Kp.new q1⟩
  clear hG
  replace ex := ex.kp k1
  refine ⟨_, rfl, ?_⟩
  refine ⟨_, rfl, a, hN.C i, y, .ref (hN.C 3), _, _, rfl, .own _, hN.c i hi, ex, hN.own i hi 3 (by decide), ?_⟩
  refine ⟨_, rfl, a, hN.C i, y, .ref (hN.C 4), _, _, rfl, .own _, hN.c i hi, ex, hN.own i hi 4 (by decide), ?_⟩
  refine ⟨_, rfl, a, hN.C i, y, .ref (hN.C 5), _, _, rfl, .own _, hN.c i hi, ex, hN.own i hi 5 (by decide), ?_⟩
  refine ⟨by show 3 ≤ sizeLine; decide, fun p2 q2 => ?_⟩
  generalize hG : upd H1 p2 _ = H2
  obtain ⟨e2, k2⟩ : H2 p2 = some _ ∧ Kp [] H1 H2 := ⟨by rw [← hG]; exact upd_same, by rw [← hG]; exact Kp.new q2⟩
  clear hG
  replace ex := ex.kp k2
  refine ⟨_, _, _, _, rfl, rfl, k2.at e1, e2, by show 6 ≤ sizeLine; decide, fun p3 q3 => ?_⟩
  generalize hG : upd H2 p3 _ = H3
  obtain ⟨e3, k3⟩ : H3 p3 = some _ ∧ Kp [] H2 H3 := ⟨by rw [← hG]; exact upd_same, by rw [← hG]; exact Kp.new q3⟩
  clear hG
  replace ex := ex.kp k3
  refine ⟨_, rfl, ?_⟩
  refine ⟨_, rfl, a, hN.C i, y, .ref (hN.C 6), _, _, rfl, .own _, hN.c i hi, ex, hN.own i hi 6 (by decide), ?_⟩
  refine ⟨_, rfl, a, hN.C i, y, .ref (hN.C 7), _, _, rfl, .own _, hN.c i hi, ex, hN.own i hi 7 (by decide), ?_⟩
  refine ⟨_, rfl, a, hN.C i, y, .ref (hN.C 8), _, _, rfl, .own _, hN.c i hi, ex, hN.own i hi 8 (by decide), ?_⟩
  refine ⟨by show 3 ≤ sizeLine; decide, fun p4 q4 => ?_⟩
  generalize hG : upd H3 p4 _ = H4
  obtain ⟨e4, k4⟩ : H4 p4 = some _ ∧ Kp [] H3 H4 := ⟨by rw [← hG]; exact upd_same, by rw [← hG]; exact Kp.new q4⟩
  clear hG
  replace ex := ex.kp k4
  refine ⟨_, _, _, _, rfl, rfl, k4.at e3, e4, by show 9 ≤ sizeLine; decide, fun p5 q5 => ?_⟩
  generalize hG : upd H4 p5 _ = H5
  obtain ⟨e5, k5⟩ : H5 p5 = some _ ∧ Kp [] H4 H5 := ⟨by rw [← hG]; exact upd_same, by rw [← hG]; exact Kp.new q5⟩
  clear hG
  replace ex := ex.kp k5
  exact k H5 p5 e5 ((((k1.trans k2).trans k3).trans k4).trans k5)
end
end Dh

/-! DhY2 -/
set_option Elab.async false
set_option linter.all false
set_option maxRecDepth 100000
set_option maxHeartbeats 4000000
namespace Dh
open PySem PySem.Spec PyProof.Rows L2
structure BltE (mg : Str → Option Value) : Prop where
  ve : mg "ValueError" = none
  te : mg "TypeError" = none
  le : mg "LookupError" = none
  ae : mg "ArithmeticError" = none
  re : mg "RuntimeError" = none
  at_ : mg "AttributeError" = none
  ex : mg "Exception" = none
  si : mg "StopIteration" = none
/-- a def of the top that shows values -/
structure DfG (P : Program) (w : World) (K : PySem.W.Frag) (mg : Str → Option Value) (base : Heap) (x : Str) (k : Nat) (f : Addr) (fd : FuncData) (ps : List Str) (sp : Sp) : Prop where
  ok : FnG P w K mg base CX0 k f fd ps sp
  m : mg x = some (.ref f)
  k : PySem.W.keepIn K (.ref f) = true
  b : Binds K fd ps []
theorem room70 {k : Nat} {A : Around} (r : Room k A) : A.units + 70 < cLine := by have := r.un; omega
theorem dp_bls {K : PySem.W.Frag} {H : Hp} : ∀ ls : List Bool, DpAll K H (ls.map V.bl) (ls.map PyData.bool)
  | [] => .nil
  | x :: r => .cons (.bl x) (dp_bls r)
theorem shaped_bools : ∀ ls : List Bool, PyData.canLayAll0 (ls.map PyData.bool) = true ∧ PyData.depthAll (ls.map PyData.bool) = 0
  | [] => ⟨by simp [PyData.canLayAll0], by simp [PyData.depthAll]⟩
  | x :: r => by
    obtain ⟨a, b⟩ := shaped_bools r
    exact ⟨by simp [PyData.canLayAll0, PyData.canLay0, a], by simp [PyData.depthAll, PyData.depth, b]⟩
theorem shaped_bools' (ls : List Bool) : SeqAt.shaped (.list (ls.map PyData.bool)) = true := by
  obtain ⟨a, b⟩ := shaped_bools ls
  simp [SeqAt.shaped, PyData.canLay0, PyData.depth, a, b]
theorem eqvSelf (d : PyData) (h : d.canLay0 = true) : PyData.eqv d d = true := SeqAt.eqv_refl d h
def nineB (i : Nat) : List Bool := (List.range 9).map fun j => decide (i = j)
section
variable {P : Program} {w : World} {K : PySem.W.Frag} {mg : Str → Option Value} {base : Heap}
def spSame (K : PySem.W.Frag) : Sp := fun vs H Q _ => ∃ (M1 M2 : List Addr) (a b : V) (d : PyData), vs = [a, b] ∧ At K M1 H a d ∧ At K M2 H b d ∧ Ls sizeLine 60 d ∧ Q (.bl true) H
theorem scSame : FnScope ["told", "due"] ["told", "due"] (defScope sSame) := ⟨rfl, rfl, rfl, by decide +kernel, rfl, by decide +kernel, by decide +kernel⟩
theorem okSame {f : Addr} {fd : FuncData} (F : Fun K "_law_same" "_law_same" sSame f fd) (TX : BltX mg) : FnG P w K mg base CX0 1 f fd ["told", "due"] (spSame K) := by
  refine FnG.by0 F scSame (fun vs H Q E h => by obtain ⟨_, _, _, _, _, rfl, _⟩ := h; rfl) (fun cdv A outer s H vs Q E noG hr h => ?_)
  obtain ⟨M1, M2, a, b, d, rfl, ha, hb, l, q⟩ := h
  refine ⟨_, (pss_one (ps_ret (pe_cmpR op_eq (pe_callB (call_repr_At noG (room70 hr)) (by rfl) TX.repr (by decide +kernel) (pa_cons (pv 0) pa_nil)) (pe_callB (call_repr_At noG (room70 hr)) (by rfl) TX.repr (by decide +kernel) (pa_cons (pv 1) pa_nil)) (nomark _)))), ?_⟩
  refine ⟨_, rfl, M1, a, d, rfl, ha, l.s, l.d, l.l, _, rfl, M2, b, d, rfl, hb, l.s, l.d, l.l, rfl, ?_⟩
  rw [decide_eq_true rfl]
  exact q
def spOwn (K : PySem.W.Frag) (C : Nat → Addr) : Sp := fun vs H Q _ => ∃ (M1 M2 : List Addr) (i : Nat) (a : Addr) (y it : V) (d : PyData), vs = [.int (i : Int), .ref a, it] ∧ i < 9 ∧ Ex H a (C i) y ∧ At K M1 H y d ∧ At K M2 H it d ∧ Ls sizeLine 60 d ∧
  ∀ H', Kp [] H H' → Q (.bl true) H'
abbrev namesW2 : List Str := ["at", "error", "it", "place"]
theorem scOwn : FnScope namesW2 ["at", "error", "it"] (defScope sOwn) := ⟨rfl, rfl, rfl, by decide +kernel, rfl, by decide +kernel, by decide +kernel⟩
theorem okOwn (hN : Nine P w K mg base) {f g g2 : Addr} {fd gd gd2 : FuncData} (F : Fun K "_law_is_own" "_law_is_own" sOwn f fd) (T : Blt mg) (TX : BltX mg) (TE : BltE mg) (Dkinds : Df P w K mg base "_law_kinds" 1 g gd ["error"] (spKinds hN.C))
    (Dsame : DfG P w K mg base "_law_same" 1 g2 gd2 ["told", "due"] (spSame K)) : FnG P w K mg base CX0 2 f fd ["at", "error", "it"] (spOwn K hN.C) := by
  refine FnG.by0 F scOwn (fun vs H Q E h => by obtain ⟨_, _, _, _, _, _, _, rfl, _⟩ := h; rfl) (fun cdv A outer s H vs Q E noG hr h => ?_)
  obtain ⟨M1, M2, i, a, y, it, d, rfl, hi, ex, ay, ai, l, k⟩ := h
  refine ⟨_, (pss_cons (ps_if (PW.pt (pw_or (pt_cmpR (op_neD hr.units) (pe_call Dkinds.ok (hr.mono (by decide)) (by rfl) Dkinds.m Dkinds.k Dkinds.b .nil pass0 (pa_cons (pv 1) pa_nil)) (pe_lc (own := [("place", 3)]) (g := gName 3) (tt := tYes) rfl scOwn.nd (pi_range1 (by rfl) T.range (pa_cons pe_int pa_nil)) (blkOk_by (N := namesW2) (sc := defScope sOwn) (by decide +kernel)) (fun _ _ _ _ _ => pg_name (i := 3) scOwn.nd rfl (Or.inl rfl)) (fun _ _ _ _ _ => pts_nil) (fun _ _ _ _ _ => (pe_cmpR op_eq (pv 3) (pv 0) (nomark _)))) (nomark _)) (pw_or1 (pt_not (pt_val (pe_callB call_isX (by rfl) TX.isinstance (by decide +kernel) (pa_cons (pv 1) (pa_cons (pe_glob (v := .ref hN.D) (by rfl) hN.mD rfl) pa_nil)))))))) (pss_one (ps_ret pe_bl)) pss_nil) 
    (pss_cons (ps_if (pt_val (pe_callB call_isXT (by rfl) TX.isinstance (by decide +kernel) (pa_cons (pv 1) (pa_cons (pe_tup (pa_cons (pe_bltn (v := .ty "ValueError") (by rfl) TE.ve (by decide +kernel) rfl) (pa_cons (pe_bltn (v := .ty "TypeError") (by rfl) TE.te (by decide +kernel) rfl) (pa_cons (pe_bltn (v := .ty "LookupError") (by rfl) TE.le (by decide +kernel) rfl) (pa_cons (pe_bltn (v := .ty "ArithmeticError") (by rfl) TE.ae (by decide +kernel) rfl) (pa_cons (pe_bltn (v := .ty "RuntimeError") (by rfl) TE.re (by decide +kernel) rfl) (pa_cons (pe_bltn (v := .ty "AttributeError") (by rfl) TE.at_ (by decide +kernel) rfl) pa_nil))))))) pa_nil)))) (pss_one (ps_ret pe_bl)) pss_nil) 
    (pss_one (ps_ret (pe_and (pe_callB call_isX (by rfl) TX.isinstance (by decide +kernel) (pa_cons (pv 1) (pa_cons (pe_bltn (v := .ty "Exception") (by rfl) TE.ex (by decide +kernel) rfl) pa_nil))) (pe_and (pe_not (pe_callB call_isX (by rfl) TX.isinstance (by decide +kernel) (pa_cons (pv 1) (pa_cons (pe_bltn (v := .ty "StopIteration") (by rfl) TE.si (by decide +kernel) rfl) pa_nil)))) (pe_one (pe_callG Dsame.ok noG (hr.mono (by decide)) (by rfl) Dsame.m Dsame.k Dsame.b pass0 (pa_cons (pe_xt (pv 1)) (pa_cons (pv 2) pa_nil)))))))))), ?_⟩
  refine ⟨_, rfl, a, i, y, rfl, hi, ex, fun H1 L e1 k1 => ⟨9, rfl, by decide, by decide, fun L2 h2 => ?_⟩⟩
  have eL2 : L ≠ L2 := ne_of_none e1 h2
  refine lc_range (lo := 0) (n := 9) (fun j H' => H' L2 = some (.lst (((List.range 9).take j).map fun z => V.bl (decide (i = z)))) ∧ Kp [] H1 H') ⟨upd_same, Kp.new h2⟩ ?_ ?_
  · rintro j H' hj ⟨q1, q2⟩
    refine ⟨rfl, yesI ⟨_, rfl, _, rfl, rfl, _, q1, ?_, ?_, q2.mut h2⟩⟩
    · rw [List.length_map, List.length_take]; exact small1000 (by have : (List.range 9).length = 9 := rfl; omega)
    · rw [upd_same]
      have e : decide (V.int (0 + (j : Int)) = V.int (i : Int)) = decide (i = j) := by
        by_cases z : i = j
        · subst z; simp
        · rw [decide_eq_false z]
          refine decide_eq_false fun h => z ?_
          have := V.int.inj h
          omega
      rw [e, List.take_add_one, List.getElem?_range hj, List.map_append]
      rfl
  · rintro H2 ⟨q1, q2⟩
    have q1 : H2 L2 = some (.lst ((nineB i).map V.bl)) := by
      rw [q1]
      show some (HO.lst (((List.range 9).take 9).map _)) = some (HO.lst (((List.range 9).map _).map V.bl))
      rw [List.map_map]; rfl
    have e1 : H2 L = some (.lst ((nineB i).map V.bl)) := by
      rw [q2 _ _ e1 (by simp)]
      show some (HO.lst ((List.range 9).map _)) = some (HO.lst (((List.range 9).map _).map V.bl))
      rw [List.map_map]; rfl
    have ex2 := (ex.kp k1).kp q2
    refine ⟨.list ((nineB i).map PyData.bool), .list ((nineB i).map PyData.bool), .lst (SqL.of e1) (dp_bls _), .lst (SqL.of q1) (dp_bls _), shaped_bools' _, shaped_bools' _, ?_⟩
    have er : PyData.eqv (.list ((nineB i).map PyData.bool)) (.list ((nineB i).map PyData.bool)) = true := eqvSelf _ (by
      obtain ⟨z, _⟩ := shaped_bools (nineB i)
      simp [PyData.canLay0, z])
    rw [er]
    refine ⟨_, rfl, iteF ?_⟩
    refine ⟨_, rfl, a, hN.C i, y, .ref hN.D, _, _, rfl, .own _, hN.c i hi, ex2, hN.debt i hi, _, rfl, iteF ?_⟩
    refine ⟨_, rfl, by show 6 ≤ sizeLine; decide, fun p hp => ?_⟩
    generalize hG : upd H2 p _ = H3
    obtain ⟨e3, k3⟩ : H3 p = some _ ∧ Kp [] H2 H3 := ⟨by rw [← hG]; exact upd_same, by rw [← hG]; exact Kp.new hp⟩
    clear hG
    have ex3 := ex2.kp k3
    refine ⟨a, hN.C i, p, y, _, _, _, rfl, e3, .cons (.ty _) (.cons (.ty _) (.cons (.ty _) (.cons (.ty _) (.cons (.ty _) (.cons (.ty _) .nil))))), hN.c i hi, ex3, hN.six i hi, _, rfl, iteF ?_⟩
    refine ⟨_, rfl, a, hN.C i, y, _, _, _, rfl, .ty _, hN.c i hi, ex3, hN.exc i hi, _, rfl, iteT ?_⟩
    refine ⟨_, rfl, a, hN.C i, y, _, _, _, rfl, .ty _, hN.c i hi, ex3, hN.stop i hi, _, rfl, _, rfl, iteT ?_⟩
    have K3 : Kp [] H H3 := (k1.trans q2).trans k3
    exact ⟨_, rfl, a, hN.C i, y, rfl, hN.c i hi, ex3, _, rfl, M1, M2, y, it, d, rfl, At.ext K3 ay, At.ext K3 ai, l, k H3 K3⟩
end
end Dh

/-! DhY3 -/
set_option Elab.async false
set_option linter.all false
set_option maxRecDepth 100000
set_option maxHeartbeats 4000000
namespace Dh
open PySem PySem.Spec PyProof.Rows L2

/-! ### in an except suite -/
def rRep (K : PySem.W.Frag) : List V → Hp → VK → Prop := fun xs H Q => ∃ (M : List Addr) (v : V) (d : PyData), xs = [v] ∧ At K M H v d ∧ d.showable = true ∧ d.depth ≤ 60 ∧ d.shown.length ≤ sizeLine ∧ Q (.str d.shown) H
/-- e.thing, e the exception that is handled -/
def tXs (K : PySem.W.Frag) (a : Addr) (cls : Value) (d : Option Addr) (te : TE) : TE := fun σ H Q => te σ H fun x H1 => x = .ref a ∧ ∃ (C dd : Addr) (fs : List (Str × V)) (v : V), cls = .ref C ∧ DexC K C ∧ d = some dd ∧ H1 dd = some (.xd fs) ∧ fs.lookup ("thing" : Str) = some v ∧ Q v H1
def rIsS (K : PySem.W.Frag) (a : Addr) (cls : Value) (d : Option Addr) : List V → Hp → VK → Prop := fun xs H Q => ∃ (C dd : Addr) (fs : List (Str × V)) (c : V) (cv : Value) (b : Bool), xs = [.ref a, c] ∧ cls = .ref C ∧ d = some dd ∧ ClsV c cv ∧ DexC K C ∧ H dd = some (.xd fs) ∧ PySem.W.kitOne K (.ref C) cv = some b ∧ Q (.bl b) H
section
variable {X : Cx} {a : Addr} {oe : Obj} {cls : Value} {d : Option Addr} {pn : List (Addr × Obj)}
theorem inst_suite {pins : List (Addr × Obj)} {σ : L2.St} {H : Hp} {s : Shared} {C dd : Addr} {fs : List (Str × V)} (hz : Zc cls d oe) (hf : ∃ vs, oe.data = .fields vs) (I : Inv (X.suite a ((a, oe) :: pn)) pins σ H s) (e1 : cls = .ref C) (e2 : d = some dd) (e3 : H dd = some (.xd fs)) :
    ∃ od : Obj, PySem.W.InstAt s.heap a oe C (some od) ∧ ∀ (n : Str) (v : V), fs.lookup n = some v → ∃ u, PySem.W.lookIn n od = some (some u) ∧ RelV v u := by
  subst e1 e2
  obtain ⟨ha, _⟩ := I.pin (a, oe) (List.mem_append_left _ List.mem_cons_self)
  obtain ⟨vs, hd⟩ := hf
  obtain ⟨mA, hns, hr⟩ := (show ObjOk X.prog X.w H s.heap dd (.xd fs) from I.hok dd _ e3)
  obtain ⟨od, ho, hl⟩ := lookIn_ns hns
  refine ⟨od, ⟨ha, hz.1, by unfold PySem.W.notCls; rw [hd] <;> rfl, by rw [hz.2]; exact ho⟩, fun n v l => ?_⟩
  obtain ⟨u, hu, ru⟩ := RelO.some_of (v := v) (o := mA n) (by rw [← l]; exact hr n)
  exact ⟨u, by rw [hl, hu], ru⟩
theorem pe_xs {e : Expr} {te : TE} {pos : Pos} (hz : Zc cls d oe) (hf : ∃ vs, oe.data = .fields vs) (he : PE (X.suite a ((a, oe) :: pn)) e te) (hb : attributeBase e "thing" X.env (eval e X.env) = eval e X.env := by rfl) :
    PE (X.suite a ((a, oe) :: pn)) (.Attribute e "thing" pos) (tXs X.K a cls d te) := by
  refine ⟨fun pins s σ H Q I h => attr_of hb (thn (he.run pins s σ H _ I h) fun u s1 hh => ?_)⟩
  obtain ⟨x, H1, I1, rx, ex, C, dd, fs, v, e1, T, e2, e3, l, q⟩ := hh
  subst ex
  obtain rfl : u = Value.ref a := rx
  obtain ⟨od, J, look⟩ := inst_suite hz hf I1 e1 e2 e3
  obtain ⟨u, hu, ru⟩ := look _ _ l
  exact HandSPX.exc_get I1.kIn J T.ga T.gg T.exC (PySem.W.findObj_own T.hdC T.no rfl hu) (handed_of ru) ⟨v, H1, I1.tok _, ru, q⟩
theorem call_isS (hz : Zc cls d oe) (hf : ∃ vs, oe.data = .fields vs) : CallR (X.suite a ((a, oe) :: pn)) (.builtin "isinstance") (rIsS X.K a cls d) := by
  intro pins s σ H xs us Q I r h
  obtain ⟨C, dd, fs, c, cv, b, rfl, e1, e2, k, T, e3, e, q⟩ := h
  obtain ⟨u1, u2, rfl, r1, r2⟩ := vals2 r
  cases (show u1 = Value.ref a from r1)
  have same := k.eq r2
  subst same
  obtain ⟨od, J, _⟩ := inst_suite hz hf I e1 e2 e3
  exact PySem.W.kia_one T.kit I.kIn J e (fun z => nomatch z) fun tk => ⟨.bl b, H, I.tok tk, rfl, q⟩
end
section
variable {P : Program} {w : World} {K : PySem.W.Frag} {mg : Str → Option Value} {base : Heap}
def tsOne (K : PySem.W.Frag) (n : Int) : Addr → Value → Option Addr → TS := fun a cls d => tRet (tTup (tCons (tC (.int n)) (tCons (tCB (rRep K) (tCons (tXs K a cls d (tVar 2)) tNil)) tNil)))
def tsLast (K : PySem.W.Frag) (C1 C5 : Addr) : Addr → Value → Option Addr → TS := fun a cls d => tRet (tTup (tCons (tIf (tB (tCB (rIsS K a cls d) (tCons (tVar 2) (tCons (tC (.ref C1)) tNil)))) (tC (.int 3)) (tIf (tB (tCB (rIsS K a cls d) (tCons (tVar 2) (tCons (tC (.ref C5)) tNil)))) (tC (.int 4)) (tC (.int 5))))
  (tCons (tCB (rRep K) (tCons (tXs K a cls d (tVar 2)) tNil)) tNil)))
def spCaught (K : PySem.W.Frag) : Sp := fun vs H Q _ => ∃ (M : List Addr) (i : Nat) (it : V) (d : PyData), vs = [.int (i : Int), it] ∧ i < 6 ∧ At K M H it d ∧ Ls sizeLine 60 d ∧
  ∀ (H' : Hp) (r : Addr), H' r = some (.tup [.int (i : Int), .str d.shown]) → Kp [] H H' → Q (.ref r) H'
abbrev namesC : List Str := ["way", "it", "e"]
theorem scCaught : FnScope namesC ["way", "it"] (defScope sCaught) := ⟨rfl, rfl, rfl, by decide +kernel, rfl, by decide +kernel, by decide +kernel⟩
theorem okCaught (hN : Nine P w K mg base) {f : Addr} {fd : FuncData} (F : Fun K "_law_caught" "_law_caught" sCaught f fd) (TX : BltX mg) : FnG P w K mg base CX0 3 f fd ["way", "it"] (spCaught K) := by
  refine FnG.by0 F scCaught (fun vs H Q E h => by obtain ⟨_, _, _, _, rfl, _⟩ := h; rfl) (fun cdv A outer s H vs Q E noG hr h => ?_)
  obtain ⟨M, i, it, d, rfl, hi, ai, l, k⟩ := h
  have hu := room70 hr
  refine ⟨_, pss_one (ps_try_asAll (i := 2) (n := "e") (Wout := fun _ _ _ _ => False) (l := [(.ref (hN.C 0), tsOne K 0), (.ref (hN.C 8), tsOne K 1), (.ref (hN.C 4), tsOne K 2), (.ref hN.D, tsLast K (hN.C 1) (hN.C 5))]) rfl rfl scCaught.nd rfl rfl takes_none5
    (fun W pn xe tk po => (pss_cons (ps_if (pt_cmpR op_eq (pv 0) pe_int (nomark _)) (pss_one (ps_raise rfl tk (pmk_mkx hN.d0 (hr.mono (by decide)) (by rfl) (pv 1)))) pss_nil)
      (pss_cons (ps_if (pt_cmpR op_eq (pv 0) pe_int (nomark _)) (pss_one (ps_raise rfl tk (pmk_mkxK hN.d8 (hr.mono (by decide)) (by rfl) (pv 1)))) pss_nil)
      (pss_cons (ps_if (pt_cmpR op_eq (pv 0) pe_int (nomark _)) (pss_one (ps_raise rfl tk (pmk_mkx hN.d4 (hr.mono (by decide)) (by rfl) (pv 1)))) pss_nil)
      (pss_cons (ps_if (pt_cmpR op_eq (pv 0) pe_int (nomark _)) (pss_one (ps_raise rfl tk (pmk_mkx hN.d1 (hr.mono (by decide)) (by rfl) (pv 1)))) pss_nil)
      (pss_cons (ps_if (pt_cmpR op_eq (pv 0) pe_int (nomark _)) (pss_one (ps_raise rfl tk (pmk_mkxK hN.d5 (hr.mono (by decide)) (by rfl) (pv 1)))) pss_nil)
      (pss_one (ps_raise rfl tk (pmk_mkx hN.d3 (hr.mono (by decide)) (by rfl) (pv 1)))))))))) ?_), ?_⟩
  · refine .cons ⟨by rfl, by decide, .inl hN.d0.m⟩ (fun a oe cls d pn hz hf => pss_one (ps_ret (pe_tup (pa_cons pe_int (pa_cons (pe_callB (call_repr_At noG hu) (by rfl) TX.repr (by decide +kernel) (pa_cons (pe_xs hz hf (pv 2)) pa_nil)) pa_nil))))) ?_
    refine .cons ⟨by rfl, by decide, .inl hN.d8.m⟩ (fun a oe cls d pn hz hf => pss_one (ps_ret (pe_tup (pa_cons pe_int (pa_cons (pe_callB (call_repr_At noG hu) (by rfl) TX.repr (by decide +kernel) (pa_cons (pe_xs hz hf (pv 2)) pa_nil)) pa_nil))))) ?_
    refine .cons ⟨by rfl, by decide, .inl hN.d4.m⟩ (fun a oe cls d pn hz hf => pss_one (ps_ret (pe_tup (pa_cons pe_int (pa_cons (pe_callB (call_repr_At noG hu) (by rfl) TX.repr (by decide +kernel) (pa_cons (pe_xs hz hf (pv 2)) pa_nil)) pa_nil))))) ?_
    exact .cons ⟨by rfl, by decide, .inl hN.mD⟩ (fun a oe cls d pn hz hf => pss_one (ps_ret (pe_tup (pa_cons (pe_ifExp (pt_val (pe_callB (call_isS hz hf) (by rfl) TX.isinstance (by decide +kernel) (pa_cons (pv 2) (pa_cons (pe_glob (v := .ref (hN.C 1)) (by rfl) hN.d1.m rfl) pa_nil)))) pe_int (pe_ifExp (pt_val (pe_callB (call_isS hz hf) (by rfl) TX.isinstance (by decide +kernel) (pa_cons (pv 2) (pa_cons (pe_glob (v := .ref (hN.C 5)) (by rfl) hN.d5.m rfl) pa_nil)))) pe_int pe_int)) (pa_cons (pe_callB (call_repr_At noG hu) (by rfl) TX.repr (by decide +kernel) (pa_cons (pe_xs hz hf (pv 2)) pa_nil)) pa_nil))))) .nil
  · have one : ∀ (j : Nat) (dx : Addr), j < 9 → H dx = none → ∀ a, (upd H dx (.xd [("thing", it)])) a = none → tsOne K (i : Int) a (.ref (hN.C j)) (some dx) (gone 2 { nx := fun x H' => Q V.non H', rt := Q }) ((start namesC [V.int (i : Int), it]).set 2 (some (.ref a))) (upd H dx (.xd [("thing", it)])) := by
      intro j dx hj ndx a na
      refine ⟨_, rfl, rfl, hN.C j, dx, _, it, rfl, hN.c j hj, rfl, upd_same, rfl, M, it, d, rfl, At.ext (Kp.new ndx) ai, l.s, l.d, l.l, by show 2 ≤ sizeLine; decide, fun r nr => ?_⟩
      exact k _ r upd_same ((Kp.new ndx).trans (Kp.new nr))
    have last : ∀ (j : Nat) (n : Int) (dx : Addr), j < 9 → n = (i : Int) → H dx = none → (if decide (j = 1) = true then (3 : Int) else if decide (j = 5) = true then 4 else 5) = n → ∀ a, (upd H dx (.xd [("thing", it)])) a = none →
        tsLast K (hN.C 1) (hN.C 5) a (.ref (hN.C j)) (some dx) (gone 2 { nx := fun x H' => Q V.non H', rt := Q }) ((start namesC [V.int (i : Int), it]).set 2 (some (.ref a))) (upd H dx (.xd [("thing", it)])) := by
      intro j n dx hj hn ndx hv a na
      have fin : ∀ n : Int, n = (i : Int) → tCons (tCB (rRep K) (tCons (tXs K a (.ref (hN.C j)) (some dx) (tVar 2)) tNil)) tNil ((start namesC [V.int (i : Int), it]).set 2 (some (.ref a))) (upd H dx (.xd [("thing", it)])) fun vs H1 => (V.int n :: vs).length ≤ sizeLine ∧ ∀ r, H1 r = none → Q (.ref r) (upd H1 r (.tup (V.int n :: vs))) := by
        intro n hn
        subst hn
        refine ⟨_, rfl, rfl, hN.C j, dx, _, it, rfl, hN.c j hj, rfl, upd_same, rfl, M, it, d, rfl, At.ext (Kp.new ndx) ai, l.s, l.d, l.l, by show 2 ≤ sizeLine; decide, fun r nr => ?_⟩
        exact k _ r upd_same ((Kp.new ndx).trans (Kp.new nr))
      refine ⟨_, rfl, hN.C j, dx, _, _, _, _, rfl, rfl, rfl, .own _, hN.c j hj, upd_same, hN.own j hj 1 (by decide), _, rfl, ite2 (fun z => ?_) (fun z => ?_)⟩
      · rw [if_pos z] at hv
        exact fin 3 (by omega)
      · rw [if_neg z] at hv
        refine ⟨_, rfl, hN.C j, dx, _, _, _, _, rfl, rfl, rfl, .own _, hN.c j hj, upd_same, hN.own j hj 5 (by decide), _, rfl, ite2 (fun z => ?_) (fun z => ?_)⟩
        · rw [if_pos z] at hv
          exact fin 4 (by omega)
        · rw [if_neg z] at hv
          exact fin 5 (by omega)
    have no : ∀ {m n : Int} {A B : Prop}, m ≠ n → B → if decide (V.int m = V.int n) = true then A else B := fun {m n A B} ne b => ite2 (fun h => absurd (V.int.inj (of_decide_eq_true h)) ne) fun _ => b
    have yes : ∀ {m n : Int} {A B : Prop}, m = n → A → if decide (V.int m = V.int n) = true then A else B := fun {m n A B} e a => ite2 (fun _ => a) fun h => absurd (decide_eq_true (by rw [e])) h
    match i, hi, one, last, k with
    | 0, _, one, last, k =>
      refine ⟨_, rfl, rfl, _, rfl, yes (by decide) ?_⟩
      refine ⟨_, rfl, _, rfl, fun dx ndx => ?_⟩
      exact ⟨_, hN.exm 0 (by decide) 0 (by decide), fun _ => one 0 dx (by decide) ndx, fun h => absurd h (by decide)⟩
    | 1, _, one, last, k =>
      refine ⟨_, rfl, rfl, _, rfl, no (by decide) ?_⟩
      refine ⟨_, rfl, rfl, _, rfl, yes (by decide) ?_⟩
      refine ⟨_, rfl, _, rfl, fun dx ndx => ?_⟩
      refine ⟨_, hN.exm 8 (by decide) 0 (by decide), fun h => absurd h (by decide), fun _ => ?_⟩
      exact ⟨_, hN.exm 8 (by decide) 8 (by decide), fun _ => one 8 dx (by decide) ndx, fun h => absurd h (by decide)⟩
    | 2, _, one, last, k =>
      refine ⟨_, rfl, rfl, _, rfl, no (by decide) ?_⟩
      refine ⟨_, rfl, rfl, _, rfl, no (by decide) ?_⟩
      refine ⟨_, rfl, rfl, _, rfl, yes (by decide) ?_⟩
      refine ⟨_, rfl, _, rfl, fun dx ndx => ?_⟩
      refine ⟨_, hN.exm 4 (by decide) 0 (by decide), fun h => absurd h (by decide), fun _ => ?_⟩
      refine ⟨_, hN.exm 4 (by decide) 8 (by decide), fun h => absurd h (by decide), fun _ => ?_⟩
      exact ⟨_, hN.exm 4 (by decide) 4 (by decide), fun _ => one 4 dx (by decide) ndx, fun h => absurd h (by decide)⟩
    | 3, _, one, last, k =>
      refine ⟨_, rfl, rfl, _, rfl, no (by decide) ?_⟩
      refine ⟨_, rfl, rfl, _, rfl, no (by decide) ?_⟩
      refine ⟨_, rfl, rfl, _, rfl, no (by decide) ?_⟩
      refine ⟨_, rfl, rfl, _, rfl, yes (by decide) ?_⟩
      refine ⟨_, rfl, _, rfl, fun dx ndx => ?_⟩
      refine ⟨_, hN.exm 1 (by decide) 0 (by decide), fun h => absurd h (by decide), fun _ => ?_⟩
      refine ⟨_, hN.exm 1 (by decide) 8 (by decide), fun h => absurd h (by decide), fun _ => ?_⟩
      refine ⟨_, hN.exm 1 (by decide) 4 (by decide), fun h => absurd h (by decide), fun _ => ?_⟩
      exact ⟨_, hN.exD 1 (by decide), fun _ => last 1 3 dx (by decide) (by rfl) ndx (by rfl), fun h => absurd h (by decide)⟩
    | 4, _, one, last, k =>
      refine ⟨_, rfl, rfl, _, rfl, no (by decide) ?_⟩
      refine ⟨_, rfl, rfl, _, rfl, no (by decide) ?_⟩
      refine ⟨_, rfl, rfl, _, rfl, no (by decide) ?_⟩
      refine ⟨_, rfl, rfl, _, rfl, no (by decide) ?_⟩
      refine ⟨_, rfl, rfl, _, rfl, yes (by decide) ?_⟩
      refine ⟨_, rfl, _, rfl, fun dx ndx => ?_⟩
      refine ⟨_, hN.exm 5 (by decide) 0 (by decide), fun h => absurd h (by decide), fun _ => ?_⟩
      refine ⟨_, hN.exm 5 (by decide) 8 (by decide), fun h => absurd h (by decide), fun _ => ?_⟩
      refine ⟨_, hN.exm 5 (by decide) 4 (by decide), fun h => absurd h (by decide), fun _ => ?_⟩
      exact ⟨_, hN.exD 5 (by decide), fun _ => last 5 4 dx (by decide) (by rfl) ndx (by rfl), fun h => absurd h (by decide)⟩
    | 5, _, one, last, k =>
      refine ⟨_, rfl, rfl, _, rfl, no (by decide) ?_⟩
      refine ⟨_, rfl, rfl, _, rfl, no (by decide) ?_⟩
      refine ⟨_, rfl, rfl, _, rfl, no (by decide) ?_⟩
      refine ⟨_, rfl, rfl, _, rfl, no (by decide) ?_⟩
      refine ⟨_, rfl, rfl, _, rfl, no (by decide) ?_⟩
      refine ⟨_, rfl, _, rfl, fun dx ndx => ?_⟩
      refine ⟨_, hN.exm 3 (by decide) 0 (by decide), fun h => absurd h (by decide), fun _ => ?_⟩
      refine ⟨_, hN.exm 3 (by decide) 8 (by decide), fun h => absurd h (by decide), fun _ => ?_⟩
      refine ⟨_, hN.exm 3 (by decide) 4 (by decide), fun h => absurd h (by decide), fun _ => ?_⟩
      exact ⟨_, hN.exD 3 (by decide), fun _ => last 3 5 dx (by decide) (by rfl) ndx (by rfl), fun h => absurd h (by decide)⟩
end
end Dh

/-! DhZ -/
set_option Elab.async false
set_option linter.all false
set_option maxRecDepth 100000
set_option maxHeartbeats 8000000
namespace Dh
open PySem PySem.Spec PyProof.Rows L2

/-! ### the law -/
theorem for_enum {K : PySem.W.Frag} {a : Addr} {xs : List V} {g : TG} {tb : TS} {D : Ends} {σ : L2.St} {H : Hp} (Pv : Nat → L2.St → Hp → Prop) (h0 : Pv 0 σ H) (hl : ∀ i σ H, Pv i σ H → SqL K H a xs)
    (hs : ∀ i x σ H t, xs[i]? = some x → Pv i σ H → H t = none → g (.ref t) σ (upd H t (.tup [.int (i : Nat), x])) fun σ2 H2 => tb { D with nx := Pv (i + 1), ct := Pv (i + 1), bk := D.nx } σ2 H2) (hd : ∀ σ H, Pv xs.length σ H → D.nx σ H) :
    ∃ W : Nat → Nat → L2.St → Hp → Prop, (∃ m, W 0 m σ H) ∧ ∀ i m σ H, W i m σ H →
      ((Ite K a).stop i H ∧ D.nx σ H) ∨ ((Ite K a).go i H ∧ ∃ N : L2.St → Hp → Prop, (∀ σ' H', N σ' H' → ∃ m', m' < m ∧ W (i + 1) m' σ' H') ∧ ∀ x H', (Ite K a).yld i H x H' → g x σ H' fun σ2 H2 => tb { D with nx := N, ct := N, bk := D.nx } σ2 H2) := by
  refine ⟨fun i m σ H => m = xs.length - i ∧ i ≤ xs.length ∧ Pv i σ H, ⟨xs.length, rfl, Nat.zero_le _, h0⟩, ?_⟩
  rintro i m σ H ⟨rfl, hi, p⟩
  have q := hl i σ H p
  rcases Nat.lt_or_ge i xs.length with lt | ge
  · have hx : xs[i]? = some xs[i] := List.getElem?_eq_getElem lt
    refine .inr ⟨⟨xs, _, q, hx⟩, Pv (i + 1), fun σ' H' p' => ⟨xs.length - (i + 1), by omega, rfl, lt, p'⟩, fun x H' y => ?_⟩
    obtain ⟨t, z, rfl, ht, rfl, f1⟩ := y
    exact hs i z σ H t (f1 xs q) p ht
  · have e : i = xs.length := by omega
    subst e
    exact .inl ⟨⟨xs, q, Nat.le_refl _⟩, hd σ H p⟩
mutual
theorem Tp.dp {K : PySem.W.Frag} {H : Hp} : ∀ (d : PyData) {v : V}, Tp H v d → Dp K H v d
  | .none, _, h => by cases h; exact .non
  | .bool b, _, h => by cases h; exact .bl b
  | .int i, _, h => by cases h; exact .int i
  | .str x, _, h => by cases h; exact .str x
  | .tuple ds, _, h => by
    cases h with
    | tup h1 h3 => exact .tup (SqT.of h1) (TpL.dp ds h3)
theorem TpL.dp {K : PySem.W.Frag} {H : Hp} : ∀ (ds : List PyData) {vs : List V}, TpL H vs ds → DpAll K H vs ds
  | [], _, h => by cases h; exact .nil
  | d :: ds, _, h => by
    cases h with
    | cons h1 h2 => exact .cons (Tp.dp d h1) (TpL.dp ds h2)
end
theorem Dk.ext {H H' : Hp} {dk lf : Addr} (k : Kp [] H H') (D : Dk H dk lf) : Dk H' dk lf := ((Sn.start D).ext k).d
theorem Dk.there {H : Hp} {dk lf : Addr} (D : Dk H dk lf) : ∀ b ∈ [dk, lf], ∃ o, H b = some o := fun b hb => by
  obtain ⟨_, e, _⟩ := D.d
  obtain ⟨_, e2, _⟩ := D.l
  rcases List.mem_cons.mp hb with rfl | hb
  · exact ⟨_, e⟩
  · rw [List.mem_singleton.mp hb]; exact ⟨_, e2⟩
/-- what the rows of the last comparison are -/
def rowsC (d : PyData) (j : Nat) : List PyData := (List.range j).map fun (z : Nat) => .tuple [.int (z : Int), .str d.shown]
theorem rowsC_len {d : PyData} (j : Nat) : (rowsC d j).length = j := by unfold rowsC; rw [List.length_map, List.length_range]
theorem rowsC_succ {d : PyData} (j : Nat) : rowsC d (j + 1) = rowsC d j ++ [.tuple [.int (j : Int), .str d.shown]] := by
  unfold rowsC
  rw [List.range_succ, List.map_append]; rfl
theorem rowsC_shaped {d : PyData} (h : low d.shown) (j : Nat) : SeqAt.shaped (.list (rowsC d j)) = true := by
  have go : ∀ l : List Nat, PyData.canLayAll0 (l.map fun (z : Nat) => PyData.tuple [.int (z : Int), .str d.shown]) = true ∧ PyData.depthAll (l.map fun (z : Nat) => PyData.tuple [.int (z : Int), .str d.shown]) ≤ 1 := by
    intro l
    induction l with
    | nil => exact ⟨by simp [PyData.canLayAll0], by simp [PyData.depthAll]⟩
    | cons x r ih => exact ⟨by simp [PyData.canLayAll0, PyData.canLay0, ih.1, low_strOk h], by have := ih.2; simp only [List.map_cons, PyData.depthAll, PyData.depth]; omega⟩
  obtain ⟨a, b⟩ := go (List.range j)
  have a2 : PyData.canLayAll0 (rowsC d j) = true := a
  have b2 : PyData.depthAll (rowsC d j) ≤ 1 := b
  have c : PyData.canLay0 (.list (rowsC d j)) = true := by simp [PyData.canLay0, a2]
  have e : PyData.depth (.list (rowsC d j)) ≤ 64 := by simp only [PyData.depth]; omega
  unfold SeqAt.shaped
  rw [c, decide_eq_true e]; rfl
section
variable {P : Program} {w : World} {K : PySem.W.Frag} {mg : Str → Option Value} {base : Heap}
def spLaw (K : PySem.W.Frag) : Sp := fun vs H Q _ => ∃ (a : Addr) (ns : List Int), vs = [.ref a] ∧ SqL K H a (ns.map V.int) ∧ ns.length ≤ 63 ∧ ∀ H', Q (.bl true) H'
abbrev namesLaw : List Str := ["script", "deck", "turn", "one", "other", "near", "far", "at", "error", "way"]
theorem scLaw : FnScope namesLaw ["script"] (defScope sLaw) := ⟨rfl, rfl, rfl, by decide +kernel, rfl, by decide +kernel, by decide +kernel⟩
theorem okLaw (hN : Nine P w K mg base) {f g1 g2 g3 g4 g5 g6 g7 : Addr} {fd b1 b2 b3 b4 b5 b6 b7 : FuncData} (F : Fun K "law" "law" sLaw f fd) (T : Blt mg) (TX : BltX mg)
    (Ddeck : Df P w K mg base "_law_deck" 1 g1 b1 ["script"] (spDeck K)) (Dodd : Df P w K mg base "_law_odd" 3 g2 b2 ["deck", "it"] (spOdd K)) (Dprog : Df P w K mg base "_law_program" 12 g3 b3 ["deck", "used", "tagged", "fuel"] spProg)
    (Dpos : Df P w K mg base "_law_by_position" 3 g4 b4 ["it"] (spErrs hN.C)) (Dnm : Df P w K mg base "_law_by_name" 3 g5 b5 ["it"] (spErrs hN.C)) (Down : DfG P w K mg base "_law_is_own" 2 g6 b6 ["at", "error", "it"] (spOwn K hN.C))
    (Dcau : DfG P w K mg base "_law_caught" 3 g7 b7 ["way", "it"] (spCaught K)) : FnG P w K mg base CX0 13 f fd ["script"] (spLaw K) := by
  refine FnG.by0 F scLaw (fun vs H Q E h => by obtain ⟨_, _, rfl, _⟩ := h; rfl) (fun cdv A outer s H vs Q E noG hr h => ?_)
  obtain ⟨sc, ns, rfl, hsq, hns, k⟩ := h
  have hu := room70 hr
  refine ⟨_, (pss_cons (ps_set (i := 1) scLaw.nd rfl (Or.inl rfl) (pe_call Ddeck.ok (hr.mono (by decide)) (by rfl) Ddeck.m Ddeck.k Ddeck.b .nil pass0 (pa_cons (pv 0) pa_nil))) 
    (pss_cons (ps_for PassesOwn.never rfl (pi_range1 (by rfl) T.range (pa_cons pe_int pa_nil)) (pg_name (i := 2) scLaw.nd rfl (Or.inl rfl))
      (pss_cons (ps_asg (pe_tup (pa_cons (pe_call Dodd.ok (hr.mono (by decide)) (by rfl) Dodd.m Dodd.k Dodd.b .nil pass0 (pa_cons (pv 1) (pa_cons pe_non pa_nil))) (pa_cons (pe_lst (pa_cons (pe_call Dodd.ok (hr.mono (by decide)) (by rfl) Dodd.m Dodd.k Dodd.b .nil pass0 (pa_cons (pv 1) (pa_cons (pe_tup (pa_cons pe_int (pa_cons pe_str pa_nil))) pa_nil))) (pa_cons (pe_disp (pps_cons pe_str (pe_call Dodd.ok (hr.mono (by decide)) (by rfl) Dodd.m Dodd.k Dodd.b .nil pass0 (pa_cons (pv 1) (pa_cons pe_non pa_nil))) pps_nil) (by rfl) (by rfl) (fun z => by cases z) (by decide)) (pa_cons (pe_cmpR op_eq (pv 2) pe_int (nomark _)) pa_nil)))) pa_nil))) (pg_tup (by rfl) (pgs_cons (pg_name (i := 3) scLaw.nd rfl (Or.inr rfl)) (pgs_cons (pg_name (i := 4) scLaw.nd rfl (Or.inl rfl)) pgs_nil)))) 
      (Evl.pss_cut (ps_if (pt_cmpR op_eq (pv 2) pe_int (nomark _)) (pss_one (ps_set (i := 3) scLaw.nd rfl (Or.inr rfl) (pe_call Dprog.ok (hr.mono (by decide)) (by rfl) Dprog.m Dprog.k Dprog.b .nil pass0 (pa_cons (pv 1) (pa_cons (pe_lst pa_nil) (pa_cons (pe_lst pa_nil) (pa_cons pe_int pa_nil))))))) pss_nil) 
      (pss_cons (ps_par (i := 5) (j := 6) rfl scLaw.nd rfl rfl (by decide) rfl rfl (pa_cons (pe_call Dpos.ok (hr.mono (by decide)) (by rfl) Dpos.m Dpos.k Dpos.b .nil pass0 (pa_cons (pv 3) pa_nil)) (pa_cons (pe_call Dnm.ok (hr.mono (by decide)) (by rfl) Dnm.m Dnm.k Dnm.b .nil pass0 (pa_cons (pv 4) pa_nil)) pa_nil)) (by rfl)) 
      (pss_cons (ps_for PassesOwn.never rfl (pi_enum (by rfl) TX.enumerate (pa_cons (pv 5) pa_nil)) (pg_tup (by rfl) (pgs_cons (pg_name (i := 7) scLaw.nd rfl (Or.inl rfl)) (pgs_cons (pg_name (i := 8) scLaw.nd rfl (Or.inl rfl)) pgs_nil)))
        (pss_one (ps_if (PW.pt (pw_or (pt_not (pt_val (pe_callG Down.ok noG (hr.mono (by decide)) (by rfl) Down.m Down.k Down.b pass0 (pa_cons (pv 7) (pa_cons (pv 8) (pa_cons (pv 3) pa_nil)))))) (pw_or1 (pt_not (pt_val (pe_callG Down.ok noG (hr.mono (by decide)) (by rfl) Down.m Down.k Down.b pass0 (pa_cons (pv 7) (pa_cons (pe_ix ix_list (pv 6) (pv 7) (fun _ _ => rfl)) (pa_cons (pv 4) pa_nil))))))))) (pss_one (ps_ret pe_bl)) pss_nil))) 
      (pss_one (ps_if (pt_cmpR (op_neD hr.units) (pe_lc (own := [("way", 9)]) (g := gName 9) (tt := tYes) rfl scLaw.nd (pi_range1 (by rfl) T.range (pa_cons pe_int pa_nil)) (blkOk_by (N := namesLaw) (sc := defScope sLaw) (by decide +kernel)) (fun _ _ _ _ _ => pg_name (i := 9) scLaw.nd rfl (Or.inl rfl)) (fun _ _ _ _ _ => pts_nil) (fun _ _ _ _ _ => (pe_callG Dcau.ok noG (hr.mono (by decide)) (by rfl) Dcau.m Dcau.k Dcau.b pass0 (pa_cons (pv 9) (pa_cons (pv 3) pa_nil))))) (pe_lc (own := [("way", 9)]) (g := gName 9) (tt := tYes) (te := tTup (tCons (tVar 9) (tCons (tCB (rRep K) (tCons (tVar 3) tNil)) tNil))) rfl scLaw.nd (pi_range1 (by rfl) T.range (pa_cons pe_int pa_nil)) (blkOk_by (N := namesLaw) (sc := defScope sLaw) (by decide +kernel)) (fun _ _ _ _ _ => pg_name (i := 9) scLaw.nd rfl (Or.inl rfl)) (fun _ _ _ _ _ => pts_nil) (fun _ _ _ _ _ => (pe_tup (pa_cons (pv 9) (pa_cons (pe_callB (r := rRep K) (call_repr_At noG hu) (by rfl) TX.repr (by decide +kernel) (pa_cons (pv 3) pa_nil)) pa_nil))))) (nomark _)) (pss_one (ps_ret pe_bl)) pss_nil))))))) 
    (pss_one (ps_ret pe_bl)))), ?_⟩
  refine ⟨_, rfl, sc, ns, rfl, hsq, hns, fun H1 dk lf ndk nlf D1 K1 => ?_⟩
  refine ⟨3, rfl, by decide, by decide, ?_⟩
  refine for_range (lo := 0) (n := 3) (fun _ σ H' => ∃ c2 c3 c4 c5 c6 c7 c8 c9 : Option V, σ = [some (.ref sc), some (.ref dk), c2, c3, c4, c5, c6, c7, c8, c9] ∧ Dk H' dk lf)
    ⟨none, none, none, none, none, none, none, none, rfl, D1⟩ ?_ ?_
  · rintro i σ H1 hi ⟨c2, c3, c4, c5, c6, c7, c8, c9, rfl, D1⟩
    -- one, other = ..
    refine ⟨_, rfl, dk, lf, .non, [dk, lf], rfl, D1, fun _ h => h, D1.there, .inl rfl, fun H2 v1 o1 D2 K2 => ?_⟩
    refine ⟨_, rfl, by show 2 ≤ sizeLine; decide, fun p1 q1 => ?_⟩
    generalize hG : upd H2 p1 _ = H3
    obtain ⟨e3, k3⟩ : H3 p1 = some _ ∧ Kp [] H2 H3 := ⟨by rw [← hG]; exact upd_same, by rw [← hG]; exact Kp.new q1⟩
    clear hG
    have D3 := D2.ext k3
    refine ⟨dk, lf, .ref p1, [dk, lf], rfl, D3, fun _ h => h, D3.there, .inr ⟨p1, rfl, e3, D3.tup e3⟩, fun H4 v2 o2 D4 K4 => ?_⟩
    intro p2 q2
    generalize hG : upd H4 p2 _ = H5
    obtain ⟨e5, k5⟩ : H5 p2 = some _ ∧ Kp [] H4 H5 := ⟨by rw [← hG]; exact upd_same, by rw [← hG]; exact Kp.new q2⟩
    clear hG
    have D5 := D4.ext k5
    have n2 : p2 ∉ [dk, lf] := D4.mem q2
    refine ⟨_, rfl, dk, lf, .non, [p2, dk, lf], rfl, D5, fun b h => List.mem_cons_of_mem _ h, fun b h => ?_, .inl rfl, fun H6 v3 o3 D6 K6 => ?_⟩
    · rcases List.mem_cons.mp h with rfl | h
      · exact ⟨_, e5⟩
      · exact D5.there b h
    refine ⟨K6 _ _ e5 n2, [(.inr "a", v3)], rfl, by show 1 ≤ 15; decide, ?_⟩
    have K47 : Kp [dk, lf] H4 (upd H6 p2 (.dK (mergeK [] [(.inr "a", v3)]))) := ((k5.more fun _ h => nomatch h).trans K6).mut q2
    have K67 : Kp [p2, dk, lf] H6 (upd H6 p2 (.dK (mergeK [] [(.inr "a", v3)]))) := Kp.put (by simp)
    have D7 : Dk (upd H6 p2 (.dK (mergeK [] [(.inr "a", v3)]))) dk lf := D6.put_other (fun z => n2 (by simp [z])) (fun z => n2 (by simp [z]))
    generalize hG : upd H6 p2 _ = H7 at K47 K67 D7
    have e7 : H7 p2 = some (.dK [(.inr "a", v3)]) := by rw [← hG]; exact upd_same
    clear hG
    obtain ⟨d1, a1, l1⟩ := o1
    obtain ⟨d2, a2, l2⟩ := o2
    obtain ⟨d3, a3, l3⟩ := o3
    have a3 := At.less (M' := [dk, lf]) (fun b h => List.mem_cons_of_mem _ h) d3 (At.kp K67 d3 a3)
    have a2 := At.kp K47 d2 a2
    have a1 := At.kp (((k3.more fun _ h => nomatch h).trans K4).trans K47) d1 a1
    refine ⟨_, rfl, rfl, by show 3 ≤ sizeLine; decide, fun p3 q3 => ?_⟩
    generalize hG : upd H7 p3 _ = H8
    obtain ⟨e8, k8⟩ : H8 p3 = some _ ∧ Kp [] H7 H8 := ⟨by rw [← hG]; exact upd_same, by rw [← hG]; exact Kp.new q3⟩
    clear hG
    have n3 : p3 ∉ [dk, lf] := D7.mem q3
    have D8 := D7.ext k8
    refine ⟨by show 2 ≤ sizeLine; decide, fun p4 q4 => ?_⟩
    generalize hG : upd H8 p4 _ = H9
    obtain ⟨e9, k9⟩ : H9 p4 = some _ ∧ Kp [] H8 H9 := ⟨by rw [← hG]; exact upd_same, by rw [← hG]; exact Kp.new q4⟩
    clear hG
    have D9 := D8.ext k9
    have k79 := k8.trans k9
    have aO : At K [dk, lf] H9 (.ref p3) (.list [d2, .dict [(.str "a", d3)], .bool (decide (V.int (0 + (i : Int)) = V.int 1))]) :=
      .lst (SqL.of (k9.at e8)) n3 (.cons (At.ext k79 a2) (.cons (.dic (k79.at e7) n2 (.cons (k := .inr "a") (At.ext k79 a3) .nil)) (.cons (.bl _) .nil)))
    have lO : Ls 1000 6 (.list [d2, .dict [(.str "a", d3)], .bool (decide (V.int (0 + (i : Int)) = V.int 1))]) :=
      (LsA.cons (l2.more (Nat.le_refl _) (by decide)) (LsA.cons (Ls.dict1 ((Ls.str (n := 1) (low_of (by decide +kernel)) (by decide +kernel)).more (Nat.le_refl _) (by decide)) l3) (LsA.cons ((Ls.bl _).more (Nat.le_refl _) (by decide)) LsA.nil))).lst.more (by show 400 + (10 * 1 + 2 + 400 + 7 + (5 + 0)) + 2 * 3 + 3 ≤ 1000; decide) (by decide)
    have aI := At.ext k79 a1
    generalize PyData.list [d2, .dict [(.str "a", d3)], .bool (decide (V.int (0 + (i : Int)) = V.int 1))] = dO at aO lO
    refine ⟨p4, _, rfl, SqT.of e9, rfl, _, _, rfl, _, _, rfl, rfl, ?_⟩
    clear k3 K4 k5 K6 K47 K67 e3 e5 e7 e8 e9 k8 k9 k79 D2 D3 D4 D5 D6 D7 D8 a1 a2 a3 q1 q2 q3 q4 l2 l3
    -- if turn == 2
    refine ⟨fun σ H' => ∃ (v : V) (d : PyData), σ = [some (.ref sc), some (.ref dk), some (.int (0 + (i : Int))), some v, some (.ref p3), c5, c6, c7, c8, c9] ∧ At K [dk, lf] H' v d ∧ Ls 16000000 21 d ∧ At K [dk, lf] H' (.ref p3) dO ∧ Dk H' dk lf, ?_, ?_⟩
    · refine ⟨_, rfl, rfl, _, rfl, ite2 (fun _ => ?_) (fun _ => ?_)⟩
      · refine ⟨_, rfl, by decide, fun u hu2 => ?_⟩
        generalize hG : upd H9 u _ = Ha
        obtain ⟨ea, ka⟩ : Ha u = some _ ∧ Kp [] H9 Ha := ⟨by rw [← hG]; exact upd_same, by rw [← hG]; exact Kp.new hu2⟩
        clear hG
        refine ⟨by decide, fun tg ht2 => ?_⟩
        have nut : u ≠ tg := ne_of_none ea ht2
        generalize hG : upd Ha tg _ = Hb
        obtain ⟨eb, kb⟩ : Hb tg = some _ ∧ Kp [] Ha Hb := ⟨by rw [← hG]; exact upd_same, by rw [← hG]; exact Kp.new ht2⟩
        clear hG
        have Da := D9.ext ka
        have Db := Da.ext kb
        refine ⟨dk, lf, u, tg, [], [], 20, rfl, Db, D9.mem hu2, Da.mem ht2, nut, kb.at ea, eb, by decide, by decide, by decide, fun H' v S rows tp ok _ ro _ _ _ _ l5 _ _ D' K' => ?_⟩
        have al : ∀ a xs, H' a = some (.tup xs) → a ∉ [dk, lf] := fun a xs e => D'.tup e
        have ll : rows.length ≤ 5 := by
          have := congrArg List.length (show rows.map (·.1) = S.fs.map (·.1) by assumption)
          rw [List.length_map, List.length_map] at this
          omega
        refine ⟨v, _, rfl, Tp.at al _ tp, rows_ls ok ro ll, ?_, D'⟩
        have kab := ka.trans kb
        have K9 : Kp [dk, lf] H9 H' := fun b o hb nb => K' b o (kab b o hb (by simp)) fun z => by
          simp only [List.mem_cons, List.not_mem_nil, or_false] at z nb
          rcases z with z | z | z | z
          · exact nb (.inl z)
          · exact nb (.inr z)
          · rw [z, hu2] at hb; cases hb
          · have := ka b o hb (by simp)
            rw [z, ht2] at this; cases this
        exact At.kp K9 dO aO
      · exact ⟨v1, d1, rfl, aI, l1.more (by decide) (by decide), aO, D9⟩
    clear aI l1 aO D9 k
    rintro σ H1 ⟨v, d, rfl, aI, l, aO, D⟩
    -- near, far
    refine ⟨_, rfl, v, rfl, fun H2 N xs lx eN xN k2 => ⟨_, rfl, _, rfl, fun H3 Fa ys ly eF xF k3 => ⟨_, _, rfl, ?_⟩⟩⟩
    have xN := xN.kp k3
    have eN := k3.at eN
    have k13 := k2.trans k3
    have aI := At.ext k13 aI
    have aO := At.ext k13 aO
    have D := D.ext k13
    clear k2 k13
    have big : Ls sizeLine 60 d := l.more (by decide) (by decide)
    have bigO : Ls sizeLine 60 dO := lO.more (by decide) (by decide)
    -- for at, error in enumerate(near)
    refine ⟨_, rfl, N, xs, rfl, SqL.of eN, for_enum (K := K) (a := N) (xs := xs) (fun _ σ H' => ∃ c7 c8 : Option V, σ = [some (.ref sc), some (.ref dk), some (.int (0 + (i : Int))), some v, some (.ref p3), some (.ref N), some (.ref Fa), c7, c8, c9] ∧ Kp [] H3 H')
      ⟨_, _, rfl, Kp.refl _ _⟩ ?_ ?_ ?_⟩
    · rintro j σ H' ⟨c7, c8, rfl, kk⟩
      exact SqL.of (kk.at eN)
    · rintro j x σ H' t hx ⟨c7, c8, rfl, kk⟩ ht
      obtain ⟨e, rfl, ex⟩ := xN.get hx
      rw [Nat.zero_add] at ex
      have j9 : j < 9 := by have := (List.getElem?_eq_some_iff.mp hx).1; omega
      generalize hG : upd H' t _ = H4
      obtain ⟨e4, k4⟩ : H4 t = some _ ∧ Kp [] H' H4 := ⟨by rw [← hG]; exact upd_same, by rw [← hG]; exact Kp.new ht⟩
      clear hG
      have k34 := kk.trans k4
      refine ⟨t, _, rfl, SqT.of e4, rfl, _, _, rfl, _, _, rfl, rfl, ?_⟩
      refine ⟨_, rfl, _, rfl, _, rfl, [dk, lf], [dk, lf], j, e, v, v, d, rfl, j9, ex.kp k34, At.ext k34 aI, At.ext k34 aI, big, fun H5 k5 => ⟨_, rfl, iteF ?_⟩⟩
      have k35 := k34.trans k5
      have hy : ys[j]? = some ys[j] := List.getElem?_eq_getElem (by omega)
      obtain ⟨e2, ey, ex2⟩ := xF.get hy
      rw [Nat.zero_add] at ex2
      refine ⟨_, rfl, _, rfl, _, rfl, Fa, ys, j, ys[j]'(by omega), rfl, rfl, SqL.of (k35.at eF), atI_nat hy, _, rfl, ?_⟩
      refine ⟨[dk, lf], [dk, lf], j, e2, .ref p3, .ref p3, dO, by rw [ey]; rfl, j9, ex2.kp k35, At.ext k35 aO, At.ext k35 aO, bigO, fun H6 k6 => ⟨_, rfl, iteF ?_⟩⟩
      exact ⟨_, _, rfl, k35.trans k6⟩
    · rintro σ H4 ⟨c7, c8, rfl, kk⟩
      have aI := At.ext kk aI
      have D := D.ext kk
      clear eN xN eF xF aO bigO
      -- the two lists
      refine ⟨6, rfl, by decide, by decide, fun L1 h1 => ?_⟩
      refine lc_range (lo := 0) (n := 6) (fun j H' => ∃ vs : List V, H' L1 = some (.lst vs) ∧ TpL H' vs (rowsC d j) ∧ Kp [] H4 H') ⟨[], upd_same, .nil, Kp.new h1⟩ ?_ ?_
      · rintro j H' hj ⟨vs, e1, tp, k1⟩
        refine ⟨rfl, yesI ⟨_, rfl, _, rfl, [dk, lf], j, v, d, by rw [Int.zero_add]; rfl, hj, At.ext k1 aI, big, fun H5 r e5 k5 => ?_⟩⟩
        have e1 := k5.at e1
        have vl : vs.length = j := by rw [tp.length, rowsC_len]
        refine ⟨vs, e1, small1000 (by omega), vs ++ [.ref r], upd_same, ?_, (k1.trans k5).mut h1⟩
        rw [rowsC_succ]
        exact (TpL.tt ((TT.ext k5).trans (TT.put e1)) _ tp).snoc (Tp.tt (TT.put e1) _ (.tup e5 (.cons (.int _) (.cons (.str _) .nil))))
      · rintro H5 ⟨us, e1, t1, k5⟩
        have aI := At.ext k5 aI
        have D := D.ext k5
        refine ⟨6, rfl, by decide, by decide, fun L2 h2 => ?_⟩
        refine lc_range (lo := 0) (n := 6) (fun j H' => ∃ vs : List V, H' L2 = some (.lst vs) ∧ TpL H' vs (rowsC d j) ∧ Kp [] H5 H') ⟨[], upd_same, .nil, Kp.new h2⟩ ?_ ?_
        · rintro j H' hj ⟨vs, e2, tp, k1⟩
          refine ⟨rfl, yesI ⟨_, rfl, _, rfl, [dk, lf], v, d, rfl, At.ext k1 aI, big.s, big.d, big.l, by show 2 ≤ sizeLine; decide, fun r hr => ?_⟩⟩
          generalize hG : upd H' r _ = H6
          obtain ⟨e6, k6⟩ : H6 r = some _ ∧ Kp [] H' H6 := ⟨by rw [← hG]; exact upd_same, by rw [← hG]; exact Kp.new hr⟩
          clear hG
          have e2 := k6.at e2
          have vl : vs.length = j := by rw [tp.length, rowsC_len]
          refine ⟨vs, e2, small1000 (by omega), vs ++ [.ref r], upd_same, ?_, (k1.trans k6).mut h2⟩
          rw [rowsC_succ]
          rw [Int.zero_add] at e6
          exact (TpL.tt ((TT.ext k6).trans (TT.put e2)) _ tp).snoc (Tp.tt (TT.put e2) _ (.tup e6 (.cons (.int _) (.cons (.str _) .nil))))
        · rintro H6 ⟨ws, e2, t2, k6⟩
          have e1 := k6.at e1
          have t1 := TpL.tt (TT.ext k6) _ t1
          have sh := rowsC_shaped (d := d) l.o 6
          refine ⟨.list (rowsC d 6), .list (rowsC d 6), .lst (SqL.of e1) (TpL.dp _ t1), .lst (SqL.of e2) (TpL.dp _ t2), sh, sh, ?_⟩
          rw [eqvSelf _ (SeqAt.canLay_of_shaped sh)]
          exact ⟨_, rfl, iteF ⟨_, _, _, _, _, _, _, _, rfl, D.ext k6⟩⟩
  · rintro σ H' ⟨c2, c3, c4, c5, c6, c7, c8, c9, rfl, D⟩
    exact k H'
end
end Dh

/-! DhK -/
set_option Elab.async false
set_option linter.all false
set_option maxRecDepth 100000
set_option maxHeartbeats 4000000
namespace Dh
open PySem PySem.Spec PyProof.Rows L2

/-! ### what the top has left of a class of errors -/
section
variable {K : PySem.W.Frag} {C D : Addr} {nm q : Str} {N : Addr} {bs bm : List Value} {sn : List Str} {sub : List Value} {ab : Bool} {col : Option Bool} {dd : Option Addr} {m0 m1 m2 m3 m5 : Option Value}
theorem xcls (x : K.lookup C = some (excClassObj nm q C N bs bm true sn sub ab col dd m0 m1 m2 m3 m5 "Exception.__new__")) : ∃ cd, PySem.W.clsIn K C = some cd ∧ cd.mro = .ref C :: bm ∧ cd.hasDict = true := by
  refine ⟨⟨nm, bs, .ref C :: bm, N, q, true, sn, sub, ab, col, false⟩, ?_, rfl, rfl⟩
  unfold PySem.W.clsIn
  rw [x] <;> rfl
theorem xmro (x : K.lookup C = some (excClassObj nm q C N bs bm true sn sub ab col dd m0 m1 m2 m3 m5 "Exception.__new__")) (b : Value) : PySem.W.subIn K (.ref C) b = some ((Value.ref C :: bm).contains b) := by
  obtain ⟨cd, h1, h2, _⟩ := xcls x
  show PySem.W.mroIn K C b = _
  unfold PySem.W.mroIn
  rw [h1, Option.bind_some, h2]
  rfl
theorem xdex (x : K.lookup C = some (excClassObj nm q C N bs [.ref D, .type "Exception", .type "BaseException", .type "object"] true sn sub ab col dd m0 m1 m2 m3 m5 "Exception.__new__"))
    (no : PySem.W.findIn K (.ref C) "thing" = some none) (sa : PySem.W.findIn K (.ref C) "__setattr__" = some (some (.builtin "object.__setattr__"))) (ga : PySem.W.findIn K (.ref C) "__getattribute__" = some (some (.builtin "BaseException.__getattribute__")))
    (gg : PySem.W.findIn K (.ref C) "__getattr__" = some none) (kC : PySem.W.keepIn K (.ref C) = true) (cla : PySem.W.findIn K (.ref C) "__class__" = some (some (.builtin "object.__class__")))
    (hn : PySem.W.specialIn K (.builtin "object.__class__") "__get__" = some (some (.builtin "getset_descriptor.__get__"))) (ht : PySem.W.takesIn K (.builtin "object.__class__") = some true) : DexC K C := by
  obtain ⟨cd, h1, h2, h3⟩ := xcls x
  have tail : PySem.W.excTail HandSPX.bmX [.ref D, .type "Exception", .type "BaseException", .type "object"] = true := by
    show ((HandSPX.bmX : List Value) == HandSPX.bmX) = true
    exact beq_self_eq_true _
  refine { ini := ?_, ovr := ?_, tak := ?_, no := no, sa := sa, ga := ga, gg := gg, exC := ?_, tyC := ?_, kC := kC, hdC := ?_, isC := ?_, cla := cla, hn := hn, ht := ht, hm := ?_ }
  · unfold PySem.W.excInitIn
    rw [x]
    show ((C == C) && ("Exception.__new__" == "Exception.__new__") && !false && PySem.W.excTail HandSPX.bmX [.ref D, .type "Exception", .type "BaseException", .type "object"]) = true
    rw [tail]
    simp
  · unfold PySem.W.excOver
    rw [h1]
    show (match cd.mro with | .ref C' :: bm => C' == C && PySem.W.excTail HandSPX.bmX bm | _ => false) = true
    rw [h2]
    show ((C == C) && PySem.W.excTail HandSPX.bmX _) = true
    rw [tail]
    simp
  · unfold PySem.W.takerIn
    rw [no]; rfl
  · rw [xmro x]; simp
  · show (K.lookup C).map (·.cls) = _
    rw [x]; rfl
  · unfold PySem.W.hasDictIn
    rw [h1]
    exact h3
  · rw [h1]; rfl
  · exact (xmro x (.type "object")).trans (by simp)
end

structure Tp1 (K : PySem.W.Frag) (x : Str) (st : Stmt) (f : Addr) (fd : FuncData) : Prop where
  a : PySem.W.nsIn K mainGlobals x = some (some (.ref f))
  F : Fun K x x st f fd
theorem top_mk {K : PySem.W.Frag} {x : Str} {st : Stmt} {f : Addr} {oc : Value} {od an : Option Addr} {sl : Array (Option Value)} {kV dc pm cd ct : Value} (a : PySem.W.nsIn K mainGlobals x = some (some (.ref f)))
    (l : K.lookup f = some ⟨oc, od, .func (PySem.W.fnOf x x (defArgs st) (defBody st) (defScope st) .none kV dc pm an cd ct), sl⟩) (c : PySem.W.codeIn K cd x = true) (k : PySem.W.keepIn K (.ref f) = true) :
    Tp1 K x st f (PySem.W.fnOf x x (defArgs st) (defBody st) (defScope st) .none kV dc pm an cd ct) := ⟨a, fun_mk l c k⟩
abbrev tailX (D : Addr) : List Value := [.ref D, .type "Exception", .type "BaseException", .type "object"]
structure Clx (K : PySem.W.Frag) (x qual : Str) (st : Stmt) (D C f : Addr) (fd : FuncData) : Prop where
  a : PySem.W.nsIn K mainGlobals x = some (some (.ref C))
  s : ∀ b : Value, PySem.W.subIn K (.ref C) b = some ((Value.ref C :: tailX D).contains b)
  d : DexC K C
  i : PySem.W.findIn K (.ref C) "__init__" = some (some (.ref f))
  t : PySem.W.typeIn K (.ref f) = some (.type "function")
  F : Fun K "__init__" qual st f fd
theorem cls_mk {K : PySem.W.Frag} {x qual : Str} {st : Stmt} {D C f : Addr} {oc : Value} {od an : Option Addr} {sl : Array (Option Value)} {kV dc pm cd ct : Value} {nm q : Str} {N : Addr} {bs : List Value} {sn : List Str} {sub : List Value} {ab : Bool} {col : Option Bool} {dd : Option Addr} {m0 m1 m2 m3 m5 : Option Value}
    (a : PySem.W.nsIn K mainGlobals x = some (some (.ref C))) (xL : K.lookup C = some (excClassObj nm q C N bs (tailX D) true sn sub ab col dd m0 m1 m2 m3 m5 "Exception.__new__"))
    (no : PySem.W.findIn K (.ref C) "thing" = some none) (sa : PySem.W.findIn K (.ref C) "__setattr__" = some (some (.builtin "object.__setattr__"))) (ga : PySem.W.findIn K (.ref C) "__getattribute__" = some (some (.builtin "BaseException.__getattribute__")))
    (gg : PySem.W.findIn K (.ref C) "__getattr__" = some none) (kC : PySem.W.keepIn K (.ref C) = true) (cla : PySem.W.findIn K (.ref C) "__class__" = some (some (.builtin "object.__class__")))
    (hn : PySem.W.specialIn K (.builtin "object.__class__") "__get__" = some (some (.builtin "getset_descriptor.__get__"))) (ht : PySem.W.takesIn K (.builtin "object.__class__") = some true)
    (i : PySem.W.findIn K (.ref C) "__init__" = some (some (.ref f))) (t : PySem.W.typeIn K (.ref f) = some (.type "function"))
    (l : K.lookup f = some ⟨oc, od, .func (PySem.W.fnOf "__init__" qual (defArgs st) (defBody st) (defScope st) .none kV dc pm an cd ct), sl⟩) (c : PySem.W.codeIn K cd qual = true) (k : PySem.W.keepIn K (.ref f) = true) :
    Clx K x qual st D C f (PySem.W.fnOf "__init__" qual (defArgs st) (defBody st) (defScope st) .none kV dc pm an cd ct) := ⟨a, xmro xL, xdex xL no sa ga gg kC cla hn ht, i, t, fun_mk l c k⟩
/-! ### the tables of isinstance and except -/
section
variable {K : PySem.W.Frag} {C : Nat → Addr} {D : Addr} (sx : ∀ i, i < 9 → ∀ b : Value, PySem.W.subIn K (.ref (C i)) b = some ((Value.ref (C i) :: tailX D).contains b)) (dx : ∀ i, i < 9 → DexC K (C i))
  (inj : ∀ i, i < 9 → ∀ j, j < 9 → C i = C j → i = j) (nd : ∀ i, i < 9 → C i ≠ D)
include sx dx inj nd in
theorem tab_sub : ∀ i, i < 9 → ∀ j, j < 9 → PySem.W.subIn K (.ref (C i)) (.ref (C j)) = some (decide (i = j)) := by
  intro i hi j hj
  rw [sx i hi]
  by_cases e : i = j
  · subst e
    simp
  · have ne : C j ≠ C i := fun z => e (inj j hj i hi z).symm
    have e2 : decide (i = j) = false := decide_eq_false e
    rw [e2]
    have n2 := nd j hj
    simp [ne, n2]
include sx dx inj nd in
theorem tab_cls : ∀ i, i < 9 → ∀ j, j < 9 → PySem.W.kitCls K (.ref (C i)) (.ref (C j)) = some (decide (i = j)) := by
  intro i hi j hj
  unfold PySem.W.kitCls
  show (if ((PySem.W.clsIn K (C j)).isSome && PySem.W.typeIn K (.ref (C j)) == some (.type "type")) = true then PySem.W.subIn K (.ref (C i)) (.ref (C j)) else none) = _
  rw [(dx j hj).isC, (dx j hj).tyC, if_pos (by simp), tab_sub sx dx inj nd i hi j hj]
include sx dx inj nd in
theorem tab_own : ∀ i, i < 9 → ∀ j, j < 9 → PySem.W.kitOne K (.ref (C i)) (.ref (C j)) = some (decide (i = j)) := by
  intro i hi j hj
  unfold PySem.W.kitOne
  by_cases e : i = j
  · subst e
    rw [if_pos (beq_self_eq_true _), decide_eq_true rfl]
  · have ne : (Value.ref (C i) == Value.ref (C j)) = false := by
      rw [beq_eq_false_iff_ne]
      exact fun z => e (inj i hi j hj (Value.ref.inj z))
    rw [if_neg (by rw [ne]; exact Bool.false_ne_true), tab_cls sx dx inj nd i hi j hj]
include sx dx inj nd in
theorem tab_exm : ∀ i, i < 9 → ∀ j, j < 9 → PySem.W.exmOne K (.ref (C i)) (.ref (C j)) = some (decide (i = j)) := by
  intro i hi j hj
  unfold PySem.W.exmOne
  rw [(dx j hj).exC, if_pos (by simp), tab_cls sx dx inj nd i hi j hj]
variable (iD : (PySem.W.clsIn K D).isSome = true) (tD : PySem.W.typeIn K (.ref D) = some (.type "type")) (eD : PySem.W.subIn K (.ref D) (.type "BaseException") = some true)
include sx iD tD in
theorem tab_clsD : ∀ i, i < 9 → PySem.W.kitCls K (.ref (C i)) (.ref D) = some true := by
  intro i hi
  unfold PySem.W.kitCls
  show (if ((PySem.W.clsIn K D).isSome && PySem.W.typeIn K (.ref D) == some (.type "type")) = true then PySem.W.subIn K (.ref (C i)) (.ref D) else none) = _
  rw [iD, tD, if_pos (by simp), sx i hi]
  simp
include sx nd iD tD in
theorem tab_debt : ∀ i, i < 9 → PySem.W.kitOne K (.ref (C i)) (.ref D) = some true := by
  intro i hi
  unfold PySem.W.kitOne
  have ne : (Value.ref (C i) == Value.ref D) = false := by
    rw [beq_eq_false_iff_ne]
    exact fun z => nd i hi (Value.ref.inj z)
  rw [if_neg (by rw [ne]; exact Bool.false_ne_true), tab_clsD sx iD tD i hi]
include sx iD tD eD in
theorem tab_exD : ∀ i, i < 9 → PySem.W.exmOne K (.ref (C i)) (.ref D) = some true := by
  intro i hi
  unfold PySem.W.exmOne
  rw [eD, if_pos (by simp), tab_clsD sx iD tD i hi]
include sx in
theorem tab_ty {T : String} {b : Bool} (hm : PySem.W.kitMeta T = true) (hb : ∀ c : Addr, (Value.ref c :: tailX D).contains (.type T) = b) : ∀ i, i < 9 → PySem.W.kitOne K (.ref (C i)) (.type T) = some b := by
  intro i hi
  unfold PySem.W.kitOne
  rw [if_neg (by simp)]
  unfold PySem.W.kitCls
  show (if PySem.W.kitMeta T = true then PySem.W.subIn K (.ref (C i)) (.type T) else none) = _
  rw [if_pos hm, sx i hi, hb]
include sx in
theorem tab_six : ∀ i, i < 9 → PySem.W.kitAny K (.ref (C i)) [.type "ValueError", .type "TypeError", .type "LookupError", .type "ArithmeticError", .type "RuntimeError", .type "AttributeError"] = some false := by
  intro i hi
  simp only [PySem.W.kitAny, tab_ty sx (T := "ValueError") (b := false) (by decide +kernel) (fun c => by simp) i hi, tab_ty sx (T := "TypeError") (b := false) (by decide +kernel) (fun c => by simp) i hi, tab_ty sx (T := "LookupError") (b := false) (by decide +kernel) (fun c => by simp) i hi,
    tab_ty sx (T := "ArithmeticError") (b := false) (by decide +kernel) (fun c => by simp) i hi, tab_ty sx (T := "RuntimeError") (b := false) (by decide +kernel) (fun c => by simp) i hi, tab_ty sx (T := "AttributeError") (b := false) (by decide +kernel) (fun c => by simp) i hi]
end

theorem all_mk {l : PySem.W.OpenLaw} {w : World} {K : PySem.W.Frag} {h : Heap} {mg : Str → Option Value} {fa : Addr} (X : K.In h) (G : h.Ns mainGlobals mg) (hfa : mg "law" = some (.ref fa))
    {f12 f13 f14 f15 f16 f17 f18 f19 f20 f21 f22 f23 f24 f25 f26 f27 f28 f29 : Addr} {fd12 fd13 fd14 fd15 fd16 fd17 fd18 fd19 fd20 fd21 fd22 fd23 fd24 fd25 fd26 fd27 fd28 fd29 : FuncData} {D C0 C1 C2 C3 C4 C5 C6 C7 C8 g0 g1 g2 g3 g4 g5 g6 g7 g8 : Addr} {gd0 gd1 gd2 gd3 gd4 gd5 gd6 gd7 gd8 : FuncData}
    (t12 : Tp1 K "_law_deck" sDeck f12 fd12)
    (t13 : Tp1 K "_law_draw" sDraw f13 fd13)
    (t14 : Tp1 K "_law_pick" sPick f14 fd14)
    (t15 : Tp1 K "_law_same" sSame f15 fd15)
    (t16 : Tp1 K "_law_shuffled" sShuf f16 fd16)
    (t17 : Tp1 K "_law_name" sName f17 fd17)
    (t18 : Tp1 K "_law_tag" sTag f18 fd18)
    (t19 : Tp1 K "_law_leaf" sLeaf f19 fd19)
    (t20 : Tp1 K "_law_expression" sExpr f20 fd20)
    (t21 : Tp1 K "_law_signs" sSigns f21 fd21)
    (t22 : Tp1 K "_law_program" sProg f22 fd22)
    (t23 : Tp1 K "_law_odd" sOdd f23 fd23)
    (t24 : Tp1 K "_law_by_position" sPos f24 fd24)
    (t25 : Tp1 K "_law_by_name" sNm f25 fd25)
    (t26 : Tp1 K "_law_kinds" sKinds f26 fd26)
    (t27 : Tp1 K "_law_is_own" sOwn f27 fd27)
    (t28 : Tp1 K "_law_caught" sCaught f28 fd28)
    (t29 : Tp1 K "law" sLaw f29 fd29)
    (c0 : Clx K "BadProgram" "BadProgram.__init__" (inside 2) D C0 g0 gd0)
    (c1 : Clx K "BadText" "BadText.__init__" (inside 3) D C1 g1 gd1)
    (c2 : Clx K "BadChecked" "BadChecked.__init__" (inside 4) D C2 g2 gd2)
    (c3 : Clx K "BadWorld" "BadWorld.__init__" (inside 5) D C3 g3 gd3)
    (c4 : Clx K "BadNumber" "BadNumber.__init__" (inside 6) D C4 g4 gd4)
    (c5 : Clx K "BadKind" "BadKind.__init__" (inside 7) D C5 g5 gd5)
    (c6 : Clx K "BadName" "BadName.__init__" (inside 8) D C6 g6 gd6)
    (c7 : Clx K "BadPromise" "BadPromise.__init__" (inside 9) D C7 g7 gd7)
    (c8 : Clx K "BadDeed" "BadDeed.__init__" (inside 10) D C8 g8 gd8)
    (aD : PySem.W.nsIn K mainGlobals "DebtError" = some (some (.ref D))) (iD : PySem.W.isClsIn K D = true) (tD : PySem.W.typeIn K (.ref D) = some (.type "type")) (eD : PySem.W.subIn K (.ref D) (.type "BaseException") = some true)
    (apart : [D, C0, C1, C2, C3, C4, C5, C6, C7, C8].Nodup)
    (z_int : PySem.W.nsIn K mainGlobals "int" = some none)
    (z_len : PySem.W.nsIn K mainGlobals "len" = some none)
    (z_max : PySem.W.nsIn K mainGlobals "max" = some none)
    (z_list : PySem.W.nsIn K mainGlobals "list" = some none)
    (z_range : PySem.W.nsIn K mainGlobals "range" = some none)
    (z_str : PySem.W.nsIn K mainGlobals "str" = some none)
    (z_tuple : PySem.W.nsIn K mainGlobals "tuple" = some none)
    (z_isinstance : PySem.W.nsIn K mainGlobals "isinstance" = some none)
    (z_repr : PySem.W.nsIn K mainGlobals "repr" = some none)
    (z_enumerate : PySem.W.nsIn K mainGlobals "enumerate" = some none)
    (z_ValueError : PySem.W.nsIn K mainGlobals "ValueError" = some none)
    (z_TypeError : PySem.W.nsIn K mainGlobals "TypeError" = some none)
    (z_LookupError : PySem.W.nsIn K mainGlobals "LookupError" = some none)
    (z_ArithmeticError : PySem.W.nsIn K mainGlobals "ArithmeticError" = some none)
    (z_RuntimeError : PySem.W.nsIn K mainGlobals "RuntimeError" = some none)
    (z_AttributeError : PySem.W.nsIn K mainGlobals "AttributeError" = some none)
    (z_Exception : PySem.W.nsIn K mainGlobals "Exception" = some none)
    (z_StopIteration : PySem.W.nsIn K mainGlobals "StopIteration" = some none)
    : ∃ fd : FuncData, (∀ (s : Shared) (u : Value), BindsTo s fd ⟨[u], []⟩ [("script", u)]) ∧ ∀ base : Heap, K.In base → base.Ns mainGlobals mg → FnG l.prog w K mg base CX0 13 fa fd ["script"] (spLaw K) := by
  have e := hfa.symm.trans (PySem.W.mg_of X G t29.a)
  cases e
  have T : Blt mg := ⟨PySem.W.mg_none_of X G z_int, PySem.W.mg_none_of X G z_len, PySem.W.mg_none_of X G z_max, PySem.W.mg_none_of X G z_list, PySem.W.mg_none_of X G z_range, PySem.W.mg_none_of X G z_str, PySem.W.mg_none_of X G z_tuple⟩
  have TX : BltX mg := ⟨PySem.W.mg_none_of X G z_isinstance, PySem.W.mg_none_of X G z_repr, PySem.W.mg_none_of X G z_enumerate⟩
  have TE : BltE mg := ⟨PySem.W.mg_none_of X G z_ValueError, PySem.W.mg_none_of X G z_TypeError, PySem.W.mg_none_of X G z_LookupError, PySem.W.mg_none_of X G z_ArithmeticError, PySem.W.mg_none_of X G z_RuntimeError, PySem.W.mg_none_of X G z_AttributeError, PySem.W.mg_none_of X G z_Exception, PySem.W.mg_none_of X G z_StopIteration⟩
  have b12 := t12.F.binds (ps := ["script"]) fun _ _ _ _ _ _ us hl => match us, hl with | [_], _ => rfl
  have m12 := PySem.W.mg_of X G t12.a
  have b13 := t13.F.binds (ps := ["deck", "many"]) fun _ _ _ _ _ _ us hl => match us, hl with | [_, _], _ => rfl
  have m13 := PySem.W.mg_of X G t13.a
  have b14 := t14.F.binds (ps := ["deck", "some"]) fun _ _ _ _ _ _ us hl => match us, hl with | [_, _], _ => rfl
  have m14 := PySem.W.mg_of X G t14.a
  have b15 := t15.F.binds (ps := ["told", "due"]) fun _ _ _ _ _ _ us hl => match us, hl with | [_, _], _ => rfl
  have m15 := PySem.W.mg_of X G t15.a
  have b16 := t16.F.binds (ps := ["deck", "some"]) fun _ _ _ _ _ _ us hl => match us, hl with | [_, _], _ => rfl
  have m16 := PySem.W.mg_of X G t16.a
  have b17 := t17.F.binds (ps := ["deck", "used"]) fun _ _ _ _ _ _ us hl => match us, hl with | [_, _], _ => rfl
  have m17 := PySem.W.mg_of X G t17.a
  have b18 := t18.F.binds (ps := ["deck", "used"]) fun _ _ _ _ _ _ us hl => match us, hl with | [_, _], _ => rfl
  have m18 := PySem.W.mg_of X G t18.a
  have b19 := t19.F.binds (ps := ["deck", "scope"]) fun _ _ _ _ _ _ us hl => match us, hl with | [_, _], _ => rfl
  have m19 := PySem.W.mg_of X G t19.a
  have b20 := t20.F.binds (ps := ["deck", "signs", "scope", "deep"]) fun _ _ _ _ _ _ us hl => match us, hl with | [_, _, _, _], _ => rfl
  have m20 := PySem.W.mg_of X G t20.a
  have b21 := t21.F.binds (ps := ["deck", "used", "tagged"]) fun _ _ _ _ _ _ us hl => match us, hl with | [_, _, _], _ => rfl
  have m21 := PySem.W.mg_of X G t21.a
  have b22 := t22.F.binds (ps := ["deck", "used", "tagged", "fuel"]) fun _ _ _ _ _ _ us hl => match us, hl with | [_, _, _, _], _ => rfl
  have m22 := PySem.W.mg_of X G t22.a
  have b23 := t23.F.binds (ps := ["deck", "it"]) fun _ _ _ _ _ _ us hl => match us, hl with | [_, _], _ => rfl
  have m23 := PySem.W.mg_of X G t23.a
  have b24 := t24.F.binds (ps := ["it"]) fun _ _ _ _ _ _ us hl => match us, hl with | [_], _ => rfl
  have m24 := PySem.W.mg_of X G t24.a
  have b25 := t25.F.binds (ps := ["it"]) fun _ _ _ _ _ _ us hl => match us, hl with | [_], _ => rfl
  have m25 := PySem.W.mg_of X G t25.a
  have b26 := t26.F.binds (ps := ["error"]) fun _ _ _ _ _ _ us hl => match us, hl with | [_], _ => rfl
  have m26 := PySem.W.mg_of X G t26.a
  have b27 := t27.F.binds (ps := ["at", "error", "it"]) fun _ _ _ _ _ _ us hl => match us, hl with | [_, _, _], _ => rfl
  have m27 := PySem.W.mg_of X G t27.a
  have b28 := t28.F.binds (ps := ["way", "it"]) fun _ _ _ _ _ _ us hl => match us, hl with | [_, _], _ => rfl
  have m28 := PySem.W.mg_of X G t28.a
  have p0 : Bth K gd0 := ⟨c0.F.binds (ps := ["self", "thing"]) fun _ _ _ _ _ _ us hl => match us, hl with | [_, _], _ => rfl, fun s v u => by
    obtain ⟨_, _, _, _, _, _, _, _, _, rfl, _⟩ := c0.F.ex
    exact .of_eq rfl⟩
  have p1 : Bth K gd1 := ⟨c1.F.binds (ps := ["self", "thing"]) fun _ _ _ _ _ _ us hl => match us, hl with | [_, _], _ => rfl, fun s v u => by
    obtain ⟨_, _, _, _, _, _, _, _, _, rfl, _⟩ := c1.F.ex
    exact .of_eq rfl⟩
  have p2 : Bth K gd2 := ⟨c2.F.binds (ps := ["self", "thing"]) fun _ _ _ _ _ _ us hl => match us, hl with | [_, _], _ => rfl, fun s v u => by
    obtain ⟨_, _, _, _, _, _, _, _, _, rfl, _⟩ := c2.F.ex
    exact .of_eq rfl⟩
  have p3 : Bth K gd3 := ⟨c3.F.binds (ps := ["self", "thing"]) fun _ _ _ _ _ _ us hl => match us, hl with | [_, _], _ => rfl, fun s v u => by
    obtain ⟨_, _, _, _, _, _, _, _, _, rfl, _⟩ := c3.F.ex
    exact .of_eq rfl⟩
  have p4 : Bth K gd4 := ⟨c4.F.binds (ps := ["self", "thing"]) fun _ _ _ _ _ _ us hl => match us, hl with | [_, _], _ => rfl, fun s v u => by
    obtain ⟨_, _, _, _, _, _, _, _, _, rfl, _⟩ := c4.F.ex
    exact .of_eq rfl⟩
  have p5 : Bth K gd5 := ⟨c5.F.binds (ps := ["self", "thing"]) fun _ _ _ _ _ _ us hl => match us, hl with | [_, _], _ => rfl, fun s v u => by
    obtain ⟨_, _, _, _, _, _, _, _, _, rfl, _⟩ := c5.F.ex
    exact .of_eq rfl⟩
  have p6 : Bth K gd6 := ⟨c6.F.binds (ps := ["self", "thing"]) fun _ _ _ _ _ _ us hl => match us, hl with | [_, _], _ => rfl, fun s v u => by
    obtain ⟨_, _, _, _, _, _, _, _, _, rfl, _⟩ := c6.F.ex
    exact .of_eq rfl⟩
  have p7 : Bth K gd7 := ⟨c7.F.binds (ps := ["self", "thing"]) fun _ _ _ _ _ _ us hl => match us, hl with | [_, _], _ => rfl, fun s v u => by
    obtain ⟨_, _, _, _, _, _, _, _, _, rfl, _⟩ := c7.F.ex
    exact .of_eq rfl⟩
  have p8 : Bth K gd8 := ⟨c8.F.binds (ps := ["self", "thing"]) fun _ _ _ _ _ _ us hl => match us, hl with | [_, _], _ => rfl, fun s v u => by
    obtain ⟨_, _, _, _, _, _, _, _, _, rfl, _⟩ := c8.F.ex
    exact .of_eq rfl⟩
  obtain ⟨C, hC⟩ : ∃ C : Nat → Addr, C = fun i => [C0, C1, C2, C3, C4, C5, C6, C7, C8].getD i 0 := ⟨_, rfl⟩
  have sx : ∀ i, i < 9 → ∀ b : Value, PySem.W.subIn K (.ref (C i)) b = some ((Value.ref (C i) :: tailX D).contains b) := by
    rw [hC]
    intro i hi b
    match i, hi with
    | 0, _ => exact c0.s b
    | 1, _ => exact c1.s b
    | 2, _ => exact c2.s b
    | 3, _ => exact c3.s b
    | 4, _ => exact c4.s b
    | 5, _ => exact c5.s b
    | 6, _ => exact c6.s b
    | 7, _ => exact c7.s b
    | 8, _ => exact c8.s b
  have dx : ∀ i, i < 9 → DexC K (C i) := by
    rw [hC]
    intro i hi
    match i, hi with
    | 0, _ => exact c0.d
    | 1, _ => exact c1.d
    | 2, _ => exact c2.d
    | 3, _ => exact c3.d
    | 4, _ => exact c4.d
    | 5, _ => exact c5.d
    | 6, _ => exact c6.d
    | 7, _ => exact c7.d
    | 8, _ => exact c8.d
  have nd9 : [C0, C1, C2, C3, C4, C5, C6, C7, C8].Nodup := (List.nodup_cons.mp apart).2
  have inj : ∀ i, i < 9 → ∀ j, j < 9 → C i = C j → i = j := by
    rw [hC]
    intro i hi j hj e
    have e1 : [C0, C1, C2, C3, C4, C5, C6, C7, C8][i]? = [C0, C1, C2, C3, C4, C5, C6, C7, C8][j]? := by
      have a : ∀ k, k < 9 → [C0, C1, C2, C3, C4, C5, C6, C7, C8][k]? = some ([C0, C1, C2, C3, C4, C5, C6, C7, C8].getD k 0) := fun k hk => by
        rw [List.getD_eq_getElem?_getD, List.getElem?_eq_getElem (by simpa using hk)]; rfl
      rw [a i hi, a j hj]
      exact congrArg some e
    exact (List.getElem?_inj (by simpa using hi) nd9).mp e1
  have nd : ∀ i, i < 9 → C i ≠ D := by
    rw [hC]
    intro i hi e
    refine (List.nodup_cons.mp apart).1 ?_
    rw [← e]
    show [C0, C1, C2, C3, C4, C5, C6, C7, C8].getD i 0 ∈ _
    rw [List.getD_eq_getElem?_getD, List.getElem?_eq_getElem (by simpa using hi)]
    exact List.getElem_mem _
  refine ⟨fd29, fun s v => ?_, fun base _ _ => ?_⟩
  · obtain ⟨_, _, _, _, _, _, _, _, _, rfl, _⟩ := t29.F.ex
    exact .of_eq rfl
  have hN : ∃ hN : Nine l.prog w K mg base, hN.C = C := by
    refine ⟨{ C := C, f := fun i => [g0, g1, g2, g3, g4, g5, g6, g7, g8].getD i 0, fd := fun i => [gd0, gd1, gd2, gd3, gd4, gd5, gd6, gd7, gd8].getD i gd0, D := D, d0 := ?_, d1 := ?_, d2 := ?_, d3 := ?_, d4 := ?_, d5 := ?_, d6 := ?_, d7 := ?_, d8 := ?_, mD := PySem.W.mg_of X G aD, own := tab_own sx dx inj nd, debt := tab_debt sx nd iD tD, exc := tab_ty sx (by decide +kernel) (fun c => by simp), stop := tab_ty sx (by decide +kernel) (fun c => by simp), six := tab_six sx, exm := tab_exm sx dx inj nd, exD := tab_exD sx iD tD eD }, rfl⟩
    · subst hC; exact ⟨c0.d, okIni2 c0.F, PySem.W.mg_of X G c0.a, c0.i, c0.t, p0⟩
    · subst hC; exact ⟨c1.d, okIni3 c1.F, PySem.W.mg_of X G c1.a, c1.i, c1.t, p1⟩
    · subst hC; exact ⟨c2.d, okIni4 c2.F, PySem.W.mg_of X G c2.a, c2.i, c2.t, p2⟩
    · subst hC; exact ⟨c3.d, okIni5 c3.F, PySem.W.mg_of X G c3.a, c3.i, c3.t, p3⟩
    · subst hC; exact ⟨c4.d, okIni6 c4.F, PySem.W.mg_of X G c4.a, c4.i, c4.t, p4⟩
    · subst hC; exact ⟨c5.d, okIni7 c5.F, PySem.W.mg_of X G c5.a, c5.i, c5.t, p5⟩
    · subst hC; exact ⟨c6.d, okIni8 c6.F, PySem.W.mg_of X G c6.a, c6.i, c6.t, p6⟩
    · subst hC; exact ⟨c7.d, okIni9 c7.F, PySem.W.mg_of X G c7.a, c7.i, c7.t, p7⟩
    · subst hC; exact ⟨c8.d, okIni10 c8.F, PySem.W.mg_of X G c8.a, c8.i, c8.t, p8⟩
  obtain ⟨hN, _⟩ := hN
  have Ddraw := (⟨okDraw t13.F T, m13, t13.F.kp, b13⟩ : Df l.prog w K mg base _ _ _ _ _ _)
  have Ddeck := (⟨okDeck t12.F T, m12, t12.F.kp, b12⟩ : Df l.prog w K mg base _ _ _ _ _ _)
  have Dpick := (⟨okPick t14.F T Ddraw, m14, t14.F.kp, b14⟩ : Df l.prog w K mg base _ _ _ _ _ _)
  have Dshuf := (⟨okShuf t16.F T Ddraw, m16, t16.F.kp, b16⟩ : Df l.prog w K mg base _ _ _ _ _ _)
  have Dname := (⟨okName t17.F T Ddraw Dpick, m17, t17.F.kp, b17⟩ : Df l.prog w K mg base _ _ _ _ _ _)
  have Dtag := (⟨okTag t18.F T Dpick, m18, t18.F.kp, b18⟩ : Df l.prog w K mg base _ _ _ _ _ _)
  have Dleaf := (⟨okLeaf t19.F T Ddraw Dpick, m19, t19.F.kp, b19⟩ : Df l.prog w K mg base _ _ _ _ _ _)
  have De := (⟨okExpr t20.F m20 t20.F.kp b20 T Ddraw Dpick Dleaf Dshuf 7, m20, t20.F.kp, b20⟩ : Df l.prog w K mg base _ _ _ _ _ _)
  have Dsigns := (⟨okSigns t21.F T Ddraw Dpick Dname Dtag, m21, t21.F.kp, b21⟩ : Df l.prog w K mg base _ _ _ _ _ _)
  have Dprog := (⟨okProg t22.F T Dsigns Dpick Dshuf De, m22, t22.F.kp, b22⟩ : Df l.prog w K mg base _ _ _ _ _ _)
  have Dodd := (⟨okOdd t23.F T TX Dpick, m23, t23.F.kp, b23⟩ : Df l.prog w K mg base _ _ _ _ _ _)
  have Dpos := (⟨okPos hN t24.F, m24, t24.F.kp, b24⟩ : Df l.prog w K mg base _ _ _ _ _ _)
  have Dnm := (⟨okNm hN t25.F, m25, t25.F.kp, b25⟩ : Df l.prog w K mg base _ _ _ _ _ _)
  have Dkinds := (⟨okKinds hN t26.F TX, m26, t26.F.kp, b26⟩ : Df l.prog w K mg base _ _ _ _ _ _)
  have Dsame := (⟨okSame t15.F TX, m15, t15.F.kp, b15⟩ : DfG l.prog w K mg base _ _ _ _ _ _)
  have Down := (⟨okOwn hN t27.F T TX TE Dkinds Dsame, m27, t27.F.kp, b27⟩ : DfG l.prog w K mg base _ _ _ _ _ _)
  have Dcau := (⟨okCaught hN t28.F TX, m28, t28.F.kp, b28⟩ : DfG l.prog w K mg base _ _ _ _ _ _)
  exact okLaw hN t29.F T TX Ddeck Dodd Dprog Dpos Dnm Down Dcau
end Dh

/-! DhF -/
open PySem PySem.W PyProof.Rows
set_option Elab.async false
set_option linter.all false
set_option maxRecDepth 100000 in
set_option maxHeartbeats 0 in
theorem PySem.Challenge.cw_debtsheld_k00_errors_by_position_and_nam_holds : PySem.Challenge.rw_debtsheld_k00_errors_by_position_and_nam.Holds := by
  w_on; o_law; k_head; (case hw => w_witness2)
  k_fill
  refine Dh.walkG (n := 63) (k := 13) (x := "script") (sp := Dh.spLaw) rfl (by decide) rfl ⟨rfl, by decide, by decide⟩ (fun w h Y => PySem.W.kIn_of Y) ?F (fun _ _ a ns hl hS => ⟨a, ns, rfl, hS, hl, fun _ => rfl⟩)
  case F =>
    intro w mg fa h KX G hmg
    refine' Dh.all_mk KX G hmg (Dh.top_mk ?a12 ?l12 ?c12 ?k12) (Dh.top_mk ?a13 ?l13 ?c13 ?k13) (Dh.top_mk ?a14 ?l14 ?c14 ?k14) (Dh.top_mk ?a15 ?l15 ?c15 ?k15) (Dh.top_mk ?a16 ?l16 ?c16 ?k16) (Dh.top_mk ?a17 ?l17 ?c17 ?k17) (Dh.top_mk ?a18 ?l18 ?c18 ?k18) (Dh.top_mk ?a19 ?l19 ?c19 ?k19) (Dh.top_mk ?a20 ?l20 ?c20 ?k20) (Dh.top_mk ?a21 ?l21 ?c21 ?k21) (Dh.top_mk ?a22 ?l22 ?c22 ?k22) (Dh.top_mk ?a23 ?l23 ?c23 ?k23) (Dh.top_mk ?a24 ?l24 ?c24 ?k24) (Dh.top_mk ?a25 ?l25 ?c25 ?k25) (Dh.top_mk ?a26 ?l26 ?c26 ?k26) (Dh.top_mk ?a27 ?l27 ?c27 ?k27) (Dh.top_mk ?a28 ?l28 ?c28 ?k28) (Dh.top_mk ?a29 ?l29 ?c29 ?k29) (Dh.cls_mk ?aC0 ?xL0 ?no0 ?sa0 ?ga0 ?gg0 ?kC0 ?cla0 ?hn0 ?ht0 ?in0 ?ty0 ?il0 ?ic0 ?ik0) (Dh.cls_mk ?aC1 ?xL1 ?no1 ?sa1 ?ga1 ?gg1 ?kC1 ?cla1 ?hn1 ?ht1 ?in1 ?ty1 ?il1 ?ic1 ?ik1) (Dh.cls_mk ?aC2 ?xL2 ?no2 ?sa2 ?ga2 ?gg2 ?kC2 ?cla2 ?hn2 ?ht2 ?in2 ?ty2 ?il2 ?ic2 ?ik2) (Dh.cls_mk ?aC3 ?xL3 ?no3 ?sa3 ?ga3 ?gg3 ?kC3 ?cla3 ?hn3 ?ht3 ?in3 ?ty3 ?il3 ?ic3 ?ik3) (Dh.cls_mk ?aC4 ?xL4 ?no4 ?sa4 ?ga4 ?gg4 ?kC4 ?cla4 ?hn4 ?ht4 ?in4 ?ty4 ?il4 ?ic4 ?ik4) (Dh.cls_mk ?aC5 ?xL5 ?no5 ?sa5 ?ga5 ?gg5 ?kC5 ?cla5 ?hn5 ?ht5 ?in5 ?ty5 ?il5 ?ic5 ?ik5) (Dh.cls_mk ?aC6 ?xL6 ?no6 ?sa6 ?ga6 ?gg6 ?kC6 ?cla6 ?hn6 ?ht6 ?in6 ?ty6 ?il6 ?ic6 ?ik6) (Dh.cls_mk ?aC7 ?xL7 ?no7 ?sa7 ?ga7 ?gg7 ?kC7 ?cla7 ?hn7 ?ht7 ?in7 ?ty7 ?il7 ?ic7 ?ik7) (Dh.cls_mk ?aC8 ?xL8 ?no8 ?sa8 ?ga8 ?gg8 ?kC8 ?cla8 ?hn8 ?ht8 ?in8 ?ty8 ?il8 ?ic8 ?ik8) ?aD ?iD ?tD ?eD ?apart ?z_int ?z_len ?z_max ?z_list ?z_range ?z_str ?z_tuple ?z_isinstance ?z_repr ?z_enumerate ?z_ValueError ?z_TypeError ?z_LookupError ?z_ArithmeticError ?z_RuntimeError ?z_AttributeError ?z_Exception ?z_StopIteration
    (case a12 => k_is)
    (case l12 => k_is)
    (case c12 => k_is)
    (case k12 => k_is)
    (case a13 => k_is)
    (case l13 => k_is)
    (case c13 => k_is)
    (case k13 => k_is)
    (case a14 => k_is)
    (case l14 => k_is)
    (case c14 => k_is)
    (case k14 => k_is)
    (case a15 => k_is)
    (case l15 => k_is)
    (case c15 => k_is)
    (case k15 => k_is)
    (case a16 => k_is)
    (case l16 => k_is)
    (case c16 => k_is)
    (case k16 => k_is)
    (case a17 => k_is)
    (case l17 => k_is)
    (case c17 => k_is)
    (case k17 => k_is)
    (case a18 => k_is)
    (case l18 => k_is)
    (case c18 => k_is)
    (case k18 => k_is)
    (case a19 => k_is)
    (case l19 => k_is)
    (case c19 => k_is)
    (case k19 => k_is)
    (case a20 => k_is)
    (case l20 => k_is)
    (case c20 => k_is)
    (case k20 => k_is)
    (case a21 => k_is)
    (case l21 => k_is)
    (case c21 => k_is)
    (case k21 => k_is)
    (case a22 => k_is)
    (case l22 => k_is)
    (case c22 => k_is)
    (case k22 => k_is)
    (case a23 => k_is)
    (case l23 => k_is)
    (case c23 => k_is)
    (case k23 => k_is)
    (case a24 => k_is)
    (case l24 => k_is)
    (case c24 => k_is)
    (case k24 => k_is)
    (case a25 => k_is)
    (case l25 => k_is)
    (case c25 => k_is)
    (case k25 => k_is)
    (case a26 => k_is)
    (case l26 => k_is)
    (case c26 => k_is)
    (case k26 => k_is)
    (case a27 => k_is)
    (case l27 => k_is)
    (case c27 => k_is)
    (case k27 => k_is)
    (case a28 => k_is)
    (case l28 => k_is)
    (case c28 => k_is)
    (case k28 => k_is)
    (case a29 => k_is)
    (case l29 => k_is)
    (case c29 => k_is)
    (case k29 => k_is)
    (case aC0 => k_is)
    (case xL0 => k_is)
    (case no0 => k_is)
    (case sa0 => k_is)
    (case ga0 => k_is)
    (case gg0 => k_is)
    (case kC0 => k_is)
    (case cla0 => k_is)
    (case hn0 => k_is)
    (case ht0 => k_is)
    (case in0 => k_is)
    (case ty0 => k_is)
    (case il0 => k_is)
    (case ic0 => k_is)
    (case ik0 => k_is)
    (case aC1 => k_is)
    (case xL1 => k_is)
    (case no1 => k_is)
    (case sa1 => k_is)
    (case ga1 => k_is)
    (case gg1 => k_is)
    (case kC1 => k_is)
    (case cla1 => k_is)
    (case hn1 => k_is)
    (case ht1 => k_is)
    (case in1 => k_is)
    (case ty1 => k_is)
    (case il1 => k_is)
    (case ic1 => k_is)
    (case ik1 => k_is)
    (case aC2 => k_is)
    (case xL2 => k_is)
    (case no2 => k_is)
    (case sa2 => k_is)
    (case ga2 => k_is)
    (case gg2 => k_is)
    (case kC2 => k_is)
    (case cla2 => k_is)
    (case hn2 => k_is)
    (case ht2 => k_is)
    (case in2 => k_is)
    (case ty2 => k_is)
    (case il2 => k_is)
    (case ic2 => k_is)
    (case ik2 => k_is)
    (case aC3 => k_is)
    (case xL3 => k_is)
    (case no3 => k_is)
    (case sa3 => k_is)
    (case ga3 => k_is)
    (case gg3 => k_is)
    (case kC3 => k_is)
    (case cla3 => k_is)
    (case hn3 => k_is)
    (case ht3 => k_is)
    (case in3 => k_is)
    (case ty3 => k_is)
    (case il3 => k_is)
    (case ic3 => k_is)
    (case ik3 => k_is)
    (case aC4 => k_is)
    (case xL4 => k_is)
    (case no4 => k_is)
    (case sa4 => k_is)
    (case ga4 => k_is)
    (case gg4 => k_is)
    (case kC4 => k_is)
    (case cla4 => k_is)
    (case hn4 => k_is)
    (case ht4 => k_is)
    (case in4 => k_is)
    (case ty4 => k_is)
    (case il4 => k_is)
    (case ic4 => k_is)
    (case ik4 => k_is)
    (case aC5 => k_is)
    (case xL5 => k_is)
    (case no5 => k_is)
    (case sa5 => k_is)
    (case ga5 => k_is)
    (case gg5 => k_is)
    (case kC5 => k_is)
    (case cla5 => k_is)
    (case hn5 => k_is)
    (case ht5 => k_is)
    (case in5 => k_is)
    (case ty5 => k_is)
    (case il5 => k_is)
    (case ic5 => k_is)
    (case ik5 => k_is)
    (case aC6 => k_is)
    (case xL6 => k_is)
    (case no6 => k_is)
    (case sa6 => k_is)
    (case ga6 => k_is)
    (case gg6 => k_is)
    (case kC6 => k_is)
    (case cla6 => k_is)
    (case hn6 => k_is)
    (case ht6 => k_is)
    (case in6 => k_is)
    (case ty6 => k_is)
    (case il6 => k_is)
    (case ic6 => k_is)
    (case ik6 => k_is)
    (case aC7 => k_is)
    (case xL7 => k_is)
    (case no7 => k_is)
    (case sa7 => k_is)
    (case ga7 => k_is)
    (case gg7 => k_is)
    (case kC7 => k_is)
    (case cla7 => k_is)
    (case hn7 => k_is)
    (case ht7 => k_is)
    (case in7 => k_is)
    (case ty7 => k_is)
    (case il7 => k_is)
    (case ic7 => k_is)
    (case ik7 => k_is)
    (case aC8 => k_is)
    (case xL8 => k_is)
    (case no8 => k_is)
    (case sa8 => k_is)
    (case ga8 => k_is)
    (case gg8 => k_is)
    (case kC8 => k_is)
    (case cla8 => k_is)
    (case hn8 => k_is)
    (case ht8 => k_is)
    (case in8 => k_is)
    (case ty8 => k_is)
    (case il8 => k_is)
    (case ic8 => k_is)
    (case ik8 => k_is)
    (case aD => k_is)
    (case iD => k_is)
    (case tD => k_is)
    (case eD => k_is)
    (case z_int => k_is)
    (case z_len => k_is)
    (case z_max => k_is)
    (case z_list => k_is)
    (case z_range => k_is)
    (case z_str => k_is)
    (case z_tuple => k_is)
    (case z_isinstance => k_is)
    (case z_repr => k_is)
    (case z_enumerate => k_is)
    (case z_ValueError => k_is)
    (case z_TypeError => k_is)
    (case z_LookupError => k_is)
    (case z_ArithmeticError => k_is)
    (case z_RuntimeError => k_is)
    (case z_AttributeError => k_is)
    (case z_Exception => k_is)
    (case z_StopIteration => k_is)
    (case apart => decide)
#print axioms PySem.Challenge.cw_debtsheld_k00_errors_by_position_and_nam_holds
