import PyProof.Rows.All
import Wide.All
import OpenK.AllK
import Wide.FinOn
import HandS.ForMost
import KE.KDictKeyed
import KE.KDictDisplayH
import HandS.TupLen
import HandS.TupAny
import HandS.TupMul
import HandS.IsInst
import HandS.RaiseMore
import HandS.Conv
import PyProof.ReprRoads
import HandS.Style
import KE.GoesEnum
import HandS.Text
import HandS.More
import HandS.Deep
import HandS.SortInts
import PyProof.P3In
import HandS.SortRule
import HandS.Small
import HandS.SetFor
import HandS.Strs
import KE.KDictZip
import KE.KItemsList
import HandS.Zip
import HandS.TupLe
import HandS.TupSets
import KE.DataMinMax
import HandS.DictComp
import KE.KIndexOf
import HandS.ExcInit
import HandS.WordsExc
import HandS.ExcOwn
import HandS.ExcIs
import HandS.ExcField
import KE.KExcIs
import HandS.SetBool
import HandS.Sort
import HandS.Replace
import PyProof.StrOps2
import PyProof.ListStr
import PyProof.Rows.EqBoolInt
import PyProof.ExcBaseAll.ValueError
import PyProof.Rows.StrKeys3
import HandS.Iter
import KE.DataFind
import HandS.SortKw
import KE.DatumOrd
import KE.GoesMore
import PySem.Challenge.RW_baylines_k56_whole_full_books_and_fewest
set_option Elab.async false
set_option linter.all false
set_option autoImplicit false
set_option maxRecDepth 100000
namespace BM
abbrev Bk := List (Int × Int)
def stepM : List Bk → List (Option Int) → Int → List (Option Int) × Option Int
  | [], st, t => (st, some t)
  | _ :: _, [], t => ([], some t)
  | _ :: _, none :: st, t => (some t :: st, none)
  | b :: bs, some h :: st, t => if b.contains (t, h) then (some h :: (stepM bs st t).1, (stepM bs st t).2) else (some t :: (stepM bs st h).1, (stepM bs st h).2)
def runM (bs : List Bk) : List (Option Int) → List Int → List (Option Int) × List Int
  | st, [] => (st, [])
  | st, t :: ts => ((runM bs (stepM bs st t).1 ts).1, (stepM bs st t).2.toList ++ (runM bs (stepM bs st t).1 ts).2)
def endM : List Bk → List (Option Int) → List Int
  | _ :: bs, some g :: st => (stepM bs st g).2.toList ++ endM bs (stepM bs st g).1
  | _ :: bs, none :: st => endM bs st
  | _, _ => []
def emptyM (bs : List Bk) : List (Option Int) := List.replicate bs.length none
def wholeM (bs : List Bk) (row : List Int) : List Int := (runM bs (emptyM bs) row).2 ++ endM bs (runM bs (emptyM bs) row).1
theorem stepM_some (b : Bk) (bs : List Bk) (h : Int) (st : List (Option Int)) (t : Int) : stepM (b :: bs) (some h :: st) t = if b.contains (t, h) then (some h :: (stepM bs st t).1, (stepM bs st t).2) else (some t :: (stepM bs st h).1, (stepM bs st h).2) := rfl
theorem stepM_none (b : Bk) (bs : List Bk) (st : List (Option Int)) (t : Int) : stepM (b :: bs) (none :: st) t = (some t :: st, none) := rfl
theorem stepM_length : ∀ (bs : List Bk) (st : List (Option Int)) (t : Int), (stepM bs st t).1.length = st.length
  | [], _, _ => rfl
  | _ :: _, [], _ => rfl
  | _ :: _, none :: _, _ => rfl
  | b :: bs, some h :: st, t => by
    unfold stepM
    split
    · simp [stepM_length bs st t]
    · simp [stepM_length bs st h]
theorem runM_length (bs : List Bk) : ∀ (row : List Int) (st : List (Option Int)), (runM bs st row).1.length = st.length
  | [], _ => rfl
  | t :: ts, st => by
    show (runM bs (stepM bs st t).1 ts).1.length = _
    rw [runM_length bs ts, stepM_length]
theorem runM_append (bs : List Bk) : ∀ (xs ys : List Int) (st : List (Option Int)), runM bs st (xs ++ ys) = ((runM bs (runM bs st xs).1 ys).1, (runM bs st xs).2 ++ (runM bs (runM bs st xs).1 ys).2)
  | [], ys, st => by simp [runM]
  | x :: xs, ys, st => by
    simp only [List.cons_append, runM]
    rw [runM_append bs xs ys]
    simp
theorem runM_one (bs : List Bk) (st : List (Option Int)) (t : Int) : runM bs st [t] = ((stepM bs st t).1, (stepM bs st t).2.toList) := by
  simp [runM]
/-- one bay -/
def bay (b : Bk) : Option Int → List Int → Option Int × List Int
  | h, [] => (h, [])
  | none, t :: ts => bay b (some t) ts
  | some h, t :: ts => if b.contains (t, h) then ((bay b (some h) ts).1, t :: (bay b (some h) ts).2) else ((bay b (some t) ts).1, h :: (bay b (some t) ts).2)
theorem runM_cons (b : Bk) (bs : List Bk) : ∀ (row : List Int) (h : Option Int) (st : List (Option Int)), runM (b :: bs) (h :: st) row = ((bay b h row).1 :: (runM bs st (bay b h row).2).1, (runM bs st (bay b h row).2).2)
  | [], h, st => by cases h <;> simp [runM, bay]
  | t :: ts, none, st => by
    simp only [runM, stepM, bay]
    rw [runM_cons b bs ts]
    simp
  | t :: ts, some h, st => by
    simp only [runM, stepM, bay]
    split
    · rw [runM_cons b bs ts]
      simp [runM]
    · rw [runM_cons b bs ts]
      simp [runM]
theorem endM_cons (b : Bk) (bs : List Bk) (h : Option Int) (st : List (Option Int)) : endM (b :: bs) (h :: st) = (runM bs st h.toList).2 ++ endM bs (runM bs st h.toList).1 := by
  cases h with
  | none => simp [endM, runM]
  | some g => simp [endM, runM]
/-- what one bay makes of a row -/
def thM (b : Bk) (row : List Int) : List Int := (bay b none row).2 ++ (bay b none row).1.toList
theorem wholeM_nil (row : List Int) : wholeM [] row = row := by
  have : ∀ (row : List Int) (st : List (Option Int)), (runM [] st row).2 = row := fun row => by
    induction row with
    | nil => intro st; rfl
    | cons t ts ih => intro st; simp [runM, stepM, ih]
  have e : ∀ st, endM [] st = [] := fun st => by cases st <;> rfl
  simp [wholeM, this, e]
/-- a line is bay by bay -/
theorem wholeM_cons (b : Bk) (bs : List Bk) (row : List Int) : wholeM (b :: bs) row = wholeM bs (thM b row) := by
  unfold wholeM thM
  show (runM (b :: bs) (none :: emptyM bs) row).2 ++ endM (b :: bs) (runM (b :: bs) (none :: emptyM bs) row).1 = _
  rw [runM_cons, runM_append, endM_cons]
  simp
def allM (bs : List Bk) (row : List Int) : List Int := bs.foldl (fun r b => thM b r) row
theorem wholeM_all : ∀ (bs : List Bk) (row : List Int), wholeM bs row = allM bs row
  | [], row => wholeM_nil row
  | b :: bs, row => by
    rw [wholeM_cons, wholeM_all bs]
    rfl
theorem thM_one (b : Bk) (row : List Int) : wholeM [b] row = thM b row := by
  rw [wholeM_cons, wholeM_nil]
theorem allM_append (xs ys : List Bk) (row : List Int) : allM (xs ++ ys) row = allM ys (allM xs row) := by
  simp [allM, List.foldl_append]
/-! the same with numbered things -/
def bayN (b : Bk) : Option (Int × Int) → List (Int × Int) → Option (Int × Int) × List (Int × Int)
  | h, [] => (h, [])
  | none, t :: ts => bayN b (some t) ts
  | some h, t :: ts => if b.contains (t.1, h.1) then ((bayN b (some h) ts).1, t :: (bayN b (some h) ts).2) else ((bayN b (some t) ts).1, h :: (bayN b (some t) ts).2)
theorem bayN_bay (b : Bk) : ∀ (ts : List (Int × Int)) (h : Option (Int × Int)), ((bayN b h ts).1.map (·.1) = (bay b (h.map (·.1)) (ts.map (·.1))).1) ∧ ((bayN b h ts).2.map (·.1) = (bay b (h.map (·.1)) (ts.map (·.1))).2)
  | [], h => by cases h <;> simp [bayN, bay]
  | t :: ts, none => by
    have := bayN_bay b ts (some t)
    simpa [bayN, bay] using this
  | t :: ts, some h => by
    simp only [bayN, bay, List.map_cons, Option.map_some]
    split
    · have := bayN_bay b ts (some h)
      simpa using this
    · have := bayN_bay b ts (some t)
      simpa using this
def thN (b : Bk) (ts : List (Int × Int)) : List (Int × Int) := (bayN b none ts).2 ++ (bayN b none ts).1.toList
theorem thN_kinds (b : Bk) (ts : List (Int × Int)) : (thN b ts).map (·.1) = thM b (ts.map (·.1)) := by
  have := bayN_bay b ts none
  unfold thN thM
  simp only [Option.map_none] at this
  rw [List.map_append, this.2, ← this.1]
  cases (bayN b none ts).1 <;> simp
def allN (bs : List Bk) (ts : List (Int × Int)) : List (Int × Int) := bs.foldl (fun r b => thN b r) ts
theorem allN_kinds : ∀ (bs : List Bk) (ts : List (Int × Int)), (allN bs ts).map (·.1) = allM bs (ts.map (·.1))
  | [], ts => rfl
  | b :: bs, ts => by
    show (allN bs (thN b ts)).map _ = allM bs (thM b _)
    rw [allN_kinds bs, thN_kinds]
theorem bay_length (b : Bk) : ∀ (ts : List Int) (h : Option Int), (bay b h ts).2.length + (bay b h ts).1.toList.length = ts.length + h.toList.length
  | [], h => by simp [bay]
  | t :: ts, none => by
    have := bay_length b ts (some t)
    simp [bay] at this ⊢
    omega
  | t :: ts, some h => by
    simp only [bay]
    split
    · have := bay_length b ts (some h)
      simp at this ⊢
      omega
    · have := bay_length b ts (some t)
      simp at this ⊢
      omega
theorem thM_length (b : Bk) (row : List Int) : (thM b row).length = row.length := by
  have := bay_length b row none
  unfold thM
  simp at this ⊢
  exact this
theorem thN_length (b : Bk) (ts : List (Int × Int)) : (thN b ts).length = ts.length := by
  have := congrArg List.length (thN_kinds b ts)
  simpa [thM_length] using this
theorem allM_length : ∀ (bs : List Bk) (row : List Int), (allM bs row).length = row.length
  | [], _ => rfl
  | b :: bs, row => by
    show (allM bs (thM b row)).length = _
    rw [allM_length bs, thM_length]
end BM
namespace BM
theorem stepM_P {P : Int → Prop} : ∀ (bs : List Bk) (st : List (Option Int)) (t : Int), (∀ k, some k ∈ st → P k) → P t → (∀ k, some k ∈ (stepM bs st t).1 → P k) ∧ ∀ k, (stepM bs st t).2 = some k → P k
  | [], st, t, hs, ht => ⟨hs, fun k e => by cases e; exact ht⟩
  | _ :: _, [], t, hs, ht => ⟨fun k h => absurd h (by simp [stepM]), fun k e => by cases e; exact ht⟩
  | b :: bs, none :: st, t, hs, ht => by
    rw [stepM_none]
    refine ⟨fun k h => ?_, fun k e => by cases e⟩
    rcases List.mem_cons.mp h with e | h
    · cases e
      exact ht
    · exact hs k (List.mem_cons_of_mem _ h)
  | b :: bs, some g :: st, t, hs, ht => by
    have hg := hs g List.mem_cons_self
    have hs' : ∀ k, some k ∈ st → P k := fun k h => hs k (List.mem_cons_of_mem _ h)
    rw [stepM_some]
    split
    · obtain ⟨a, c⟩ := stepM_P bs st t hs' ht
      refine ⟨fun k h => ?_, c⟩
      rcases List.mem_cons.mp h with e | h
      · cases e
        exact hg
      · exact a k h
    · obtain ⟨a, c⟩ := stepM_P bs st g hs' hg
      refine ⟨fun k h => ?_, c⟩
      rcases List.mem_cons.mp h with e | h
      · cases e
        exact ht
      · exact a k h
theorem runM_P {P : Int → Prop} (bs : List Bk) : ∀ (row : List Int) (st : List (Option Int)), (∀ k, some k ∈ st → P k) → (∀ k ∈ row, P k) → (∀ k, some k ∈ (runM bs st row).1 → P k) ∧ ∀ k ∈ (runM bs st row).2, P k
  | [], st, hs, _ => ⟨hs, fun k h => absurd h (by simp [runM])⟩
  | t :: ts, st, hs, hr => by
    obtain ⟨a, c⟩ := stepM_P bs st t hs (hr t List.mem_cons_self)
    obtain ⟨d, e⟩ := runM_P bs ts (stepM bs st t).1 a fun k h => hr k (List.mem_cons_of_mem _ h)
    refine ⟨d, fun k h => ?_⟩
    simp only [runM, List.mem_append, Option.mem_toList] at h
    rcases h with h | h
    · exact c k h
    · exact e k h
theorem endM_P {P : Int → Prop} : ∀ (bs : List Bk) (st : List (Option Int)), (∀ k, some k ∈ st → P k) → ∀ k ∈ endM bs st, P k
  | [], st, _, k, h => by cases st <;> simp [endM] at h
  | _ :: _, [], _, k, h => by simp [endM] at h
  | _ :: bs, none :: st, hs, k, h => endM_P bs st (fun k h => hs k (List.mem_cons_of_mem _ h)) k (by simpa [endM] using h)
  | _ :: bs, some g :: st, hs, k, h => by
    obtain ⟨a, c⟩ := stepM_P bs st g (fun k h => hs k (List.mem_cons_of_mem _ h)) (hs g List.mem_cons_self)
    simp only [endM, List.mem_append, Option.mem_toList] at h
    rcases h with h | h
    · exact c k h
    · exact endM_P bs _ a k h
theorem emptyM_P {P : Int → Prop} (bs : List Bk) : ∀ k, some k ∈ emptyM bs → P k := fun k h => by
  simp [emptyM] at h
theorem runM_le (l : List Bk) : ∀ (r : List Int) (s : List (Option Int)), (runM l s r).2.length ≤ r.length
  | [], s => by simp [runM]
  | t :: ts, s => by
    have := runM_le l ts (stepM l s t).1
    simp [runM]
    cases (stepM l s t).2 <;> simp <;> omega
theorem endM_le : ∀ (l : List Bk) (s : List (Option Int)), (endM l s).length ≤ l.length
  | [], s => by cases s <;> simp [endM]
  | b :: l, [] => by simp [endM]
  | b :: l, none :: s => by
    have := endM_le l s
    simp [endM]
    omega
  | b :: l, some g :: s => by
    have := endM_le l (stepM l s g).1
    simp [endM]
    cases (stepM l s g).2 <;> simp <;> omega
end BM
namespace BM
/-- a standing without a gap -/
theorem step_full : ∀ (bs : List Bk) (xs : List Int) (k : Nat) (t : Int), xs.length + k = bs.length →
    ∃ ys : List Int, ys.length + (k - 1) = bs.length ∧ (∀ y ∈ ys, y ∈ xs ∨ y = t) ∧ (stepM bs (xs.map some ++ List.replicate k none) t).1 = ys.map some ++ List.replicate (k - 1) none ∧ (stepM bs (xs.map some ++ List.replicate k none) t).2.isNone = decide (0 < k)
  | [], xs, k, t, h => by
    have h' : xs.length + k = 0 := h
    have h0 : xs = [] := List.eq_nil_of_length_eq_zero (by omega)
    have k0 : k = 0 := by omega
    subst h0 k0
    exact ⟨[], rfl, by simp, rfl, rfl⟩
  | b :: bs, [], k, t, h => by
    cases k with
    | zero => simp at h
    | succ k =>
      refine ⟨[t], by simp at h ⊢; omega, by simp, ?_, ?_⟩
      · rw [List.map_nil, List.nil_append, List.replicate_succ, stepM_none]
        rfl
      · rw [List.map_nil, List.nil_append, List.replicate_succ, stepM_none]
        simp
  | b :: bs, x :: xs, k, t, h => by
    have hl : xs.length + k = bs.length := by simp at h; omega
    rw [List.map_cons, List.cons_append, stepM_some]
    split
    · obtain ⟨ys, e1, e2, e3, e4⟩ := step_full bs xs k t hl
      refine ⟨x :: ys, by simp at h ⊢; omega, fun y hy => ?_, by rw [e3]; rfl, e4⟩
      rcases List.mem_cons.mp hy with rfl | hy
      · exact .inl List.mem_cons_self
      · exact (e2 y hy).imp (List.mem_cons_of_mem _) id
    · obtain ⟨ys, e1, e2, e3, e4⟩ := step_full bs xs k x hl
      refine ⟨t :: ys, by simp at h ⊢; omega, fun y hy => ?_, by rw [e3]; rfl, e4⟩
      rcases List.mem_cons.mp hy with rfl | hy
      · exact .inr rfl
      · rcases e2 y hy with h | rfl
        · exact .inl (List.mem_cons_of_mem _ h)
        · exact .inl List.mem_cons_self
end BM
namespace BM
/-! order kept, nearness, rows parted -/
theorem bay_filter (b : Bk) (p : Int → Bool) (hp : ∀ t h, (t, h) ∈ b → p t = true → p h = true → t = h) : ∀ (ts : List Int) (h : Option Int), (bay b h ts).2.filter p ++ (bay b h ts).1.toList.filter p = (h.toList ++ ts).filter p
  | [], h => by simp [bay]
  | t :: ts, none => by
    have := bay_filter b p hp ts (some t)
    simpa [bay] using this
  | t :: ts, some h => by
    simp only [bay]
    split
    · rename_i c
      have ih := bay_filter b p hp ts (some h)
      have c' : (t, h) ∈ b := by simpa using c
      simp only [Option.toList_some, List.singleton_append, List.filter_cons] at ih ⊢
      by_cases pt : p t = true
      · by_cases ph : p h = true
        · have := hp t h c' pt ph
          subst this
          simp only [pt, if_true] at ih ⊢
          rw [List.cons_append, ih]
        · simp only [pt, ph, if_true] at ih ⊢
          simpa using ih
      · simp only [pt] at ih ⊢
        simpa using ih
    · have ih := bay_filter b p hp ts (some t)
      simp only [Option.toList_some, List.singleton_append] at ih ⊢
      rw [List.filter_cons, List.filter_cons (x := h)]
      split
      · rw [List.cons_append, ih]
      · exact ih
theorem thM_filter (b : Bk) (p : Int → Bool) (hp : ∀ t h, (t, h) ∈ b → p t = true → p h = true → t = h) (r : List Int) : (thM b r).filter p = r.filter p := by
  have := bay_filter b p hp r none
  unfold thM
  rw [List.filter_append]
  simpa using this
theorem allM_filter (p : Int → Bool) : ∀ (bs : List Bk) (r : List Int), (∀ b ∈ bs, ∀ t h, (t, h) ∈ b → p t = true → p h = true → t = h) → (allM bs r).filter p = r.filter p
  | [], r, _ => rfl
  | b :: bs, r, h => by
    show (allM bs (thM b r)).filter p = _
    rw [allM_filter p bs _ fun c hc => h c (List.mem_cons_of_mem _ hc), thM_filter b p (h b List.mem_cons_self)]
theorem bay_perm (b : Bk) : ∀ (ts : List Int) (h : Option Int), ((bay b h ts).2 ++ (bay b h ts).1.toList).Perm (h.toList ++ ts)
  | [], h => by simp [bay]
  | t :: ts, none => by
    have := bay_perm b ts (some t)
    simpa [bay] using this
  | t :: ts, some h => by
    simp only [bay]
    split
    · have ih := bay_perm b ts (some h)
      simp only [Option.toList_some, List.singleton_append] at ih ⊢
      exact (ih.cons t).trans (List.Perm.swap h t ts)
    · have ih := bay_perm b ts (some t)
      simp only [Option.toList_some, List.singleton_append] at ih ⊢
      exact ih.cons h
theorem thM_perm (b : Bk) (r : List Int) : (thM b r).Perm r := by
  have := bay_perm b r none
  simpa [thM] using this
theorem allM_perm : ∀ (bs : List Bk) (r : List Int), (allM bs r).Perm r
  | [], _ => .refl _
  | b :: bs, r => (allM_perm bs (thM b r)).trans (thM_perm b r)
theorem bay_append (b : Bk) : ∀ (xs ys : List Int) (h : Option Int), bay b h (xs ++ ys) = ((bay b (bay b h xs).1 ys).1, (bay b h xs).2 ++ (bay b (bay b h xs).1 ys).2)
  | [], ys, h => by simp [bay]
  | x :: xs, ys, none => by
    simp only [List.cons_append, bay]
    exact bay_append b xs ys (some x)
  | x :: xs, ys, some h => by
    simp only [List.cons_append, bay]
    split
    · rw [bay_append b xs ys (some h)]
      rfl
    · rw [bay_append b xs ys (some x)]
      rfl
theorem bay_some (b : Bk) : ∀ (ts : List Int) (h : Int), (bay b (some h) ts).1.isSome = true
  | [], h => rfl
  | t :: ts, h => by
    simp only [bay]
    split
    · exact bay_some b ts h
    · exact bay_some b ts t
theorem near_take (b : Bk) (row : List Int) (m : Nat) (hm : m < row.length) : ∃ R, ((thM b row).take (m + 1) ++ R).Perm (row.take (m + 2)) := by
  by_cases c : m + 2 ≤ row.length
  · refine ⟨(bay b none (row.take (m + 2))).1.toList, ?_⟩
    have len : (row.take (m + 2)).length = m + 2 := by rw [List.length_take]; omega
    have e : thM b row = (bay b none (row.take (m + 2))).2 ++ ((bay b (bay b none (row.take (m + 2))).1 (row.drop (m + 2))).2 ++ (bay b none row).1.toList) := by
      unfold thM
      rw [← List.append_assoc]
      congr 1
      have := bay_append b (row.take (m + 2)) (row.drop (m + 2)) none
      rw [List.take_append_drop] at this
      rw [this]
    have l2 : (bay b none (row.take (m + 2))).2.length = m + 1 := by
      have := bay_length b (row.take (m + 2)) none
      have hs : (bay b none (row.take (m + 2))).1.isSome = true := by
        cases h : row.take (m + 2) with
        | nil => rw [h] at len; simp at len
        | cons x xs => exact bay_some b xs x
      have l1 : (bay b none (row.take (m + 2))).1.toList.length = 1 := by
        cases h : (bay b none (row.take (m + 2))).1 with
        | none => rw [h] at hs; cases hs
        | some v => rfl
      simp only [Option.toList_none, List.length_nil] at this
      omega
    rw [e, List.take_append_of_le_length (by omega), List.take_of_length_le (by omega)]
    have := bay_perm b (row.take (m + 2)) none
    simpa using this
  · refine ⟨[], ?_⟩
    rw [List.append_nil, List.take_of_length_le (by rw [thM_length]; omega), List.take_of_length_le (by omega)]
    exact thM_perm b row
theorem near_num (b : Bk) : ∀ (ts : List (Int × Int)) (k : Nat) (h : Int × Int), (∀ (j : Nat) p, ts[j]? = some p → p.2 ≤ (k : Int) + (j : Nat)) → h.2 ≤ (k : Int) → ∀ (i : Nat) p, ((bayN b (some h) ts).2 ++ (bayN b (some h) ts).1.toList)[i]? = some p → p.2 ≤ (k : Int) + (i : Nat)
  | [], k, h, _, hh, i, p, e => by
    cases i with
    | zero =>
      simp [bayN] at e
      subst e
      omega
    | succ i => simp [bayN] at e
  | t :: ts, k, h, ht, hh, i, p, e => by
    have h0 := ht 0 t rfl
    have hn : ∀ (j : Nat) p, ts[j]? = some p → p.2 ≤ ((k + 1 : Nat) : Int) + (j : Nat) := fun j p e => by
      have := ht (j + 1) p (by simpa using e)
      omega
    simp only [bayN] at e
    split at e
    · cases i with
      | zero =>
        simp at e
        subst e
        omega
      | succ i =>
        have := near_num b ts (k + 1) h hn (by omega) i p (by simpa using e)
        omega
    · cases i with
      | zero =>
        simp at e
        subst e
        omega
      | succ i =>
        have := near_num b ts (k + 1) t hn (by omega) i p (by simpa using e)
        omega
theorem near_all (b : Bk) (r : List Int) (i : Nat) (p : Int × Int) (h : (thN b (r.zipIdx.map fun p => (p.1, (p.2 : Int))))[i]? = some p) : p.2 ≤ (1 : Int) + (i : Nat) := by
  cases r with
  | nil => simp [thN, bayN] at h
  | cons x r =>
    have := near_num b ((r.zipIdx 1).map fun p => (p.1, (p.2 : Int))) 1 (x, 0) (fun j p e => ?_) (by simp) i p ?_
    · simpa using this
    · simp at e
      obtain ⟨a, _, rfl⟩ := e
      simp
    · simpa [thN, bayN, List.zipIdx_cons] using h
theorem run_full (bs : List Bk) : ∀ (row xs : List Int) (k : Nat), xs.length + k = bs.length →
    ∃ ys : List Int, ys.length + (k - row.length) = bs.length ∧ (runM bs (xs.map some ++ List.replicate k none) row).1 = ys.map some ++ List.replicate (k - row.length) none ∧ (runM bs (xs.map some ++ List.replicate k none) row).2.length = row.length - k
  | [], xs, k, h => ⟨xs, by simpa using h, rfl, by simp [runM]⟩
  | t :: ts, xs, k, h => by
    obtain ⟨ys, e1, _, e3, e4⟩ := step_full bs xs k t h
    obtain ⟨zs, f1, f2, f3⟩ := run_full bs ts ys (k - 1) e1
    refine ⟨zs, by simp; omega, ?_, ?_⟩
    · simp only [runM]
      rw [e3, f2, List.length_cons]
      congr 2
      omega
    · simp only [runM]
      rw [e3, List.length_append, f3]
      have : (stepM bs (xs.map some ++ List.replicate k none) t).2.toList.length = if 0 < k then 0 else 1 := by
        cases h : (stepM bs (xs.map some ++ List.replicate k none) t).2 with
        | none =>
          rw [h] at e4
          have : 0 < k := by simpa using e4.symm
          simp [this]
        | some v =>
          rw [h] at e4
          have : ¬ 0 < k := by simpa using e4.symm
          simp [this]
      rw [this]
      simp only [List.length_cons]
      split <;> omega
end BM
namespace BM
/-! pairs closed, kind by kind -/
def clo (R : Int → Int → Bool) : Nat → Int → Int → Bool
  | 0 => R
  | k + 1 => fun x z => clo R k x z || (clo R k x k && clo R k k z)
theorem clo_mono (R : Int → Int → Bool) (k : Nat) {x z : Int} (h : clo R k x z = true) : clo R (k + 1) x z = true := by
  simp [clo, h]
theorem clo_base (R : Int → Int → Bool) {x z : Int} (h : R x z = true) : ∀ k, clo R k x z = true
  | 0 => h
  | k + 1 => clo_mono R k (clo_base R h k)
/-- through each kind that has been -/
theorem clo_through (R : Int → Int → Bool) : ∀ (k y : Nat) (x z : Int), y < k → clo R k x y = true → clo R k y z = true → clo R k x z = true
  | 0, y, x, z, h, _, _ => absurd h (Nat.not_lt_zero _)
  | k + 1, y, x, z, h, h1, h2 => by
    simp only [clo, Bool.or_eq_true, Bool.and_eq_true] at h1 h2 ⊢
    have ih := clo_through R k
    by_cases c : y = k
    · subst c
      have a : clo R y x y = true := h1.elim id (·.1)
      have b : clo R y y z = true := h2.elim id (·.2)
      exact .inr ⟨a, b⟩
    · have hy : y < k := by omega
      rcases h1 with h1 | ⟨h1, h1'⟩
      · rcases h2 with h2 | ⟨h2, h2'⟩
        · exact .inl (ih y x z hy h1 h2)
        · exact .inr ⟨ih y x k hy h1 h2, h2'⟩
      · rcases h2 with h2 | ⟨h2, h2'⟩
        · exact .inr ⟨h1, ih y k z hy h1' h2⟩
        · exact .inr ⟨h1, h2'⟩
theorem clo_in (R : Int → Int → Bool) (T : Int → Int → Prop) (ht : ∀ x y z, T x y → T y z → T x z) (h : ∀ x z, R x z = true → T x z) : ∀ (k : Nat) (x z : Int), clo R k x z = true → T x z
  | 0, x, z, e => h x z e
  | k + 1, x, z, e => by
    simp only [clo, Bool.or_eq_true, Bool.and_eq_true] at e
    rcases e with e | ⟨e, e'⟩
    · exact clo_in R T ht h k x z e
    · exact ht x k z (clo_in R T ht h k x k e) (clo_in R T ht h k k z e')
/-- closed, where all is among the first n kinds -/
theorem clo_closed (R : Int → Int → Bool) (n : Nat) (hk : ∀ x z, R x z = true → (0 ≤ x ∧ x < n) ∧ (0 ≤ z ∧ z < n)) {x y z : Int} (h1 : clo R n x y = true) (h2 : clo R n y z = true) : clo R n x z = true := by
  have k := clo_in R (fun x z => (0 ≤ x ∧ x < n) ∧ (0 ≤ z ∧ z < n)) (fun x y z a b => ⟨a.1, b.2⟩) hk n x y h1
  have e : ((y.toNat : Nat) : Int) = y := by omega
  rw [← e] at h1 h2
  exact clo_through R n y.toNat x z (by omega) h1 h2
/-- without a kind over itself, where the pairs go down by a rank -/
theorem clo_down (R : Int → Int → Bool) (rk : Int → Nat) (h : ∀ x z, R x z = true → rk x < rk z) (k : Nat) {x z : Int} (e : clo R k x z = true) : rk x < rk z :=
  clo_in R (fun x z => rk x < rk z) (fun _ _ _ a b => Nat.lt_trans a b) h k x z e
end BM
namespace BM
def asP (p q : Int × Int) : Prop := p.1 < q.1 ∨ (p.1 = q.1 ∧ p.2 < q.2)
structure IsOrd (b : Bk) : Prop where
  irr : ∀ x, (x, x) ∉ b
  tr : ∀ x y z, (x, y) ∈ b → (y, z) ∈ b → (x, z) ∈ b
  asc : b.Pairwise asP
structure OkO (n : Int) (b : Bk) : Prop where
  ord : IsOrd b
  k : ∀ p ∈ b, (0 ≤ p.1 ∧ p.1 < n) ∧ (0 ≤ p.2 ∧ p.2 < n)
theorem IsOrd.nil : IsOrd [] := ⟨by simp, by simp, .nil⟩
theorem IsOrd.asym {b : Bk} (h : IsOrd b) {x y : Int} (h1 : (x, y) ∈ b) (h2 : (y, x) ∈ b) : False := h.irr x (h.tr x y x h1 h2)
/-- those pairs whose passers are kept -/
theorem IsOrd.only {b : Bk} (h : IsOrd b) (c : Int → Bool) : IsOrd (b.filter fun p => c p.1) :=
  ⟨fun x hx => h.irr x (List.mem_filter.mp hx).1, fun x y z h1 h2 => List.mem_filter.mpr ⟨h.tr x y z (List.mem_filter.mp h1).1 (List.mem_filter.mp h2).1, (List.mem_filter.mp h1).2⟩, h.asc.filter _⟩
end BM
namespace BM
/-! a row that is sent again and again -/
theorem bay_cs (b : Bk) (h t : Int) (ts : List Int) : (bay b (some h) (t :: ts)).1 = if b.contains (t, h) then (bay b (some h) ts).1 else (bay b (some t) ts).1 := by
  rw [bay]
  split <;> rfl
/-- both roads end alike, where the later one is put out -/
theorem bay_meet {b : Bk} (o : IsOrd b) : ∀ (ts : List Int) (x y : Int), (x = y ∨ (x, y) ∈ b) → (∃ t ∈ ts, (t, y) ∉ b) → (bay b (some x) ts).1 = (bay b (some y) ts).1
  | [], x, y, _, ⟨t, ht, _⟩ => absurd ht (by simp)
  | t :: ts, x, y, r, h => by
    rw [bay_cs, bay_cs]
    by_cases c : (t, y) ∈ b
    · have h' : ∃ t ∈ ts, (t, y) ∉ b := by
        obtain ⟨u, hu, nu⟩ := h
        rcases List.mem_cons.mp hu with rfl | hu
        · exact absurd c nu
        · exact ⟨u, hu, nu⟩
      rw [if_pos (show b.contains (t, y) = true by simpa using c)]
      split
      · exact bay_meet o ts x y r h'
      · exact bay_meet o ts t y (.inr c) h'
    · rw [if_neg (show ¬ b.contains (t, y) = true by simpa using c)]
      rw [if_neg]
      intro z
      have z : (t, x) ∈ b := by simpa using z
      rcases r with rfl | r
      · exact c z
      · exact c (o.tr t x y z r)
theorem bay_both {b : Bk} (o : IsOrd b) : ∀ (ts : List Int) (x y : Int), (∃ t ∈ ts, (t, x) ∉ b) → (∃ t ∈ ts, (t, y) ∉ b) → (bay b (some x) ts).1 = (bay b (some y) ts).1
  | [], x, y, ⟨t, ht, _⟩, _ => absurd ht (by simp)
  | t :: ts, x, y, hx, hy => by
    have low : ∀ z, (t, z) ∈ b → (∃ u ∈ t :: ts, (u, z) ∉ b) → ∃ u ∈ ts, (u, z) ∉ b := fun z c ⟨u, hu, nu⟩ => by
      rcases List.mem_cons.mp hu with rfl | hu
      · exact absurd c nu
      · exact ⟨u, hu, nu⟩
    rw [bay_cs, bay_cs]
    by_cases cx : (t, x) ∈ b
    · rw [if_pos (show b.contains (t, x) = true by simpa using cx)]
      by_cases cy : (t, y) ∈ b
      · rw [if_pos (show b.contains (t, y) = true by simpa using cy)]
        exact bay_both o ts x y (low x cx hx) (low y cy hy)
      · rw [if_neg (show ¬ b.contains (t, y) = true by simpa using cy)]
        exact (bay_meet o ts t x (.inr cx) (low x cx hx)).symm
    · rw [if_neg (show ¬ b.contains (t, x) = true by simpa using cx)]
      by_cases cy : (t, y) ∈ b
      · rw [if_pos (show b.contains (t, y) = true by simpa using cy)]
        exact bay_meet o ts t y (.inr cy) (low y cy hy)
      · rw [if_neg (show ¬ b.contains (t, y) = true by simpa using cy)]
theorem bay_kept {b : Bk} : ∀ (ts : List Int) (x : Int), (∀ t ∈ ts, (t, x) ∈ b) → (bay b (some x) ts).1 = some x
  | [], _, _ => rfl
  | t :: ts, x, h => by
    rw [bay_cs, if_pos (show b.contains (t, x) = true by simpa using h t List.mem_cons_self)]
    exact bay_kept ts x fun u hu => h u (List.mem_cons_of_mem _ hu)
theorem bay_is {b : Bk} : ∀ (ts : List Int) (x : Int), ∃ a, (bay b (some x) ts).1 = some a
  | [], x => ⟨x, rfl⟩
  | t :: ts, x => by
    rw [bay_cs]
    split
    · exact bay_is ts x
    · exact bay_is ts t
/-- a bay that is handed a row again stands behind it as behind the first time -/
theorem bay_again {b : Bk} (o : IsOrd b) (row : List Int) (h : Option Int) : (bay b (bay b h row).1 row).1 = (bay b h row).1 := by
  cases row with
  | nil => cases h <;> rfl
  | cons t ts =>
    have key : ∀ a, (bay b h (t :: ts)).1 = some a → (∃ u ∈ t :: ts, (u, a) ∉ b) → (bay b (some a) (t :: ts)).1 = some a := fun a e c => by
      refine Eq.trans ?_ e
      cases h with
      | none =>
        show _ = (bay b (some t) ts).1
        have e' : (bay b (some t) ts).1 = some a := e
        by_cases ct : (t, a) ∈ b
        · rw [bay_cs, if_pos (show b.contains (t, a) = true by simpa using ct)]
          refine (bay_meet o ts t a (.inr ct) ?_).symm
          obtain ⟨u, hu, nu⟩ := c
          rcases List.mem_cons.mp hu with rfl | hu
          · exact absurd ct nu
          · exact ⟨u, hu, nu⟩
        · rw [bay_cs, if_neg (show ¬ b.contains (t, a) = true by simpa using ct)]
      | some x =>
        by_cases cx : ∃ u ∈ t :: ts, (u, x) ∉ b
        · exact bay_both o (t :: ts) a x c cx
        · have all : ∀ u ∈ t :: ts, (u, x) ∈ b := fun u hu => Classical.byContradiction fun n => cx ⟨u, hu, n⟩
          rw [bay_kept _ _ all] at e
          cases e
          exact absurd c cx
    obtain ⟨a, e⟩ : ∃ a, (bay b h (t :: ts)).1 = some a := by
      cases h with
      | none => exact bay_is ts t
      | some x => exact bay_is (t :: ts) x
    rw [e]
    by_cases c : ∃ u ∈ t :: ts, (u, a) ∉ b
    · exact key a e c
    · exact bay_kept _ _ fun u hu => Classical.byContradiction fun n => c ⟨u, hu, n⟩
/-- rows that come to rest bring a line to rest -/
theorem line_rests : ∀ (l : List Bk), (∀ b ∈ l, IsOrd b) → ∀ (S : Nat → List (Option Int)) (rows : Nat → List Int) (m : Nat), (∀ k, (S k).length = l.length) → (∀ k, S (k + 1) = (runM l (S k) (rows k)).1) → (∀ k, m ≤ k → rows (k + 1) = rows k) → ∀ k, m + l.length ≤ k → S (k + 1) = S k
  | [], _, S, rows, m, hl, hS, hr, k, hk => by
    have e : ∀ k, S k = [] := fun k => List.length_eq_zero_iff.mp (by simpa using hl k)
    rw [e, e]
  | b :: bs, o, S, rows, m, hl, hS, hr, k, hk => by
    have eS : ∀ k, S k = (S k).headD none :: (S k).tail := fun k => by
      have := hl k
      cases h : S k with
      | nil => rw [h] at this; simp at this
      | cons x xs => rfl
    have hH : ∀ k, (S (k + 1)).headD none = (bay b ((S k).headD none) (rows k)).1 := fun k => by
      rw [hS k]
      conv => lhs; rw [eS k, runM_cons]
      rfl
    have hT : ∀ k, (S (k + 1)).tail = (runM bs (S k).tail (bay b ((S k).headD none) (rows k)).2).1 := fun k => by
      rw [hS k]
      conv => lhs; rw [eS k, runM_cons]
      rfl
    have ob := o b List.mem_cons_self
    have sH : ∀ k, m + 1 ≤ k → (S (k + 1)).headD none = (S k).headD none := fun k hk => by
      obtain ⟨j, rfl⟩ : ∃ j, k = j + 1 := ⟨k - 1, by omega⟩
      rw [hH (j + 1), hH j, hr j (by omega)]
      exact bay_again ob _ _
    have sT := line_rests bs (fun c hc => o c (List.mem_cons_of_mem _ hc)) (fun k => (S k).tail) (fun k => (bay b ((S k).headD none) (rows k)).2) (m + 1) (fun k => by have := hl k; simp at this ⊢; omega) hT fun k hk => by
      show (bay b ((S (k + 1)).headD none) (rows (k + 1))).2 = (bay b ((S k).headD none) (rows k)).2
      rw [sH k hk, hr k (by omega)]
    simp only [List.length_cons] at hk
    rw [eS (k + 1), eS k, sH k (by omega), sT k (by omega)]
def rdM (l : List Bk) (row : List Int) : Nat → List (Option Int)
  | 0 => emptyM l
  | k + 1 => (runM l (rdM l row k) row).1
theorem rdM_length (l : List Bk) (row : List Int) : ∀ k, (rdM l row k).length = l.length
  | 0 => by simp [rdM, emptyM]
  | k + 1 => by rw [rdM, runM_length, rdM_length l row k]
theorem rdM_rests {l : List Bk} (o : ∀ b ∈ l, IsOrd b) (row : List Int) (k : Nat) (h : l.length ≤ k) : rdM l row (k + 1) = rdM l row k :=
  line_rests l o (rdM l row) (fun _ => row) 0 (rdM_length l row) (fun _ => rfl) (fun _ _ => rfl) k (by omega)
/-- the first round that changes nothing -/
theorem rdM_first {l : List Bk} (o : ∀ b ∈ l, IsOrd b) (row : List Int) : ∃ B, B ≤ l.length ∧ rdM l row (B + 1) = rdM l row B ∧ ∀ k, k < B → rdM l row (k + 1) ≠ rdM l row k := by
  have : ∀ n, (∀ k, k < n → rdM l row (k + 1) ≠ rdM l row k) ∨ ∃ B, B < n ∧ rdM l row (B + 1) = rdM l row B ∧ ∀ k, k < B → rdM l row (k + 1) ≠ rdM l row k := by
    intro n
    induction n with
    | zero => exact .inl fun k h => absurd h (Nat.not_lt_zero _)
    | succ n ih =>
      rcases ih with ih | ⟨B, h1, h2⟩
      · by_cases c : rdM l row (n + 1) = rdM l row n
        · exact .inr ⟨n, Nat.lt_succ_self n, c, ih⟩
        · refine .inl fun k hk => ?_
          by_cases e : k = n
          · rw [e]; exact c
          · exact ih k (by omega)
      · exact .inr ⟨B, by omega, h2⟩
  rcases this (l.length + 1) with h | ⟨B, h1, h2⟩
  · exact absurd (rdM_rests o row l.length (Nat.le_refl _)) (h l.length (Nat.lt_succ_self _))
  · exact ⟨B, by omega, h2⟩
end BM
namespace BM
/-! an order that is found kind by kind, the last one first -/
structure Fnd (done : List Int) (f : Bk) : Prop where
  k : ∀ p ∈ f, p.1 ∈ done ∧ p.2 ∈ done ∧ p.1 ≠ p.2
  tr : ∀ x y z, (x, y) ∈ f → (y, z) ∈ f → (x, z) ∈ f
  nd : f.Nodup
theorem Fnd.nil : Fnd [] [] := ⟨by simp, by simp, .nil⟩
theorem mem_new {f : Bk} {y : Int} {ns : List Int} {a c : Int} : (a, c) ∈ f ++ ns.map (fun h => (y, h)) ↔ (a, c) ∈ f ∨ (a = y ∧ c ∈ ns) := by
  rw [List.mem_append, List.mem_map]
  constructor
  · rintro (h | ⟨k, hk, e⟩)
    · exact .inl h
    · cases e
      exact .inr ⟨rfl, hk⟩
  · rintro (h | ⟨rfl, h⟩)
    · exact .inl h
    · exact .inr ⟨c, h, rfl⟩
theorem Fnd.step {done : List Int} {f : Bk} (h : Fnd done f) {y : Int} (hy : y ∉ done) {ns : List Int} (hn : ∀ k ∈ ns, k ∈ done) (np : ns.Pairwise (· < ·)) (hc : ∀ x ∈ ns, ∀ z, (x, z) ∈ f → z ∈ ns) : Fnd (y :: done) (f ++ ns.map fun h => (y, h)) := by
  refine ⟨fun p hp => ?_, fun a b c h1 h2 => ?_, ?_⟩
  · obtain ⟨a, c⟩ := p
    rcases mem_new.mp hp with hp | ⟨rfl, hp'⟩
    · have := h.k _ hp
      exact ⟨List.mem_cons_of_mem _ this.1, List.mem_cons_of_mem _ this.2.1, this.2.2⟩
    · exact ⟨List.mem_cons_self, List.mem_cons_of_mem _ (hn _ hp'), fun e => by
        have e : a = c := e
        subst e
        exact hy (hn _ hp')⟩
  · rw [mem_new] at h1 h2 ⊢
    rcases h1 with h1 | ⟨rfl, h1⟩
    · rcases h2 with h2 | ⟨rfl, h2⟩
      · exact .inl (h.tr _ _ _ h1 h2)
      · exact absurd (h.k _ h1).2.1 hy
    · rcases h2 with h2 | ⟨e, h2⟩
      · exact .inr ⟨rfl, hc b h1 c h2⟩
      · exact absurd (e ▸ hn b h1) hy
  · refine List.nodup_append.mpr ⟨h.nd, ?_, fun p hp r hr e => ?_⟩
    · exact List.Pairwise.map _ (fun a b (hab : a < b) e => by cases e; omega) np
    · obtain ⟨k, hk, rfl⟩ := List.mem_map.mp hr
      subst e
      exact hy (h.k _ hp).1
theorem asP_of {b : Bk} (h : b.Pairwise fun p q : Int × Int => p.1 < q.1 ∨ (p.1 = q.1 ∧ p.2 ≤ q.2)) (n : b.Nodup) : b.Pairwise asP := by
  refine (h.and n).imp fun {p q} ⟨a, c⟩ => ?_
  rcases a with a | ⟨a1, a2⟩
  · exact .inl a
  · refine .inr ⟨a1, ?_⟩
    have : p.2 ≠ q.2 := fun e => c (Prod.ext a1 e)
    omega
theorem Fnd.ord {done : List Int} {f g : Bk} (h : Fnd done f) (p : g.Perm f) (s : g.Pairwise fun p q : Int × Int => p.1 < q.1 ∨ (p.1 = q.1 ∧ p.2 ≤ q.2)) : IsOrd g :=
  ⟨fun x hx => (h.k _ (p.mem_iff.mp hx)).2.2 rfl, fun x y z h1 h2 => p.mem_iff.mpr (h.tr x y z (p.mem_iff.mp h1) (p.mem_iff.mp h2)), asP_of s (p.nodup_iff.mpr h.nd)⟩
end BM
namespace BM
/-! waves -/
section
variable {α β : Type} [DecidableEq α]
/-- at which place it stands first -/
def idxN (x : α) : List α → Nat
  | [] => 0
  | y :: ss => if y = x then 0 else idxN x ss + 1
def addN (ss : List α) (x : α) : List α := if x ∈ ss then ss else ss ++ [x]
theorem addN_mem (ss : List α) (x : α) : x ∈ addN ss x := by
  unfold addN
  split
  · assumption
  · simp
theorem mem_addN {ss : List α} {x y : α} : y ∈ addN ss x ↔ y ∈ ss ∨ y = x := by
  unfold addN
  split
  · rename_i h
    exact ⟨.inl, fun z => z.elim id fun e => e ▸ h⟩
  · simp
theorem addN_nodup {ss : List α} (h : ss.Nodup) (x : α) : (addN ss x).Nodup := by
  unfold addN
  split
  · exact h
  · rename_i n
    refine List.nodup_append.mpr ⟨h, by simp, fun a ha b hb e => ?_⟩
    rw [List.mem_singleton.mp hb] at e
    exact n (e ▸ ha)
theorem addN_pre (ss : List α) (x : α) : ss <+: addN ss x := by
  unfold addN
  split
  · exact List.prefix_refl _
  · exact List.prefix_append _ _
def wavK : List (α × β) → List α → List α × List (Nat × β)
  | [], ss => (ss, [])
  | (x, o) :: r, ss => ((wavK r (addN ss x)).1, (idxN x (addN ss x), o) :: (wavK r (addN ss x)).2)
theorem wavK_cons (p : α × β) (r : List (α × β)) (ss : List α) : wavK (p :: r) ss = ((wavK r (addN ss p.1)).1, (idxN p.1 (addN ss p.1), p.2) :: (wavK r (addN ss p.1)).2) := rfl
theorem wavK_nodup : ∀ (r : List (α × β)) (ss : List α), ss.Nodup → (wavK r ss).1.Nodup
  | [], _, h => h
  | (x, _) :: r, _, h => wavK_nodup r _ (addN_nodup h x)
theorem wavK_pre : ∀ (r : List (α × β)) (ss : List α), ss <+: (wavK r ss).1
  | [], ss => List.prefix_refl _
  | (x, _) :: r, ss => (addN_pre ss x).trans (wavK_pre r _)
theorem wavK_P {P : α → Prop} : ∀ (r : List (α × β)) (ss : List α), (∀ x ∈ ss, P x) → (∀ p ∈ r, P p.1) → ∀ x ∈ (wavK r ss).1, P x
  | [], _, h, _ => h
  | (y, _) :: r, ss, h, hr => wavK_P r _ (fun x hx => (mem_addN.mp hx).elim (h x) fun e => e ▸ hr _ List.mem_cons_self) fun p hp => hr p (List.mem_cons_of_mem _ hp)
theorem wavK_len : ∀ (r : List (α × β)) (ss : List α), (wavK r ss).2.length = r.length
  | [], _ => rfl
  | _ :: r, _ => congrArg (· + 1) (wavK_len r _)
variable (f : α → List (α × β)) (a0 : α)
def itW : Nat → List α × List (α × List (Nat × β))
  | 0 => ([a0], [])
  | t + 1 => match (itW t).1[t]? with
    | some s => ((wavK (f s) (itW t).1).1, (itW t).2 ++ [(s, (wavK (f s) (itW t).1).2)])
    | none => itW t
theorem itW_some {t : Nat} {s : α} (h : (itW f a0 t).1[t]? = some s) : itW f a0 (t + 1) = ((wavK (f s) (itW f a0 t).1).1, (itW f a0 t).2 ++ [(s, (wavK (f s) (itW f a0 t).1).2)]) := by
  rw [itW, h]
theorem itW_none {t : Nat} (h : (itW f a0 t).1[t]? = none) : itW f a0 (t + 1) = itW f a0 t := by
  rw [itW, h]
theorem itW_nodup : ∀ t, (itW f a0 t).1.Nodup
  | 0 => by simp [itW]
  | t + 1 => by
    cases h : (itW f a0 t).1[t]? with
    | none => rw [itW_none f a0 h]; exact itW_nodup t
    | some s => rw [itW_some f a0 h]; exact wavK_nodup _ _ (itW_nodup t)
theorem itW_P {P : α → Prop} (h0 : P a0) (hf : ∀ s, P s → ∀ p ∈ f s, P p.1) : ∀ t, ∀ x ∈ (itW f a0 t).1, P x
  | 0 => by
    intro x hx
    rw [List.mem_singleton.mp hx]
    exact h0
  | t + 1 => by
    cases h : (itW f a0 t).1[t]? with
    | none => rw [itW_none f a0 h]; exact itW_P h0 hf t
    | some s =>
      rw [itW_some f a0 h]
      exact wavK_P _ _ (itW_P h0 hf t) (hf s (itW_P h0 hf t s (List.mem_of_getElem? h)))
/-- no more comes -/
structure FinW (T : Nat) : Prop where
  e : (itW f a0 T).1.length = T
  lt : ∀ t, t < T → t < (itW f a0 t).1.length
theorem FinW.uniq {A B : Nat} (h : FinW f a0 A) (g : FinW f a0 B) : A = B := by
  rcases Nat.lt_trichotomy A B with c | c | c
  · have := g.lt A c
    have := h.e
    omega
  · exact c
  · have := h.lt B c
    have := g.e
    omega
theorem FinW.ex {N : Nat} (h : ∀ t, (itW f a0 t).1.length ≤ N) : ∃ T, T ≤ N ∧ FinW f a0 T := by
  have : ∀ n, (∀ t, t < n → t < (itW f a0 t).1.length) ∨ ∃ T, T < n ∧ FinW f a0 T := fun n => by
    induction n with
    | zero => exact .inl fun t h => absurd h (Nat.not_lt_zero t)
    | succ n ih =>
      rcases ih with ih | ⟨T, h1, h2⟩
      · by_cases c : n < (itW f a0 n).1.length
        · refine .inl fun t ht => ?_
          by_cases e : t = n
          · rw [e]; exact c
          · exact ih t (by omega)
        · refine .inr ⟨n, Nat.lt_succ_self n, ?_, ih⟩
          refine Nat.le_antisymm (by omega) ?_
          cases n with
          | zero => exact Nat.zero_le _
          | succ m =>
            have hm := ih m (Nat.lt_succ_self m)
            have : (itW f a0 m).1.length ≤ (itW f a0 (m + 1)).1.length := by
              cases h : (itW f a0 m).1[m]? with
              | none => rw [itW_none f a0 h]; exact Nat.le_refl _
              | some s => rw [itW_some f a0 h]; exact (wavK_pre _ _).length_le
            omega
      · exact .inr ⟨T, by omega, h2⟩
  rcases this (N + 1) with c | ⟨T, h1, h2⟩
  · have := c N (Nat.lt_succ_self N)
    have := h N
    omega
  · exact ⟨T, by omega, h2⟩
theorem itW_told {T : Nat} (h : FinW f a0 T) : ∀ t, t ≤ T → (itW f a0 t).2.length = t
  | 0, _ => rfl
  | t + 1, ht => by
    have lt := h.lt t (by omega)
    have e := List.getElem?_eq_getElem lt
    rw [itW_some f a0 e, List.length_append, itW_told h t (by omega)]
    rfl
end
/-! how many standings there are -/
theorem nodup_subG {α : Type} [DecidableEq α] : ∀ (ns ds : List α), ns.Nodup → (∀ k ∈ ns, k ∈ ds) → ns.length ≤ ds.length
  | [], _, _, _ => Nat.zero_le _
  | n :: ns, ds, nd, h => by
    rw [List.nodup_cons] at nd
    have hn := h n List.mem_cons_self
    have := nodup_subG ns (ds.erase n) nd.2 fun k hk => by
      have hk' := h k (List.mem_cons_of_mem _ hk)
      have ne : k ≠ n := fun e => nd.1 (e ▸ hk)
      exact (List.mem_erase_of_ne ne).mpr hk'
    rw [List.length_erase_of_mem hn] at this
    have := List.length_pos_of_mem hn
    simp
    omega
def allO (n : Nat) : List (Option Int) := none :: (List.range n).map fun k : Nat => some (k : Int)
def allS (n : Nat) : Nat → List (List (Option Int))
  | 0 => [[]]
  | b + 1 => (allO n).flatMap fun o => (allS n b).map (o :: ·)
theorem allS_len (n : Nat) : ∀ b, (allS n b).length = (n + 1) ^ b
  | 0 => rfl
  | b + 1 => by
    rw [allS, List.length_flatMap]
    have : ((allO n).map fun o => ((allS n b).map (o :: ·)).length) = List.replicate (n + 1) ((n + 1) ^ b) := by
      refine List.eq_replicate_iff.mpr ⟨by simp [allO], fun x hx => ?_⟩
      obtain ⟨o, _, rfl⟩ := List.mem_map.mp hx
      rw [List.length_map, allS_len n b]
    rw [this, List.sum_replicate_nat, Nat.pow_succ, Nat.mul_comm]
def InS (n b : Nat) (s : List (Option Int)) : Prop := s.length = b ∧ ∀ k : Int, some k ∈ s → 0 ≤ k ∧ k < n
theorem allS_mem {n : Nat} : ∀ {b : Nat} {s : List (Option Int)}, InS n b s → s ∈ allS n b
  | 0, s, h => by
    rw [List.length_eq_zero_iff.mp h.1]
    simp [allS]
  | b + 1, [], h => by simp [InS] at h
  | b + 1, o :: s, h => by
    rw [allS, List.mem_flatMap]
    refine ⟨o, ?_, List.mem_map.mpr ⟨s, allS_mem ⟨by have := h.1; simpa using this, fun k hk => h.2 k (List.mem_cons_of_mem _ hk)⟩, rfl⟩⟩
    cases o with
    | none => simp [allO]
    | some k =>
      have := h.2 k List.mem_cons_self
      refine List.mem_cons_of_mem _ (List.mem_map.mpr ⟨k.toNat, List.mem_range.mpr (by omega), by congr 1; omega⟩)
theorem st_count {n b : Nat} {ss : List (List (Option Int))} (nd : ss.Nodup) (h : ∀ s ∈ ss, InS n b s) : ss.length ≤ (n + 1) ^ b := by
  rw [← allS_len]
  exact nodup_subG ss _ nd fun s hs => allS_mem (h s hs)
/-! the standings that come in a line -/
def kindsI (n : Nat) : List Int := (List.range n).map fun k : Nat => (k : Int)
def stpF (l : List Bk) (n : Nat) (s : List (Option Int)) : List (List (Option Int) × Option Int) := (kindsI n).map fun k => stepM l s k
abbrev waveT (l : List Bk) (n t : Nat) := itW (stpF l n) (emptyM l) t
theorem stepM_in {n : Nat} : ∀ (l : List Bk) (s : List (Option Int)) (k : Int), InS n l.length s → (0 ≤ k ∧ k < n) → InS n l.length (stepM l s k).1
  | l, s, k, h, hk => ⟨by rw [stepM_length]; exact h.1, (stepM_P (P := fun k => 0 ≤ k ∧ k < (n : Int)) l s k h.2 hk).1⟩
theorem waveT_in (l : List Bk) (n t : Nat) : ∀ s ∈ (waveT l n t).1, InS n l.length s := by
  refine itW_P (P := InS n l.length) _ _ ⟨by simp [emptyM], fun k hk => ?_⟩ (fun s hs p hp => ?_) t
  · simp [emptyM] at hk
  · unfold stpF kindsI at hp
    obtain ⟨k, hk, rfl⟩ := List.mem_map.mp hp
    obtain ⟨j, hj, rfl⟩ := List.mem_map.mp hk
    have := List.mem_range.mp hj
    exact stepM_in l s _ hs ⟨by omega, by omega⟩
theorem waveT_len (l : List Bk) (n t : Nat) : (waveT l n t).1.length ≤ (n + 1) ^ l.length := st_count (itW_nodup _ _ t) (waveT_in l n t)
end BM
namespace BM
/-! what a table tells -/
section
variable {α β : Type} [DecidableEq α]
theorem idxN_get {x : α} : ∀ {ss : List α}, x ∈ ss → ss[idxN x ss]? = some x
  | [], h => absurd h (by simp)
  | y :: ss, h => by
    rw [idxN]
    by_cases c : y = x
    · rw [if_pos c, c]
      rfl
    · rw [if_neg c]
      exact idxN_get ((List.mem_cons.mp h).resolve_left fun e => c e.symm)
theorem pre_get {ss rs : List α} (h : ss <+: rs) {i : Nat} {x : α} (e : ss[i]? = some x) : rs[i]? = some x := by
  obtain ⟨r, rfl⟩ := h
  rw [List.getElem?_append_left (List.getElem?_eq_some_iff.mp e).1]
  exact e
theorem wavK_get : ∀ (r : List (α × β)) (ss : List α) (k : Nat) (x : α) (o : β), r[k]? = some (x, o) → ∃ j, (wavK r ss).2[k]? = some (j, o) ∧ (wavK r ss).1[j]? = some x
  | [], ss, k, x, o, h => by simp at h
  | p :: r, ss, 0, x, o, h => by
    simp at h
    subst h
    exact ⟨_, rfl, pre_get (wavK_pre r _) (idxN_get (addN_mem ss x))⟩
  | p :: r, ss, k + 1, x, o, h => by
    obtain ⟨j, h1, h2⟩ := wavK_get r (addN ss p.1) k x o (by simpa using h)
    exact ⟨j, by rw [wavK_cons]; simpa using h1, h2⟩
variable (f : α → List (α × β)) (a0 : α)
theorem itW_pre (t : Nat) : (itW f a0 t).1 <+: (itW f a0 (t + 1)).1 := by
  cases h : (itW f a0 t).1[t]? with
  | none => rw [itW_none f a0 h]; exact List.prefix_refl _
  | some s => rw [itW_some f a0 h]; exact wavK_pre _ _
/-- the rows of what is told -/
structure RowW (ss : List α) (i : Nat) (e : α × List (Nat × β)) : Prop where
  at' : ss[i]? = some e.1
  nx : ∀ (k : Nat) (x : α) (o : β), (f e.1)[k]? = some (x, o) → ∃ j : Nat, e.2[k]? = some (j, o) ∧ ss[j]? = some x
theorem itW_rows {T : Nat} (h : FinW f a0 T) : ∀ t, t ≤ T → ∀ i, i < t → ∃ e, (itW f a0 t).2[i]? = some e ∧ RowW f (itW f a0 t).1 i e
  | 0, _, i, hi => absurd hi (Nat.not_lt_zero i)
  | t + 1, ht, i, hi => by
    have lt := h.lt t (by omega)
    have es := List.getElem?_eq_getElem lt
    generalize (itW f a0 t).1[t] = s at es
    have pre := itW_pre f a0 t
    have tl := itW_told f a0 h t (by omega)
    rw [itW_some f a0 es] at pre ⊢
    simp only at pre ⊢
    by_cases c : i < t
    · obtain ⟨e, h1, h2⟩ := itW_rows h t (by omega) i c
      refine ⟨e, by rw [List.getElem?_append_left (by omega)]; exact h1, pre_get pre h2.at', fun k x o hk => ?_⟩
      obtain ⟨j, j1, j2⟩ := h2.nx k x o hk
      exact ⟨j, j1, pre_get pre j2⟩
    · have e : i = t := by omega
      subst e
      refine ⟨_, by rw [List.getElem?_append_right (by omega), tl, Nat.sub_self]; rfl, pre_get pre es, fun k x o hk => ?_⟩
      exact wavK_get (f s) _ k x o hk
theorem fin_rows {T : Nat} (h : FinW f a0 T) (i : Nat) (hi : i < T) : ∃ e, (itW f a0 T).2[i]? = some e ∧ RowW f (itW f a0 T).1 i e := itW_rows f a0 h T (Nat.le_refl T) i hi
theorem fin_lt {T : Nat} (h : FinW f a0 T) {i : Nat} {x : α} (e : (itW f a0 T).1[i]? = some x) : i < T := by
  have := (List.getElem?_eq_some_iff.mp e).1
  have := h.e
  omega
theorem fin_zero {T : Nat} (h : FinW f a0 T) : (itW f a0 T).1[0]? = some a0 := by
  have : ∀ t, (itW f a0 t).1[0]? = some a0 := fun t => by
    induction t with
    | zero => rfl
    | succ t ih => exact pre_get (itW_pre f a0 t) ih
  exact this T
end
end BM
namespace BM
/-! numbers of what is first seen -/
section
variable {γ δ : Type} [DecidableEq γ] [DecidableEq δ]
def numG : List γ → List γ → List Nat
  | [], _ => []
  | x :: xs, fs => idxN x (addN fs x) :: numG xs (addN fs x)
theorem numG_len : ∀ (xs fs : List γ), (numG xs fs).length = xs.length
  | [], _ => rfl
  | _ :: xs, _ => congrArg (· + 1) (numG_len xs _)
theorem idxN_not {x : γ} : ∀ {fs : List γ}, x ∉ fs → idxN x fs = fs.length
  | [], _ => rfl
  | y :: fs, h => by
    rw [List.mem_cons, not_or] at h
    rw [idxN, if_neg fun e => h.1 e.symm, idxN_not h.2]
    rfl
theorem idxN_lt {x : γ} : ∀ {fs : List γ}, x ∈ fs → idxN x fs < fs.length
  | [], h => absurd h (by simp)
  | y :: fs, h => by
    rw [idxN]
    by_cases c : y = x
    · rw [if_pos c]; simp
    · rw [if_neg c]
      have := idxN_lt ((List.mem_cons.mp h).resolve_left fun e => c e.symm)
      simp
      omega
theorem idxN_app {x : γ} : ∀ {fs : List γ} (gs : List γ), x ∈ fs → idxN x (fs ++ gs) = idxN x fs
  | [], _, h => absurd h (by simp)
  | y :: fs, gs, h => by
    rw [List.cons_append, idxN, idxN]
    by_cases c : y = x
    · rw [if_pos c, if_pos c]
    · rw [if_neg c, if_neg c, idxN_app gs ((List.mem_cons.mp h).resolve_left fun e => c e.symm)]
theorem idxN_app' {x : γ} : ∀ {fs : List γ} (gs : List γ), x ∉ fs → idxN x (fs ++ gs) = fs.length + idxN x gs
  | [], gs, _ => by simp
  | y :: fs, gs, h => by
    rw [List.mem_cons, not_or] at h
    rw [List.cons_append, idxN, if_neg (fun e => h.1 e.symm), idxN_app' gs h.2]
    simp
    omega
theorem idxN_pre {x : γ} {fs gs : List γ} (p : fs <+: gs) (h : x ∈ fs) : idxN x gs = idxN x fs := by
  obtain ⟨r, rfl⟩ := p
  exact idxN_app r h
theorem idxN_inj {x y : γ} {fs : List γ} (hx : x ∈ fs) (h : idxN x fs = idxN y fs) (hy : y ∈ fs) : x = y := by
  have a := idxN_get hx
  have b := idxN_get hy
  rw [h, b] at a
  exact (Option.some.inj a).symm
def foldN (xs fs : List γ) : List γ := xs.foldl addN fs
theorem foldN_pre : ∀ (xs fs : List γ), fs <+: foldN xs fs
  | [], fs => List.prefix_refl _
  | x :: xs, fs => (addN_pre fs x).trans (foldN_pre xs _)
theorem foldN_mem : ∀ (xs fs : List γ) {x : γ}, x ∈ xs → x ∈ foldN xs fs
  | y :: xs, fs, x, h => by
    rcases List.mem_cons.mp h with rfl | h
    · exact (foldN_pre xs _).subset (addN_mem fs x)
    · exact foldN_mem xs _ h
theorem foldN_nodup : ∀ (xs fs : List γ), fs.Nodup → (foldN xs fs).Nodup
  | [], _, h => h
  | x :: xs, _, h => foldN_nodup xs _ (addN_nodup h x)
/-- .. looked up at the end -/
theorem numG_fold : ∀ (xs fs : List γ), numG xs fs = xs.map fun x => idxN x (foldN xs fs)
  | [], _ => rfl
  | x :: xs, fs => by
    rw [numG, List.map_cons, numG_fold xs]
    congr 1
    exact (idxN_pre (foldN_pre xs _) (addN_mem fs x)).symm
theorem numG_eq {xs : List γ} {i j : Nat} {x y : γ} (hi : xs[i]? = some x) (hj : xs[j]? = some y) : (numG xs [])[i]? = (numG xs [])[j]? ↔ x = y := by
  rw [numG_fold, List.getElem?_map, List.getElem?_map, hi, hj]
  simp only [Option.map_some, Option.some.injEq]
  exact ⟨fun h => idxN_inj (foldN_mem xs [] (List.mem_of_getElem? hi)) h (foldN_mem xs [] (List.mem_of_getElem? hj)), fun h => by rw [h]⟩
/-- which stand alike is all that counts -/
theorem numG_canon : ∀ (xs fs : List γ) (ys gs : List δ), xs.length = ys.length → fs.length = gs.length → (∀ (i : Nat) x y, xs[i]? = some x → ys[i]? = some y → idxN x fs = idxN y gs) →
    (∀ (i j : Nat) x x' y y', xs[i]? = some x → xs[j]? = some x' → ys[i]? = some y → ys[j]? = some y' → (x = x' ↔ y = y')) → numG xs fs = numG ys gs
  | [], _, [], _, _, _, _, _ => rfl
  | [], _, _ :: _, _, h, _, _, _ => by simp at h
  | _ :: _, _, [], _, h, _, _, _ => by simp at h
  | x :: xs, fs, y :: ys, gs, hl, hf, hi, hp => by
    have h0 := hi 0 x y rfl rfl
    have mem : x ∈ fs ↔ y ∈ gs := by
      constructor
      · intro h
        apply Classical.byContradiction
        intro n
        have := idxN_lt h
        rw [h0, idxN_not n] at this
        omega
      · intro h
        apply Classical.byContradiction
        intro n
        have := idxN_lt h
        rw [← h0, idxN_not n] at this
        omega
    have memi : ∀ (i : Nat) x' y', xs[i]? = some x' → ys[i]? = some y' → (x' ∈ fs ↔ y' ∈ gs) := fun i x' y' e1 e2 => by
      have hh := hi (i + 1) x' y' (by simpa using e1) (by simpa using e2)
      constructor
      · intro h
        apply Classical.byContradiction
        intro n
        have := idxN_lt h
        rw [hh, idxN_not n] at this
        omega
      · intro h
        apply Classical.byContradiction
        intro n
        have := idxN_lt h
        rw [← hh, idxN_not n] at this
        omega
    have hp' : ∀ (i j : Nat) a a' b b', xs[i]? = some a → xs[j]? = some a' → ys[i]? = some b → ys[j]? = some b' → (a = a' ↔ b = b') := fun i j a a' b b' e1 e2 e3 e4 =>
      hp (i + 1) (j + 1) a a' b b' (by simpa using e1) (by simpa using e2) (by simpa using e3) (by simpa using e4)
    rw [numG, numG]
    by_cases c : x ∈ fs
    · have c' := mem.mp c
      rw [show addN fs x = fs from if_pos c, show addN gs y = gs from if_pos c', h0, numG_canon xs fs ys gs (by simpa using hl) hf (fun i a b e1 e2 => hi (i + 1) a b (by simpa using e1) (by simpa using e2)) hp']
    · have c' : y ∉ gs := fun z => c (mem.mpr z)
      rw [show addN fs x = fs ++ [x] from if_neg c, show addN gs y = gs ++ [y] from if_neg c']
      have key : ∀ (i : Nat) a b, xs[i]? = some a → ys[i]? = some b → idxN a (fs ++ [x]) = idxN b (gs ++ [y]) := fun i a b e1 e2 => by
        have m := memi i a b e1 e2
        by_cases ca : a ∈ fs
        · rw [idxN_app _ ca, idxN_app _ (m.mp ca)]
          exact hi (i + 1) a b (by simpa using e1) (by simpa using e2)
        · have cb : b ∉ gs := fun z => ca (m.mpr z)
          rw [idxN_app' _ ca, idxN_app' _ cb, hf]
          have q := hp 0 (i + 1) x a y b rfl (by simpa using e1) rfl (by simpa using e2)
          simp only [idxN]
          by_cases e : x = a
          · rw [if_pos e, if_pos (q.mp e)]
          · rw [if_neg e, if_neg fun z => e (q.mpr z)]
      rw [numG_canon xs (fs ++ [x]) ys (gs ++ [y]) (by simpa using hl) (by simp [hf]) key hp', idxN_app' _ c, idxN_app' _ c', hf]
      simp [idxN]
end
/-! how many are first -/
def isFst (l : List Nat) (i : Nat) : Bool := (List.range i).all fun j => !decide (l[j]? = l[i]?)
def cntF (l : List Nat) : Nat := ((List.range l.length).filter (isFst l)).length
theorem isFst_iff {l : List Nat} {i : Nat} : isFst l i = true ↔ ∀ j, j < i → l[j]? ≠ l[i]? := by
  unfold isFst
  rw [List.all_eq_true]
  constructor
  · intro h j hj
    have := h j (List.mem_range.mpr hj)
    simpa using this
  · intro h j hj
    have := h j (List.mem_range.mp hj)
    simpa using this
theorem fst_ex (l : List Nat) : ∀ n i, i ≤ n → i < l.length → ∃ k, k ≤ i ∧ isFst l k = true ∧ l[k]? = l[i]?
  | n, i, hn, hi => by
    by_cases c : isFst l i = true
    · exact ⟨i, Nat.le_refl i, c, rfl⟩
    · have : ∃ j, j < i ∧ l[j]? = l[i]? := by
        apply Classical.byContradiction
        intro h
        exact c (isFst_iff.mpr fun j hj e => h ⟨j, hj, e⟩)
      obtain ⟨j, hj, e⟩ := this
      match n with
      | 0 => omega
      | n + 1 =>
        obtain ⟨k, h1, h2, h3⟩ := fst_ex l n j (by omega) (by omega)
        exact ⟨k, by omega, h2, h3.trans e⟩
theorem filter_le {p q : Nat → Bool} : ∀ (xs : List Nat), (∀ x ∈ xs, p x = true → q x = true) → (xs.filter p).length ≤ (xs.filter q).length ∧ ((xs.filter p).length = (xs.filter q).length → ∀ x ∈ xs, q x = true → p x = true)
  | [], _ => ⟨Nat.le_refl _, fun _ x hx => absurd hx (by simp)⟩
  | x :: xs, h => by
    obtain ⟨h1, h2⟩ := filter_le xs fun y hy => h y (List.mem_cons_of_mem _ hy)
    rw [List.filter_cons, List.filter_cons]
    cases hp : p x with
    | true =>
      rw [h x List.mem_cons_self hp]
      simp only [if_true, List.length_cons]
      refine ⟨by omega, fun e y hy hq => ?_⟩
      rcases List.mem_cons.mp hy with rfl | hy
      · exact hp
      · exact h2 (by omega) y hy hq
    | false =>
      cases hq : q x with
      | true =>
        simp only [if_true, List.length_cons, Bool.false_eq_true, if_false]
        exact ⟨by omega, fun e => absurd e (by omega)⟩
      | false =>
        simp only [Bool.false_eq_true, if_false]
        refine ⟨h1, fun e y hy hz => ?_⟩
        rcases List.mem_cons.mp hy with rfl | hy
        · rw [hq] at hz
          cases hz
        · exact h2 e y hy hz
/-- finer numbers: more of them, or alike in the same places -/
theorem finer {a b : List Nat} (hl : a.length = b.length) (h : ∀ i j : Nat, i < b.length → j < b.length → b[i]? = b[j]? → a[i]? = a[j]?) : cntF a < cntF b ∨ ∀ i j : Nat, i < b.length → j < b.length → a[i]? = a[j]? → b[i]? = b[j]? := by
  have sub : ∀ x ∈ List.range a.length, isFst a x = true → isFst b x = true := fun x hx hf => by
    have hx := List.mem_range.mp hx
    rw [isFst_iff] at hf ⊢
    exact fun j hj e => hf j hj (h j x (by omega) (by omega) e)
  obtain ⟨h1, h2⟩ := filter_le _ sub
  have ea : ((List.range a.length).filter (isFst a)).length = cntF a := rfl
  have eb : ((List.range a.length).filter (isFst b)).length = cntF b := by unfold cntF; rw [hl]
  rw [ea, eb] at h1 h2
  by_cases c : cntF a = cntF b
  · refine .inr fun i j hi hj e => ?_
    obtain ⟨i0, i1, i2, i3⟩ := fst_ex b i i (Nat.le_refl i) hi
    obtain ⟨j0, j1, j2, j3⟩ := fst_ex b j j (Nat.le_refl j) hj
    have ai := h2 c i0 (List.mem_range.mpr (by omega)) i2
    have aj := h2 c j0 (List.mem_range.mpr (by omega)) j2
    rw [isFst_iff] at ai aj
    have e1 : a[i0]? = a[j0]? := (h i0 i (by omega) hi i3).trans (e.trans (h j0 j (by omega) hj j3).symm)
    rcases Nat.lt_trichotomy i0 j0 with q | q | q
    · exact absurd e1 (aj i0 q)
    · subst q
      exact i3.symm.trans j3
    · exact absurd e1.symm (ai j0 q)
  · exact .inl (by omega)
theorem cntF_le (l : List Nat) : cntF l ≤ l.length := by
  unfold cntF
  have := List.length_filter_le (isFst l) (List.range l.length)
  rw [List.length_range] at this
  exact this
theorem cntF_pos {l : List Nat} (h : l ≠ []) : 1 ≤ cntF l := by
  unfold cntF
  have : 0 ∈ (List.range l.length).filter (isFst l) := List.mem_filter.mpr ⟨List.mem_range.mpr (List.length_pos_iff.mpr h), isFst_iff.mpr fun j hj => absurd hj (Nat.not_lt_zero j)⟩
  exact List.length_pos_of_mem this
/-! standings that are alike -/
abbrev Tn := List (Nat × Option Int) × List Int
def it0 (e : Tn) : List (Option Int) × List Int := (e.1.map (·.2), e.2)
def itN (te : List Tn) (N : List Nat) : List (Nat × List Nat) := (N.zip te).map fun p => (p.1, p.2.1.map fun q => N.getD q.1 0)
def numS (te : List Tn) : Nat → List Nat
  | 0 => numG (te.map it0) []
  | k + 1 => numG (itN te (numS te k)) []
theorem numS_len (te : List Tn) : ∀ k, (numS te k).length = te.length
  | 0 => by rw [numS, numG_len, List.length_map]
  | k + 1 => by rw [numS, numG_len, itN, List.length_map, List.length_zip, numS_len te k, Nat.min_self]
theorem itN_get {te : List Tn} {N : List Nat} {i n : Nat} {e : Tn} (h1 : N[i]? = some n) (h2 : te[i]? = some e) : (itN te N)[i]? = some (n, e.1.map fun q => N.getD q.1 0) := by
  unfold itN
  rw [List.getElem?_map, List.getElem?_zip_eq_some.mpr (show N[i]? = some (n, e).1 ∧ te[i]? = some (n, e).2 from ⟨h1, h2⟩)]
  rfl
theorem numS_fine {te : List Tn} {k i j : Nat} (hi : i < te.length) (hj : j < te.length) (h : (numS te (k + 1))[i]? = (numS te (k + 1))[j]?) : (numS te k)[i]? = (numS te k)[j]? ∧ ∀ e e', te[i]? = some e → te[j]? = some e' → (e.1.map fun q => (numS te k).getD q.1 0) = e'.1.map fun q => (numS te k).getD q.1 0 := by
  have l := numS_len te k
  have ei := List.getElem?_eq_getElem (show i < (numS te k).length by omega)
  have ej := List.getElem?_eq_getElem (show j < (numS te k).length by omega)
  have ti := List.getElem?_eq_getElem hi
  have tj := List.getElem?_eq_getElem hj
  have := (numG_eq (itN_get ei ti) (itN_get ej tj)).mp h
  simp only [Prod.mk.injEq] at this
  refine ⟨by rw [ei, ej, this.1], fun e e' h1 h2 => ?_⟩
  rw [ti] at h1
  rw [tj] at h2
  cases h1
  cases h2
  exact this.2
structure FinM (te : List Tn) (K : Nat) : Prop where
  e : numS te (K + 1) = numS te K
  ne : ∀ k, k < K → numS te (k + 1) ≠ numS te k
theorem FinM.uniq {te : List Tn} {A B : Nat} (h : FinM te A) (g : FinM te B) : A = B := by
  rcases Nat.lt_trichotomy A B with c | c | c
  · exact absurd h.e (g.ne A c)
  · exact c
  · exact absurd g.e (h.ne B c)
theorem numS_grow {te : List Tn} {k : Nat} (h : numS te (k + 1) ≠ numS te k) : cntF (numS te k) < cntF (numS te (k + 1)) := by
  have l1 := numS_len te k
  have l2 := numS_len te (k + 1)
  rcases finer (a := numS te k) (b := numS te (k + 1)) (by omega) (fun i j hi hj e => (numS_fine (by omega) (by omega) e).1) with c | c
  · exact c
  · exfalso
    apply h
    have pat : ∀ i j : Nat, i < te.length → j < te.length → ((numS te (k + 1))[i]? = (numS te (k + 1))[j]? ↔ (numS te k)[i]? = (numS te k)[j]?) := fun i j hi hj => ⟨fun e => (numS_fine hi hj e).1, c i j (by omega) (by omega)⟩
    have same : ∀ k : Nat, ∃ (γ : Type) (_ : DecidableEq γ) (xs : List γ), numS te k = numG xs [] ∧ xs.length = te.length := fun k => by
      cases k with
      | zero => exact ⟨_, inferInstance, te.map it0, rfl, List.length_map ..⟩
      | succ k => exact ⟨_, inferInstance, itN te (numS te k), rfl, by rw [itN, List.length_map, List.length_zip, numS_len, Nat.min_self]⟩
    obtain ⟨γ, _, xs, ex, lx⟩ := same (k + 1)
    obtain ⟨δ, _, ys, ey, ly⟩ := same k
    rw [ex, ey] at pat ⊢
    refine numG_canon xs [] ys [] (by omega) rfl (fun _ _ _ _ _ => rfl) fun i j x x' y y' h1 h2 h3 h4 => ?_
    have := pat i j (by have := (List.getElem?_eq_some_iff.mp h1).1; omega) (by have := (List.getElem?_eq_some_iff.mp h2).1; omega)
    rw [numG_eq h1 h2, numG_eq h3 h4] at this
    exact this
theorem FinM.ex {te : List Tn} (h : te ≠ []) : ∃ K, K < te.length ∧ FinM te K := by
  have : ∀ n, (∀ k, k < n → numS te (k + 1) ≠ numS te k) ∨ ∃ K, K < n ∧ FinM te K := fun n => by
    induction n with
    | zero => exact .inl fun k hk => absurd hk (Nat.not_lt_zero k)
    | succ n ih =>
      rcases ih with ih | ⟨K, h1, h2⟩
      · by_cases c : numS te (n + 1) = numS te n
        · exact .inr ⟨n, Nat.lt_succ_self n, c, ih⟩
        · refine .inl fun k hk => ?_
          by_cases e : k = n
          · rw [e]; exact c
          · exact ih k (by omega)
      · exact .inr ⟨K, by omega, h2⟩
  rcases this te.length with c | ⟨K, h1, h2⟩
  · exfalso
    have grow : ∀ k, k ≤ te.length → k + 1 ≤ cntF (numS te k) := fun k => by
      induction k with
      | zero =>
        intro _
        exact cntF_pos fun e => h (List.length_eq_zero_iff.mp (by rw [← numS_len te 0, e]; rfl))
      | succ k ih =>
        intro hk
        have := ih (by omega)
        have := numS_grow (c k (by omega))
        omega
    have := grow te.length (Nat.le_refl _)
    have := cntF_le (numS te te.length)
    rw [numS_len] at this
    omega
  · exact ⟨K, h1, h2⟩
theorem numS_zero {te : List Tn} {i j : Nat} (hi : i < te.length) (hj : j < te.length) : ∀ k, (numS te k)[i]? = (numS te k)[j]? → (numS te 0)[i]? = (numS te 0)[j]?
  | 0, h => h
  | k + 1, h => numS_zero hi hj k (numS_fine hi hj h).1
/-- what is alike: what comes out, where it leads, what is left -/
theorem FinM.alike {te : List Tn} {K : Nat} (h : FinM te K) {i j : Nat} {e e' : Tn} (hi : te[i]? = some e) (hj : te[j]? = some e') (hn : (numS te K)[i]? = (numS te K)[j]?) :
    e.1.map (·.2) = e'.1.map (·.2) ∧ e.2 = e'.2 ∧ (e.1.map fun q => (numS te K).getD q.1 0) = e'.1.map fun q => (numS te K).getD q.1 0 := by
  have li := (List.getElem?_eq_some_iff.mp hi).1
  have lj := (List.getElem?_eq_some_iff.mp hj).1
  have h0 := numS_zero li lj K hn
  have z := (numG_eq (xs := te.map it0) (x := it0 e) (y := it0 e') (by rw [List.getElem?_map, hi]; rfl) (by rw [List.getElem?_map, hj]; rfl)).mp h0
  simp only [it0, Prod.mk.injEq] at z
  refine ⟨z.1, z.2, ?_⟩
  rw [← h.e] at hn
  exact (numS_fine li lj hn).2 e e' hi hj
/-- the least table -/
def lstG (N : List Nat) : List (Nat × Tn) → List Tn → List Tn
  | [], acc => acc
  | (n, e) :: r, acc => if n = acc.length then lstG N r (acc ++ [(e.1.map fun q => (N.getD q.1 0, q.2), e.2)]) else lstG N r acc
def lstM (te : List Tn) (N : List Nat) : List Tn := lstG N (N.zip te) []
theorem lstG_le (N : List Nat) : ∀ (r : List (Nat × Tn)) (acc : List Tn), (lstG N r acc).length ≤ acc.length + r.length
  | [], acc => by simp [lstG]
  | (n, e) :: r, acc => by
    rw [lstG]
    split
    · have := lstG_le N r (acc ++ [(e.1.map fun q => (N.getD q.1 0, q.2), e.2)])
      simp at this ⊢
      omega
    · have := lstG_le N r acc
      simp
      omega
end BM
namespace BM
/-! ## waves of lots -/
section
variable {α β γ : Type} [DecidableEq α] [DecidableEq γ]
theorem wavK_fold : ∀ (r : List (α × β)) (ss : List α), (wavK r ss).1 = foldN (r.map (·.1)) ss
  | [], _ => rfl
  | p :: r, ss => by
    rw [wavK_cons, wavK_fold r]
    rfl
theorem wavK_two : ∀ (r : List (α × β)) (ss F : List α), (wavK r ss).1 <+: F → (wavK r ss).2 = r.map fun p => (idxN p.1 F, p.2)
  | [], _, _, _ => rfl
  | p :: r, ss, F, h => by
    rw [wavK_cons] at h ⊢
    rw [List.map_cons, wavK_two r _ F h]
    show (idxN p.1 (addN ss p.1), p.2) :: _ = (idxN p.1 F, p.2) :: _
    rw [idxN_pre ((wavK_pre r _).trans h) (addN_mem ss p.1)]
theorem foldN_app (xs ys fs : List γ) : foldN (xs ++ ys) fs = foldN ys (foldN xs fs) := List.foldl_append
theorem foldN_in : ∀ (xs fs : List γ), (∀ x ∈ xs, x ∈ fs) → foldN xs fs = fs
  | [], _, _ => rfl
  | x :: xs, fs, h => by
    show foldN xs (addN fs x) = fs
    rw [show addN fs x = fs from if_pos (h x List.mem_cons_self)]
    exact foldN_in xs fs fun y hy => h y (List.mem_cons_of_mem _ hy)
theorem foldN_sub : ∀ (xs fs : List γ) {x : γ}, x ∈ foldN xs fs → x ∈ fs ∨ x ∈ xs
  | [], _, _, h => .inl h
  | y :: xs, fs, x, h => by
    rcases foldN_sub xs (addN fs y) h with h | h
    · rcases mem_addN.mp h with h | h
      · exact .inl h
      · exact .inr (by rw [h]; exact List.mem_cons_self)
    · exact .inr (List.mem_cons_of_mem _ h)
variable (cls : α → γ)
theorem fold_cls : ∀ (xs ss : List α), foldN ((foldN xs ss).map cls) [] = foldN (xs.map cls) (foldN (ss.map cls) [])
  | [], _ => rfl
  | x :: xs, ss => by
    show foldN ((foldN xs (addN ss x)).map cls) [] = foldN (xs.map cls) (addN (foldN (ss.map cls) []) (cls x))
    rw [fold_cls xs]
    congr 1
    by_cases c : x ∈ ss
    · rw [show addN ss x = ss from if_pos c]
      exact (if_pos (foldN_mem _ [] (List.mem_map_of_mem c))).symm
    · rw [show addN ss x = ss ++ [x] from if_neg c, List.map_append, foldN_app]
      rfl
theorem fold_pre {a b : List γ} (h : a <+: b) : foldN a [] <+: foldN b [] := by
  obtain ⟨r, rfl⟩ := h
  rw [foldN_app]
  exact foldN_pre r _
variable (f : α → List (α × β)) (a0 : α) (g : γ → List (γ × β))
/-- the lots of what has been gone through -/
theorem lots {T : Nat} (fT : FinW f a0 T) (hg : ∀ s, g (cls s) = (f s).map fun p => (cls p.1, p.2)) : ∀ t, t ≤ T →
    (itW g (cls a0) (foldN (((itW f a0 T).1.take t).map cls) []).length).1 = foldN ((itW f a0 t).1.map cls) []
  | 0, _ => rfl
  | t + 1, ht => by
    have ih := lots fT hg t (by omega)
    have lt := fT.lt t (by omega)
    have es := List.getElem?_eq_getElem lt
    generalize (itW f a0 t).1[t] = s at es
    have pre : ∀ u, t ≤ u → (itW f a0 t).1 <+: (itW f a0 u).1 := fun u hu => by
      induction u with
      | zero => rw [show t = 0 by omega]; exact List.prefix_refl _
      | succ u ihu =>
        by_cases c : t = u + 1
        · rw [c]; exact List.prefix_refl _
        · exact (ihu (by omega)).trans (itW_pre f a0 u)
    have eS : (itW f a0 T).1[t]? = some s := pre_get (pre T (by omega)) es
    have et : (itW f a0 T).1.take (t + 1) = (itW f a0 T).1.take t ++ [s] := by rw [List.take_add_one, eS]; rfl
    have sub : (itW f a0 T).1.take (t + 1) <+: (itW f a0 t).1 := by
      obtain ⟨r, hr⟩ := pre T (by omega)
      rw [← hr, List.take_append_of_le_length (by omega)]
      exact List.take_prefix _ _
    rw [et, List.map_append, foldN_app, itW_some f a0 es]
    show (itW g (cls a0) (addN (foldN (((itW f a0 T).1.take t).map cls) []) (cls s)).length).1 = foldN ((wavK (f s) (itW f a0 t).1).1.map cls) []
    rw [wavK_fold, fold_cls]
    have eg : ((f s).map (·.1)).map cls = (g (cls s)).map (·.1) := by
      rw [hg, List.map_map, List.map_map]
      rfl
    rw [eg]
    by_cases c : cls s ∈ foldN (((itW f a0 T).1.take t).map cls) []
    · rw [show addN _ (cls s) = _ from if_pos c, ih]
      refine (foldN_in _ _ fun x hx => ?_).symm
      obtain ⟨p, hp, rfl⟩ := List.mem_map.mp hx
      rcases foldN_sub _ _ c with c | c
      · simp at c
      · obtain ⟨s', hs', e'⟩ := List.mem_map.mp c
        obtain ⟨i, hi⟩ := List.getElem?_of_mem hs'
        have it : i < t := by
          have := (List.getElem?_eq_some_iff.mp hi).1
          simp at this
          omega
        rw [List.getElem?_take_of_lt it] at hi
        rw [← e', hg] at hp
        obtain ⟨y, hy, rfl⟩ := List.mem_map.mp hp
        refine foldN_mem _ [] (List.mem_map_of_mem ?_)
        have li := fT.lt i (by omega)
        have ei := List.getElem?_eq_getElem li
        have pre' : ∀ u, i ≤ u → (itW f a0 i).1 <+: (itW f a0 u).1 := fun u hu => by
          induction u with
          | zero => rw [show i = 0 by omega]; exact List.prefix_refl _
          | succ u ihu =>
            by_cases c : i = u + 1
            · rw [c]; exact List.prefix_refl _
            · exact (ihu (by omega)).trans (itW_pre f a0 u)
        have e2 := pre_get (pre' T (by omega)) ei
        rw [hi] at e2
        have e2 := Option.some.inj e2
        rw [← e2] at ei
        have pre2 : ∀ u, i + 1 ≤ u → (itW f a0 (i + 1)).1 <+: (itW f a0 u).1 := fun u hu => by
          induction u with
          | zero => omega
          | succ u ihu =>
            by_cases c : i = u
            · rw [c]; exact List.prefix_refl _
            · exact (ihu (by omega)).trans (itW_pre f a0 u)
        refine (pre2 t (by omega)).subset ?_
        rw [itW_some f a0 ei, wavK_fold]
        exact foldN_mem _ _ (List.mem_map_of_mem hy)
    · have pp := fold_pre (List.IsPrefix.map cls sub)
      rw [et, List.map_append, foldN_app] at pp
      have pp : addN (foldN (((itW f a0 T).1.take t).map cls) []) (cls s) <+: foldN ((itW f a0 t).1.map cls) [] := pp
      rw [show addN _ (cls s) = _ ++ [cls s] from if_neg c] at pp ⊢
      have at' : (itW g (cls a0) (foldN (((itW f a0 T).1.take t).map cls) []).length).1[(foldN (((itW f a0 T).1.take t).map cls) []).length]? = some (cls s) := by
        rw [ih]
        exact pre_get pp (by simp)
      rw [List.length_append, List.length_singleton, itW_some g (cls a0) at', wavK_fold, ih]
/-- all lots -/
def lotS (T : Nat) : List γ := foldN ((itW f a0 T).1.map cls) []
theorem lots_fin {T : Nat} (fT : FinW f a0 T) (hg : ∀ s, g (cls s) = (f s).map fun p => (cls p.1, p.2)) : (itW g (cls a0) (lotS cls f a0 T).length).1 = lotS cls f a0 T := by
  have := lots cls f a0 g fT hg T (Nat.le_refl _)
  rwa [List.take_of_length_le (Nat.le_of_eq fT.e)] at this
theorem fin_len {c0 : γ} {U V : Nat} (hU : (itW g c0 U).1.length = U) (hV : (itW g c0 V).1.length = V) : U = V := by
  have stay : ∀ {U}, (itW g c0 U).1.length = U → ∀ k, (itW g c0 (U + k)).1 = (itW g c0 U).1 := fun {U} h k => by
    induction k with
    | zero => rfl
    | succ k ih =>
      have : (itW g c0 (U + k)).1[U + k]? = none := by
        rw [ih]
        exact List.getElem?_eq_none (by omega)
      rw [show U + (k + 1) = U + k + 1 from rfl, itW_none g c0 this, ih]
  rcases Nat.le_total U V with c | c
  · have := stay hU (V - U)
    rw [show U + (V - U) = V by omega] at this
    rw [this] at hV
    omega
  · have := stay hV (U - V)
    rw [show V + (U - V) = U by omega] at this
    rw [this] at hU
    omega
end
end BM
namespace BM
/-! ## what two lines do, thing by thing -/
def behM (l : List Bk) : List (Option Int) → List Int → List (Option Int) × List Int
  | s, [] => ([], endM l s)
  | s, k :: r => ((stepM l s k).2 :: (behM l (stepM l s k).1 r).1, (behM l (stepM l s k).1 r).2)
def okW (n : Nat) (r : List Int) : Bool := r.all fun k => decide (0 ≤ k ∧ k < (n : Int))
abbrev Beh := List Int → List (Option Int) × List Int
def clsM (l : List Bk) (n : Nat) (s : List (Option Int)) : Beh := fun r => if okW n r = true then behM l s r else ([], [])
def derM (n : Nat) (c : Beh) (k : Int) : Beh := fun r => if okW n r = true then ((c (k :: r)).1.tail, (c (k :: r)).2) else ([], [])
def gM (n : Nat) (c : Beh) : List (Beh × Option Int) := (kindsI n).map fun k => (derM n c k, (c [k]).1.headD none)
def ecM (c : Beh) : List Int := (c []).2
theorem mem_kinds {n : Nat} {k : Int} (h : k ∈ kindsI n) : 0 ≤ k ∧ k < (n : Int) := by
  unfold kindsI at h
  obtain ⟨j, hj, rfl⟩ := List.mem_map.mp h
  have := List.mem_range.mp hj
  omega
theorem okW_cons {n : Nat} {k : Int} {r : List Int} (h : 0 ≤ k ∧ k < (n : Int)) : okW n (k :: r) = okW n r := by
  unfold okW
  rw [List.all_cons, decide_eq_true h, Bool.true_and]
theorem der_cls {l : List Bk} {n : Nat} {s : List (Option Int)} {k : Int} (h : 0 ≤ k ∧ k < (n : Int)) : derM n (clsM l n s) k = clsM l n (stepM l s k).1 := by
  funext r
  unfold derM clsM
  rw [okW_cons h]
  by_cases c : okW n r = true
  · rw [if_pos c, if_pos c, if_pos c]
    rfl
  · rw [if_neg c, if_neg c]
theorem g_cls (l : List Bk) (n : Nat) (s : List (Option Int)) : gM n (clsM l n s) = (stpF l n s).map fun p => (clsM l n p.1, p.2) := by
  unfold gM stpF
  rw [List.map_map]
  refine List.map_congr_left fun k hk => ?_
  have hk := mem_kinds hk
  rw [der_cls hk]
  show (clsM l n (stepM l s k).1, (clsM l n s [k]).1.headD none) = (clsM l n (stepM l s k).1, (stepM l s k).2)
  unfold clsM
  rw [if_pos (by rw [okW_cons hk]; rfl)]
  rfl
theorem ec_cls (l : List Bk) (n : Nat) (s : List (Option Int)) : ecM (clsM l n s) = endM l s := rfl
theorem stpF_get {l : List Bk} {n : Nat} (s : List (Option Int)) {k : Nat} (h : k < n) : (stpF l n s)[k]? = some (stepM l s (k : Int)) := by
  unfold stpF kindsI
  rw [List.map_map, List.getElem?_map, List.getElem?_range h]
  rfl
/-! tables, by what stands in them -/
def SSf (l : List Bk) (n T : Nat) : List (List (Option Int)) := (waveT l n T).1
def rowT (l : List Bk) (n T : Nat) (s : List (Option Int)) : Tn := ((stpF l n s).map fun p => (idxN p.1 (SSf l n T), p.2), endM l s)
abbrev FinT' (l : List Bk) (n T : Nat) := FinW (stpF l n) (emptyM l) T
theorem ss_len {l : List Bk} {n T : Nat} (h : FinT' l n T) : (SSf l n T).length = T := h.e
theorem wav_pre (l : List Bk) (n t u : Nat) (hu : t ≤ u) : (waveT l n t).1 <+: (waveT l n u).1 := by
  induction u with
  | zero => rw [show t = 0 by omega]; exact List.prefix_refl _
  | succ u ihu =>
    by_cases c : t = u + 1
    · rw [c]; exact List.prefix_refl _
    · exact (ihu (by omega)).trans (itW_pre _ _ u)
theorem told_rows {l : List Bk} {n T : Nat} (h : FinT' l n T) : ∀ t, t ≤ T → (waveT l n t).2 = ((SSf l n T).take t).map fun s => (s, (stpF l n s).map fun p => (idxN p.1 (SSf l n T), p.2))
  | 0, _ => rfl
  | t + 1, ht => by
    have lt := h.lt t (by omega)
    have es := List.getElem?_eq_getElem lt
    generalize (itW (stpF l n) (emptyM l) t).1[t] = s at es
    have eS : (SSf l n T)[t]? = some s := pre_get (wav_pre l n t T (by omega)) es
    have nx : waveT l n (t + 1) = _ := itW_some (stpF l n) (emptyM l) es
    have pp := wav_pre l n (t + 1) T ht
    rw [nx] at pp
    have nx2 : (waveT l n (t + 1)).2 = (waveT l n t).2 ++ [(s, (wavK (stpF l n s) (waveT l n t).1).2)] := congrArg Prod.snd nx
    rw [nx2, List.take_add_one, eS, List.map_append, told_rows h t (by omega), wavK_two (stpF l n s) _ (SSf l n T) pp]
    rfl
theorem te_rows {l : List Bk} {n T : Nat} (h : FinT' l n T) : ((waveT l n T).2.map fun e => (e.2, endM l e.1)) = (SSf l n T).map (rowT l n T) := by
  rw [told_rows h T (Nat.le_refl _), List.take_of_length_le (Nat.le_of_eq (ss_len h)), List.map_map]
  rfl
theorem ss_closed {l : List Bk} {n T : Nat} (h : FinT' l n T) {s : List (Option Int)} (hs : s ∈ SSf l n T) {p : List (Option Int) × Option Int} (hp : p ∈ stpF l n s) : p.1 ∈ SSf l n T := by
  obtain ⟨i, hi⟩ := List.getElem?_of_mem hs
  have it : i < T := by
    have := (List.getElem?_eq_some_iff.mp hi).1
    rw [ss_len h] at this
    exact this
  have ei := List.getElem?_eq_getElem (h.lt i it)
  have e2 := pre_get (wav_pre l n i T (by omega)) ei
  rw [show (waveT l n T).1 = SSf l n T from rfl, hi] at e2
  rw [← Option.some.inj e2] at ei
  refine (wav_pre l n (i + 1) T (by omega)).subset ?_
  rw [show waveT l n (i + 1) = _ from itW_some (stpF l n) (emptyM l) ei]
  show p.1 ∈ (wavK (stpF l n s) _).1
  rw [wavK_fold]
  exact foldN_mem _ _ (List.mem_map_of_mem hp)
theorem step_in {l : List Bk} {n T : Nat} (h : FinT' l n T) {s : List (Option Int)} (hs : s ∈ SSf l n T) {k : Nat} (hk : k < n) : (stepM l s (k : Int)).1 ∈ SSf l n T := ss_closed h hs (p := stepM l s (k : Int)) (List.mem_of_getElem? (stpF_get s hk))
theorem te_get {l : List Bk} {n T : Nat} {i : Nat} {s : List (Option Int)} (e : (SSf l n T)[i]? = some s) : ((SSf l n T).map (rowT l n T))[i]? = some (rowT l n T s) := by
  rw [List.getElem?_map, e]
  rfl
/-- alike by number: alike by what they do -/
theorem alike_beh {l : List Bk} {n T K : Nat} (h : FinT' l n T) (fK : FinM ((SSf l n T).map (rowT l n T)) K) : ∀ (r : List Int) (i j : Nat) (s t : List (Option Int)), okW n r = true → (SSf l n T)[i]? = some s → (SSf l n T)[j]? = some t → (numS ((SSf l n T).map (rowT l n T)) K)[i]? = (numS ((SSf l n T).map (rowT l n T)) K)[j]? → behM l s r = behM l t r
  | [], i, j, s, t, _, es, et, hn => by
    have := (fK.alike (te_get es) (te_get et) hn).2.1
    show (([] : List (Option Int)), endM l s) = ([], endM l t)
    rw [show endM l s = endM l t from this]
  | k :: r, i, j, s, t, hr, es, et, hn => by
    have hk : 0 ≤ k ∧ k < (n : Int) := by
      unfold okW at hr
      rw [List.all_cons, Bool.and_eq_true] at hr
      simpa using hr.1
    rw [okW_cons hk] at hr
    obtain ⟨a1, _, a3⟩ := fK.alike (te_get es) (te_get et) hn
    obtain ⟨m, rfl⟩ : ∃ m : Nat, k = (m : Int) := ⟨k.toNat, by omega⟩
    have mn : m < n := by omega
    have o : (stepM l s (m : Int)).2 = (stepM l t (m : Int)).2 := by
      have := congrArg (fun l => l[m]?) a1
      simpa [rowT, stpF_get s mn, stpF_get t mn] using this
    have hs := List.mem_of_getElem? es
    have ht := List.mem_of_getElem? et
    have i1 := idxN_get (step_in h hs mn)
    have i2 := idxN_get (step_in h ht mn)
    have nl := numS_len ((SSf l n T).map (rowT l n T)) K
    rw [List.length_map] at nl
    have l1 := (List.getElem?_eq_some_iff.mp i1).1
    have l2 := (List.getElem?_eq_some_iff.mp i2).1
    have e : (numS ((SSf l n T).map (rowT l n T)) K)[idxN (stepM l s (m : Int)).1 (SSf l n T)]? = (numS ((SSf l n T).map (rowT l n T)) K)[idxN (stepM l t (m : Int)).1 (SSf l n T)]? := by
      have := congrArg (fun l => l[m]?) a3
      have g1 := List.getElem?_eq_getElem (show idxN (stepM l s (m : Int)).1 (SSf l n T) < (numS ((SSf l n T).map (rowT l n T)) K).length by omega)
      have g2 := List.getElem?_eq_getElem (show idxN (stepM l t (m : Int)).1 (SSf l n T) < (numS ((SSf l n T).map (rowT l n T)) K).length by omega)
      simp [rowT, stpF_get s mn, stpF_get t mn, g1, g2] at this
      rw [g1, g2, this]
    have ih := alike_beh h fK r _ _ _ _ hr i1 i2 e
    show ((stepM l s (m : Int)).2 :: (behM l (stepM l s (m : Int)).1 r).1, (behM l (stepM l s (m : Int)).1 r).2) = ((stepM l t (m : Int)).2 :: (behM l (stepM l t (m : Int)).1 r).1, (behM l (stepM l t (m : Int)).1 r).2)
    rw [o, ih]
/-- .. and the other way about -/
theorem cls_step {l : List Bk} {n : Nat} {s t : List (Option Int)} (e : clsM l n s = clsM l n t) {k : Int} (hk : 0 ≤ k ∧ k < (n : Int)) : clsM l n (stepM l s k).1 = clsM l n (stepM l t k).1 ∧ (stepM l s k).2 = (stepM l t k).2 := by
  refine ⟨by rw [← der_cls hk, ← der_cls hk, e], ?_⟩
  have := congrFun e [k]
  unfold clsM at this
  rw [if_pos (by rw [okW_cons hk]; rfl), if_pos (by rw [okW_cons hk]; rfl)] at this
  have := congrArg Prod.fst this
  simpa [behM] using this
theorem beh_alike {l : List Bk} {n T : Nat} (h : FinT' l n T) : ∀ (m i j : Nat) (s t : List (Option Int)), (SSf l n T)[i]? = some s → (SSf l n T)[j]? = some t → clsM l n s = clsM l n t → (numS ((SSf l n T).map (rowT l n T)) m)[i]? = (numS ((SSf l n T).map (rowT l n T)) m)[j]?
  | 0, i, j, s, t, es, et, e => by
    have en : endM l s = endM l t := by rw [← ec_cls l n s, ← ec_cls l n t, e]
    refine (numG_eq (xs := ((SSf l n T).map (rowT l n T)).map it0) (x := it0 (rowT l n T s)) (y := it0 (rowT l n T t)) (by rw [List.getElem?_map, te_get es]; rfl) (by rw [List.getElem?_map, te_get et]; rfl)).mpr ?_
    unfold it0 rowT
    simp only [List.map_map, Prod.mk.injEq]
    refine ⟨?_, en⟩
    unfold stpF
    rw [List.map_map, List.map_map]
    exact List.map_congr_left fun k hk => (cls_step e (mem_kinds hk)).2
  | m + 1, i, j, s, t, es, et, e => by
    have ih := beh_alike h m
    have nl := numS_len ((SSf l n T).map (rowT l n T)) m
    rw [List.length_map] at nl
    have l1 := (List.getElem?_eq_some_iff.mp es).1
    have l2 := (List.getElem?_eq_some_iff.mp et).1
    have g1 := List.getElem?_eq_getElem (show i < (numS ((SSf l n T).map (rowT l n T)) m).length by omega)
    have g2 := List.getElem?_eq_getElem (show j < (numS ((SSf l n T).map (rowT l n T)) m).length by omega)
    have e0 := ih i j s t es et e
    refine (numG_eq (itN_get g1 (te_get es)) (itN_get g2 (te_get et))).mpr ?_
    rw [g1, g2] at e0
    rw [Option.some.inj e0]
    congr 1
    clear e0 g1 g2 nl
    generalize numS ((SSf l n T).map (rowT l n T)) m = M at *
    unfold rowT
    simp only [List.map_map]
    unfold stpF
    rw [List.map_map, List.map_map]
    refine List.map_congr_left fun k hk => ?_
    have hk := mem_kinds hk
    obtain ⟨q, rfl⟩ : ∃ q : Nat, k = (q : Int) := ⟨k.toNat, by omega⟩
    have i1 := idxN_get (step_in h (List.mem_of_getElem? es) (k := q) (by omega))
    have i2 := idxN_get (step_in h (List.mem_of_getElem? et) (k := q) (by omega))
    have := ih _ _ _ _ i1 i2 (cls_step e hk).1
    show M.getD (idxN (stepM l s (q : Int)).1 (SSf l n T)) 0 = M.getD (idxN (stepM l t (q : Int)).1 (SSf l n T)) 0
    simp only [List.getD, this]
end BM
namespace BM
/-! ## bays where nothing passes: a standing is the things that came last -/
def idL (k : Nat) : List Bk := List.replicate k []
def wdS (k : Nat) (w : List Int) : List (Option Int) := w.map some ++ List.replicate (k - w.length) none
theorem wdS_cons (k : Nat) (t : Int) (w : List Int) : wdS (k + 1) (t :: w) = some t :: wdS k w := by simp [wdS]
theorem step_idle : ∀ (k : Nat) (w : List Int) (t : Int), w.length ≤ k → (stepM (idL k) (wdS k w) t).1 = wdS k ((t :: w).take k)
  | 0, w, t, h => by
    have : w = [] := List.length_eq_zero_iff.mp (by omega)
    subst this
    rfl
  | k + 1, [], t, _ => by
    simp [wdS, idL, List.replicate_succ, stepM_none]
  | k + 1, h :: w, t, hl => by
    have ih := step_idle k w h (by simpa using hl)
    rw [wdS_cons, idL, List.replicate_succ, stepM_some]
    simp only [List.contains_nil, Bool.false_eq_true, if_false]
    rw [List.take_succ_cons, wdS_cons, ← ih]
    rfl
def wrds (n : Nat) : Nat → List (List Int)
  | 0 => [[]]
  | j + 1 => (kindsI n).flatMap fun k => (wrds n j).map (k :: ·)
def ups (n : Nat) : Nat → List (List Int)
  | 0 => [[]]
  | k + 1 => ups n k ++ wrds n (k + 1)
def dueN (n : Nat) : Nat → Nat
  | 0 => 1
  | k + 1 => dueN n k + n ^ (k + 1)
theorem kinds_nodup (n : Nat) : (kindsI n).Nodup := by
  unfold kindsI
  exact List.pairwise_map.mpr (List.nodup_range.imp fun h e => h (by omega))
theorem mem_kindsI {n : Nat} {k : Int} : k ∈ kindsI n ↔ 0 ≤ k ∧ k < (n : Int) := by
  refine ⟨mem_kinds, fun h => ?_⟩
  unfold kindsI
  exact List.mem_map.mpr ⟨k.toNat, List.mem_range.mpr (by omega), by omega⟩
theorem wrds_mem {n : Nat} : ∀ {j : Nat} {w : List Int}, w ∈ wrds n j ↔ w.length = j ∧ ∀ x ∈ w, x ∈ kindsI n
  | 0, w => by
    simp only [wrds, List.mem_singleton]
    constructor
    · rintro rfl
      simp
    · intro h
      exact List.length_eq_zero_iff.mp h.1
  | j + 1, w => by
    simp only [wrds, List.mem_flatMap, List.mem_map]
    constructor
    · rintro ⟨k, hk, v, hv, rfl⟩
      have := wrds_mem.mp hv
      exact ⟨by simp [this.1], fun x hx => (List.mem_cons.mp hx).elim (fun e => e ▸ hk) (this.2 x)⟩
    · rintro ⟨hl, h⟩
      match w, hl with
      | k :: v, hl =>
        exact ⟨k, h k List.mem_cons_self, v, wrds_mem.mpr ⟨by simpa using hl, fun x hx => h x (List.mem_cons_of_mem _ hx)⟩, rfl⟩
theorem wrds_nodup (n : Nat) : ∀ j, (wrds n j).Nodup
  | 0 => by simp [wrds]
  | j + 1 => by
    refine List.pairwise_flatMap.mpr ⟨fun k _ => List.pairwise_map.mpr ((wrds_nodup n j).imp fun h e => h (List.cons.inj e).2), (kinds_nodup n).imp fun {a b} h x hx y hy e => ?_⟩
    obtain ⟨u, _, rfl⟩ := List.mem_map.mp hx
    obtain ⟨v, _, rfl⟩ := List.mem_map.mp hy
    exact h (List.cons.inj e).1
theorem flatMap_len {α β : Type} (f : α → List β) {m : Nat} : ∀ (l : List α), (∀ a ∈ l, (f a).length = m) → (l.flatMap f).length = l.length * m
  | [], _ => by simp
  | a :: l, h => by
    rw [List.flatMap_cons, List.length_append, h a List.mem_cons_self, flatMap_len f l fun b hb => h b (List.mem_cons_of_mem _ hb), List.length_cons, Nat.succ_mul, Nat.add_comm]
theorem wrds_len (n : Nat) : ∀ j, (wrds n j).length = n ^ j
  | 0 => rfl
  | j + 1 => by
    rw [wrds, flatMap_len (m := n ^ j) _ _ fun k _ => by rw [List.length_map, wrds_len], kindsI, List.length_map, List.length_range, Nat.pow_succ, Nat.mul_comm]
theorem ups_len (n : Nat) : ∀ k, (ups n k).length = dueN n k
  | 0 => rfl
  | k + 1 => by rw [ups, List.length_append, ups_len, wrds_len, dueN]
theorem ups_mem {n : Nat} : ∀ {k : Nat} {w : List Int}, w ∈ ups n k ↔ w.length ≤ k ∧ ∀ x ∈ w, x ∈ kindsI n
  | 0, w => by
    simp only [ups, List.mem_singleton]
    constructor
    · rintro rfl
      simp
    · intro h
      exact List.length_eq_zero_iff.mp (by omega)
  | k + 1, w => by
    rw [ups, List.mem_append, ups_mem, wrds_mem]
    constructor
    · rintro (⟨a, b⟩ | ⟨a, b⟩)
      · exact ⟨by omega, b⟩
      · exact ⟨by omega, b⟩
    · rintro ⟨a, b⟩
      by_cases c : w.length ≤ k
      · exact .inl ⟨c, b⟩
      · exact .inr ⟨by omega, b⟩
theorem ups_nodup (n : Nat) : ∀ k, (ups n k).Nodup
  | 0 => by simp [ups]
  | k + 1 => by
    refine List.nodup_append.mpr ⟨ups_nodup n k, wrds_nodup n (k + 1), fun x hx y hy e => ?_⟩
    have a := (ups_mem.mp hx).1
    have b := (wrds_mem.mp hy).1
    rw [e] at a
    omega
theorem wdS_inj {k : Nat} {w v : List Int} (h : wdS k w = wdS k v) : w = v := by
  have r : ∀ u : List Int, (wdS k u).filterMap id = u := fun u => by
    simp [wdS, List.filterMap_append, List.filterMap_map]
  rw [← r w, h, r v]
theorem idle_in {n k T : Nat} (h : FinT' (idL k) n T) : ∀ (w : List Int), w ∈ ups n k → wdS k w ∈ SSf (idL k) n T
  | [], _ => by
    have z := fin_zero _ _ h
    have : wdS k [] = emptyM (idL k) := by simp [wdS, emptyM, idL]
    rw [this]
    exact List.mem_of_getElem? z
  | x :: w, hw => by
    obtain ⟨hl, hk⟩ := ups_mem.mp hw
    have ih := idle_in h w (ups_mem.mpr ⟨by simp at hl; omega, fun y hy => hk y (List.mem_cons_of_mem _ hy)⟩)
    have kx := mem_kindsI.mp (hk x List.mem_cons_self)
    have s := step_in h ih (k := x.toNat) (by omega)
    rw [show ((x.toNat : Nat) : Int) = x by omega, step_idle k w x (by simp at hl; omega), List.take_of_length_le hl] at s
    exact s
theorem idle_out {n k T : Nat} : ∀ s ∈ SSf (idL k) n T, ∃ w ∈ ups n k, s = wdS k w := by
  refine itW_P (P := fun s => ∃ w ∈ ups n k, s = wdS k w) _ _ ⟨[], ups_mem.mpr ⟨Nat.zero_le _, by simp⟩, by simp [wdS, emptyM, idL]⟩ (fun s hs p hp => ?_) T
  obtain ⟨w, hw, rfl⟩ := hs
  obtain ⟨hl, hk⟩ := ups_mem.mp hw
  unfold stpF at hp
  obtain ⟨x, hx, rfl⟩ := List.mem_map.mp hp
  refine ⟨(x :: w).take k, ups_mem.mpr ⟨by simp; omega, fun y hy => ?_⟩, step_idle k w x hl⟩
  rcases List.mem_cons.mp (List.mem_of_mem_take hy) with rfl | hy
  · exact hx
  · exact hk y hy
/-- so many standings there are -/
theorem idle_count {n k T : Nat} (h : FinT' (idL k) n T) : T = dueN n k := by
  rw [← ups_len, ← ss_len h]
  refine Nat.le_antisymm ?_ ?_
  · rw [← List.length_map (f := wdS k)]
    exact nodup_subG _ _ (itW_nodup _ _ T) fun s hs => by
      obtain ⟨w, hw, rfl⟩ := idle_out s hs
      exact List.mem_map.mpr ⟨w, hw, rfl⟩
  · rw [← List.length_map (f := wdS k)]
    refine nodup_subG _ _ (List.pairwise_map.mpr ((ups_nodup n k).imp fun hne e => hne (wdS_inj e))) fun s hs => ?_
    obtain ⟨w, hw, rfl⟩ := List.mem_map.mp hs
    exact idle_in h w hw
end BM
namespace BM
/-! ## books in order: kind by kind -/
def cano (n : Nat) (p : Int → Int → Bool) : Bk := (kindsI n).flatMap fun x => ((kindsI n).filter (p x)).map fun h => (x, h)
theorem mem_cano {n : Nat} {p : Int → Int → Bool} {x h : Int} : (x, h) ∈ cano n p ↔ x ∈ kindsI n ∧ h ∈ kindsI n ∧ p x h = true := by
  unfold cano
  rw [List.mem_flatMap]
  constructor
  · rintro ⟨y, hy, e⟩
    obtain ⟨z, hz, e⟩ := List.mem_map.mp e
    cases e
    obtain ⟨a, b⟩ := List.mem_filter.mp hz
    exact ⟨hy, a, b⟩
  · rintro ⟨a, b, c⟩
    exact ⟨x, a, List.mem_map.mpr ⟨h, List.mem_filter.mpr ⟨b, c⟩, rfl⟩⟩
theorem filter_cano {n : Nat} {p : Int → Int → Bool} (f : Int × Int → Bool) : (cano n p).filter f = cano n fun x h => p x h && f (x, h) := by
  unfold cano
  rw [List.filter_flatMap]
  congr 1
  funext x
  rw [List.filter_map, List.filter_filter]
  congr 1
  refine List.filter_congr fun h _ => ?_
  simp [Bool.and_comm]
theorem cano_length {n : Nat} {p : Int → Int → Bool} : (cano n p).length ≤ n * n := by
  unfold cano
  have kl : (kindsI n).length = n := by simp [kindsI]
  have : ∀ l : List Int, (l.flatMap fun x => ((kindsI n).filter (p x)).map fun h => (x, h)).length ≤ l.length * n := fun l => by
    induction l with
    | nil => simp
    | cons a l ih =>
      rw [List.flatMap_cons, List.length_append, List.length_map, List.length_cons, Nat.succ_mul]
      have := List.length_filter_le (p a) (kindsI n)
      omega
  have z := this (kindsI n)
  rwa [kl] at z
theorem kinds_asc (n : Nat) : (kindsI n).Pairwise (· < ·) := by
  unfold kindsI
  exact List.pairwise_map.mpr (List.pairwise_lt_range.imp fun h => by omega)
/-- what goes with x -/
def goesM (n : Nat) (p : Int → Int → Bool) (x : Int) : List Int := (kindsI n).filter (p x)
theorem passed_cano {n : Nat} {p : Int → Int → Bool} (x : Int) : ((cano n p).filter fun q => q.1 == x).map (·.2) = if x ∈ kindsI n then goesM n p x else [] := by
  unfold cano goesM
  have nd : (kindsI n).Nodup := kinds_nodup n
  generalize kindsI n = all at nd ⊢
  have : ∀ l : List Int, l.Nodup → ((l.flatMap fun x => (all.filter (p x)).map fun h => (x, h)).filter fun q => q.1 == x).map (·.2) = if x ∈ l then all.filter (p x) else [] := fun l => by
    induction l with
    | nil => intro _; rfl
    | cons a l ih =>
      intro nd
      obtain ⟨na, nd⟩ := List.nodup_cons.mp nd
      rw [List.flatMap_cons, List.filter_append, List.map_append, ih nd, List.filter_map, List.map_map]
      by_cases e : a = x
      · subst e
        rw [if_neg na, if_pos List.mem_cons_self, List.append_nil]
        have e1 : ((fun q : Int × Int => q.1 == a) ∘ fun h => (a, h)) = fun _ => true := by
          funext h
          simp
        rw [e1, List.filter_eq_self.mpr (fun _ _ => rfl), show ((fun q : Int × Int => q.2) ∘ fun h => (a, h)) = id from rfl, List.map_id]
      · have e1 : ((fun q : Int × Int => q.1 == x) ∘ fun h => (a, h)) = fun _ => false := by
          funext h
          simpa using e
        rw [e1, List.filter_eq_nil_iff.mpr (fun _ _ => Bool.false_ne_true), List.map_nil, List.nil_append]
        have : x ∈ a :: l ↔ x ∈ l := by
          rw [List.mem_cons]
          exact ⟨fun h => h.resolve_left fun z => e z.symm, .inr⟩
        simp only [this]
  exact this all nd
theorem asc_same : ∀ {a b : List Int}, a.Pairwise (· < ·) → b.Pairwise (· < ·) → (∀ k, k ∈ a ↔ k ∈ b) → a = b
  | [], [], _, _, _ => rfl
  | [], y :: b, _, _, h => absurd ((h y).mpr List.mem_cons_self) (by simp)
  | x :: a, [], _, _, h => absurd ((h x).mp List.mem_cons_self) (by simp)
  | x :: a, y :: b, ha, hb, h => by
    obtain ⟨xa, pa⟩ := List.pairwise_cons.mp ha
    obtain ⟨yb, pb⟩ := List.pairwise_cons.mp hb
    have e : x = y := by
      rcases List.mem_cons.mp ((h x).mp List.mem_cons_self) with z | z
      · exact z
      · rcases List.mem_cons.mp ((h y).mpr List.mem_cons_self) with w | w
        · exact w.symm
        · have := xa y w
          have := yb x z
          omega
    subst e
    refine congrArg (x :: ·) (asc_same pa pb fun k => ⟨fun hk => ?_, fun hk => ?_⟩)
    · rcases List.mem_cons.mp ((h k).mp (List.mem_cons_of_mem _ hk)) with z | z
      · have := xa k hk
        omega
      · exact z
    · rcases List.mem_cons.mp ((h k).mpr (List.mem_cons_of_mem _ hk)) with z | z
      · have := yb k hk
        omega
      · exact z
/-- those with which anything goes -/
def frstM (n : Nat) (p : Int → Int → Bool) : List Int := (kindsI n).filter fun x => decide (goesM n p x ≠ [])
theorem mem_frst {n : Nat} {p : Int → Int → Bool} {x : Int} : x ∈ frstM n p ↔ x ∈ kindsI n ∧ ∃ h ∈ kindsI n, p x h = true := by
  unfold frstM goesM
  rw [List.mem_filter, decide_eq_true_iff]
  refine and_congr_right fun _ => ?_
  constructor
  · intro e
    obtain ⟨h, hh⟩ := List.exists_mem_of_ne_nil _ e
    obtain ⟨a, b⟩ := List.mem_filter.mp hh
    exact ⟨h, a, b⟩
  · rintro ⟨h, a, b⟩ e
    have : h ∈ (kindsI n).filter (p x) := List.mem_filter.mpr ⟨a, b⟩
    rw [e] at this
    cases this
theorem frst_of {n : Nat} {p : Int → Int → Bool} {ns : List Int} (h : ns.Pairwise (· < ·)) (m : ∀ k, k ∈ ns ↔ k ∈ (cano n p).map (·.1)) : ns = frstM n p := by
  refine asc_same h ((kinds_asc n).filter _) fun k => (m k).trans ?_
  rw [mem_frst, List.mem_map]
  constructor
  · rintro ⟨⟨a, b⟩, hab, rfl⟩
    obtain ⟨h1, h2, h3⟩ := mem_cano.mp hab
    exact ⟨h1, b, h2, h3⟩
  · rintro ⟨h1, b, h2, h3⟩
    exact ⟨(k, b), mem_cano.mpr ⟨h1, h2, h3⟩, rfl⟩
/-! ### why two bays are blocked -/
def unlikeAt (n : Nat) (p q : Int → Int → Bool) (x : Int) : Bool := decide (goesM n p x ≠ [] ∧ goesM n q x ≠ [] ∧ goesM n p x ≠ goesM n q x)
def aloneM (n : Nat) (p q : Int → Int → Bool) : List Int := (kindsI n).filter fun x => decide (goesM n p x ≠ [] ∧ goesM n q x = [])
def lotsMeet (n : Nat) (p q : Int → Int → Bool) (x y : Int) : Bool := (y :: goesM n q y).any fun k => (x :: goesM n p x).contains k
def firstMeet (n : Nat) (p q : Int → Int → Bool) : Option (Int × Int) := (aloneM n p q).findSome? fun x => ((aloneM n q p).find? (lotsMeet n p q x)).map fun y => (x, y)
theorem alone_frst {n : Nat} {p q : Int → Int → Bool} : (frstM n p).filter (fun x => !(frstM n q).contains x) = aloneM n p q := by
  unfold frstM aloneM
  rw [List.filter_filter]
  refine List.filter_congr fun x hx => ?_
  rw [Bool.eq_iff_iff]
  simp only [Bool.and_eq_true, Bool.not_eq_true', List.contains_eq_mem, decide_eq_false_iff_not, decide_eq_true_iff, List.mem_filter]
  constructor
  · rintro ⟨a, b⟩
    refine ⟨b, ?_⟩
    by_cases z : goesM n q x = []
    · exact z
    · exact absurd ⟨hx, z⟩ a
  · rintro ⟨a, b⟩
    exact ⟨fun z => z.2 b, a⟩
theorem meet_comm {n : Nat} {p q : Int → Int → Bool} {x y : Int} : lotsMeet n p q x y = lotsMeet n q p y x := by
  rw [Bool.eq_iff_iff]
  unfold lotsMeet
  simp only [List.any_eq_true, List.contains_iff_mem]
  exact ⟨fun ⟨k, a, b⟩ => ⟨k, b, a⟩, fun ⟨k, a, b⟩ => ⟨k, b, a⟩⟩
theorem firstMeet_none {n : Nat} {p q : Int → Int → Bool} : firstMeet n p q = none ↔ ∀ x ∈ aloneM n p q, ∀ y ∈ aloneM n q p, lotsMeet n p q x y = false := by
  unfold firstMeet
  rw [List.findSome?_eq_none_iff]
  refine forall₂_congr fun x _ => ?_
  rw [Option.map_eq_none_iff, List.find?_eq_none]
  simp
theorem firstMeet_comm {n : Nat} {p q : Int → Int → Bool} : firstMeet n p q = none ↔ firstMeet n q p = none := by
  rw [firstMeet_none, firstMeet_none]
  exact ⟨fun h x hx y hy => by rw [meet_comm]; exact h y hy x hx, fun h x hx y hy => by rw [meet_comm]; exact h y hy x hx⟩
theorem unlike_comm {n : Nat} {p q : Int → Int → Bool} {x : Int} : unlikeAt n p q x = unlikeAt n q p x := by
  unfold unlikeAt
  refine decide_eq_decide.mpr ⟨fun ⟨a, b, c⟩ => ⟨b, a, fun e => c e.symm⟩, fun ⟨a, b, c⟩ => ⟨b, a, fun e => c e.symm⟩⟩
end BM
namespace BM
/-! ## two bays that change places -/
structure SOrd (p : Int → Int → Bool) : Prop where
  irr : ∀ x, p x x = false
  tr : ∀ x y z, p x y = true → p y z = true → p x z = true
theorem SOrd.asy {p : Int → Int → Bool} (s : SOrd p) {x y : Int} (h : p x y = true) : p y x = false := by
  cases e : p y x with
  | false => rfl
  | true => have := s.tr x y x h e; rw [s.irr] at this; cases this
theorem SOrd.ne {p : Int → Int → Bool} (s : SOrd p) {x y : Int} (h : p x y = true) : x ≠ y := fun e => by
  subst e
  rw [s.irr] at h
  cases h
/-- nothing passes in one where something does in the other -/
def alon (P Q : Int → Int → Bool) (y : Int) : Prop := (∃ h, P y h = true) ∧ ∀ h, Q y h = false
def near1 (P Q : Int → Int → Bool) (a : Int) : Prop := ∃ y, alon P Q y ∧ (a = y ∨ P y a = true)
structure Free (P Q : Int → Int → Bool) : Prop where
  p : SOrd P
  q : SOrd Q
  alike : ∀ x h1 h2, P x h1 = true → Q x h2 = true → ∀ h, P x h = Q x h
  apart : ∀ a, near1 P Q a → near1 Q P a → False
theorem Free.swap {P Q : Int → Int → Bool} (f : Free P Q) : Free Q P := ⟨f.q, f.p, fun x h1 h2 a b h => (f.alike x h2 h1 b a h).symm, fun a x y => f.apart a y x⟩
theorem alon_of {P Q : Int → Int → Bool} (f : Free P Q) {t a : Int} (h1 : P t a = true) (h2 : Q t a = false) : alon P Q t := ⟨⟨a, h1⟩, fun h => by
  cases e : Q t h with
  | false => rfl
  | true =>
    have := f.alike t a h h1 e a
    rw [h1, h2] at this
    cases this⟩
theorem near_in {P Q : Int → Int → Bool} (f : Free P Q) {a : Int} (n : near1 P Q a) {w : Int} (h : Q w a = true) : P w a = true := by
  cases e : P w a with
  | true => rfl
  | false => exact (f.apart a n ⟨w, alon_of f.swap h e, .inr h⟩).elim
theorem near_out {P Q : Int → Int → Bool} (f : Free P Q) {a : Int} (n : near1 P Q a) {b : Int} (h : Q a b = true) : P a b = true := by
  cases e : P a b with
  | true => rfl
  | false => exact (f.apart a n ⟨a, alon_of f.swap h e, .inl rfl⟩).elim
/-- the standings of both orders -/
inductive Swp (P Q : Int → Int → Bool) : List (Option Int) → List (Option Int) → Prop
  | no : Swp P Q [none, none] [none, none]
  | one (x : Int) : Swp P Q [some x, none] [some x, none]
  | same (a b : Int) (h1 : P a b = false) (h2 : Q a b = false) : Swp P Q [some a, some b] [some a, some b]
  | left (a b : Int) (h1 : P b a = true) (h2 : near1 P Q a) : Swp P Q [some a, some b] [some b, some a]
  | right (a b : Int) (h1 : Q b a = true) (h2 : near1 Q P a) : Swp P Q [some b, some a] [some a, some b]
theorem Swp.swap {P Q : Int → Int → Bool} {s t : List (Option Int)} (h : Swp P Q s t) : Swp Q P t s := by
  cases h with
  | no => exact .no
  | one x => exact .one x
  | same a b h1 h2 => exact .same a b h2 h1
  | left a b h1 h2 => exact .right a b h1 h2
  | right a b h1 h2 => exact .left a b h1 h2
section
variable {P Q : Int → Int → Bool} {b1 b2 : Bk}
theorem step2 (e1 : ∀ x h, b1.contains (x, h) = P x h) (e2 : ∀ x h, b2.contains (x, h) = Q x h) (a b t : Int) : stepM [b1, b2] [some a, some b] t = if P t a then (if Q t b then ([some a, some b], some t) else ([some a, some t], some b)) else (if Q a b then ([some t, some b], some a) else ([some t, some a], some b)) := by
  rw [stepM_some, e1]
  by_cases c : P t a = true
  · rw [if_pos c, if_pos c, stepM_some, e2]
    by_cases d : Q t b = true
    · rw [if_pos d, if_pos d]
      rfl
    · rw [if_neg d, if_neg d]
      rfl
  · rw [if_neg c, if_neg c, stepM_some, e2]
    by_cases d : Q a b = true
    · rw [if_pos d, if_pos d]
      rfl
    · rw [if_neg d, if_neg d]
      rfl
theorem step1 (e1 : ∀ x h, b1.contains (x, h) = P x h) (a t : Int) : stepM [b1, b2] [some a, none] t = if P t a then ([some a, some t], none) else ([some t, some a], none) := by
  rw [stepM_some, e1]
  by_cases c : P t a = true
  · rw [if_pos c, if_pos c]
    rfl
  · rw [if_neg c, if_neg c]
    rfl
theorem step0 (t : Int) : stepM [b1, b2] [none, none] t = ([some t, none], none) := rfl
theorem end2 (e2 : ∀ x h, b2.contains (x, h) = Q x h) (a b : Int) : endM [b1, b2] [some a, some b] = if Q a b then [a, b] else [b, a] := by
  show (stepM [b2] [some b] a).2.toList ++ endM [b2] (stepM [b2] [some b] a).1 = _
  rw [stepM_some, e2]
  by_cases d : Q a b = true
  · rw [if_pos d, if_pos d]
    rfl
  · rw [if_neg d, if_neg d]
    rfl
variable (f : Free P Q) (e1 : ∀ x h, b1.contains (x, h) = P x h) (e2 : ∀ x h, b2.contains (x, h) = Q x h)
include f e1 e2
theorem swp_left {a b t : Int} (h1 : P b a = true) (h2 : near1 P Q a) : (stepM [b1, b2] [some a, some b] t).2 = (stepM [b2, b1] [some b, some a] t).2 ∧ Swp P Q (stepM [b1, b2] [some a, some b] t).1 (stepM [b2, b1] [some b, some a] t).1 := by
  rw [step2 e1 e2, step2 e2 e1]
  have n1 : Q a b = false := by
    cases e : Q a b with
    | false => rfl
    | true =>
      have := near_out f h2 e
      rw [f.p.asy h1] at this
      cases this
  simp only [n1, h1, if_true, Bool.false_eq_true, if_false]
  cases c : P t a with
  | true =>
    cases d : Q t b with
    | true => exact ⟨rfl, .left a b h1 h2⟩
    | false => exact ⟨rfl, .left a t c h2⟩
  | false =>
    cases d : Q t b with
    | true =>
      exfalso
      cases z : Q b a with
      | true =>
        have := near_in f h2 (f.q.tr _ _ _ d z)
        rw [c] at this
        cases this
      | false =>
        have nb : near1 P Q b := ⟨b, alon_of f h1 z, .inl rfl⟩
        have := f.p.tr _ _ _ (near_in f nb d) h1
        rw [c] at this
        cases this
    | false =>
      refine ⟨rfl, .same t a c ?_⟩
      cases z : Q t a with
      | false => rfl
      | true =>
        have := near_in f h2 z
        rw [c] at this
        cases this
theorem swp_step {s s' : List (Option Int)} (h : Swp P Q s s') (t : Int) : (stepM [b1, b2] s t).2 = (stepM [b2, b1] s' t).2 ∧ Swp P Q (stepM [b1, b2] s t).1 (stepM [b2, b1] s' t).1 := by
  cases h with
  | no => exact ⟨rfl, .one t⟩
  | one x =>
    rw [step1 e1, step1 e2]
    cases c : P t x with
    | true =>
      cases d : Q t x with
      | true => exact ⟨rfl, .same x t (f.p.asy c) (f.q.asy d)⟩
      | false => exact ⟨rfl, .left x t c ⟨t, alon_of f c d, .inr c⟩⟩
    | false =>
      cases d : Q t x with
      | true => exact ⟨rfl, .right x t d ⟨t, alon_of f.swap d c, .inr d⟩⟩
      | false => exact ⟨rfl, .same t x c d⟩
  | same a b h1 h2 =>
    rw [step2 e1 e2, step2 e2 e1]
    simp only [h1, h2, Bool.false_eq_true, if_false]
    cases c : P t a with
    | true =>
      cases d : Q t a with
      | true =>
        have e := f.alike t a a c d b
        rw [e]
        cases Q t b with
        | true => exact ⟨rfl, .same a b h1 h2⟩
        | false => exact ⟨rfl, .same a t (f.p.asy c) (f.q.asy d)⟩
      | false =>
        have z := (alon_of f c d).2 b
        rw [z]
        exact ⟨rfl, .left a t c ⟨t, alon_of f c d, .inr c⟩⟩
    | false =>
      cases d : Q t a with
      | true =>
        have z := (alon_of f.swap d c).2 b
        rw [z]
        exact ⟨rfl, .right a t d ⟨t, alon_of f.swap d c, .inr d⟩⟩
      | false => exact ⟨rfl, .same t a c d⟩
  | left a b h1 h2 => exact swp_left f e1 e2 h1 h2
  | right a b h1 h2 =>
    obtain ⟨x, y⟩ := swp_left (t := t) f.swap e2 e1 h1 h2
    exact ⟨x.symm, y.swap⟩
theorem swp_run : ∀ (row : List Int) {s s' : List (Option Int)}, Swp P Q s s' → (runM [b1, b2] s row).2 = (runM [b2, b1] s' row).2 ∧ Swp P Q (runM [b1, b2] s row).1 (runM [b2, b1] s' row).1
  | [], _, _, h => ⟨rfl, h⟩
  | t :: ts, _, _, h => by
    obtain ⟨x, y⟩ := swp_step f e1 e2 h t
    obtain ⟨u, v⟩ := swp_run ts y
    simp only [runM]
    exact ⟨by rw [x, u], v⟩
theorem swp_end {s s' : List (Option Int)} (h : Swp P Q s s') : endM [b1, b2] s = endM [b2, b1] s' := by
  have left : ∀ {a b : Int}, P b a = true → near1 P Q a → Q a b = false := fun {a b} h1 h2 => by
    cases e : Q a b with
    | false => rfl
    | true =>
      have := near_out f h2 e
      rw [f.p.asy h1] at this
      cases this
  have right : ∀ {a b : Int}, Q b a = true → near1 Q P a → P a b = false := fun {a b} h1 h2 => by
    cases e : P a b with
    | false => rfl
    | true =>
      have := near_out f.swap h2 e
      rw [f.q.asy h1] at this
      cases this
  cases h with
  | no => rfl
  | one x => rfl
  | same a b h1 h2 => rw [end2 e2, end2 e1, h1, h2]
  | left a b h1 h2 =>
    rw [end2 e2, end2 e1, left h1 h2, h1]
    rfl
  | right a b h1 h2 =>
    rw [end2 e2, end2 e1, right h1 h2, h1]
    rfl
/-- bays that are free change places -/
theorem whole_swap (row : List Int) : wholeM [b1, b2] row = wholeM [b2, b1] row := by
  obtain ⟨x, y⟩ := swp_run f e1 e2 row (s := [none, none]) (s' := [none, none]) .no
  unfold wholeM
  show (runM [b1, b2] [none, none] row).2 ++ endM [b1, b2] (runM [b1, b2] [none, none] row).1 = _
  rw [x, swp_end f e1 e2 y]
  rfl
end
/-! ### rows that part them -/
section
variable {P Q : Int → Int → Bool} {b1 b2 : Bk} (e1 : ∀ x h, b1.contains (x, h) = P x h) (e2 : ∀ x h, b2.contains (x, h) = Q x h)
include e1 e2
theorem whole2 (s t : Int) : wholeM [b1, b2] [s, t] = if P t s then (if Q s t then [s, t] else [t, s]) else (if Q t s then [t, s] else [s, t]) := by
  show (stepM [b1, b2] [some s, none] t).2.toList ++ [] ++ endM [b1, b2] (stepM [b1, b2] [some s, none] t).1 = _
  rw [step1 e1]
  by_cases c : P t s = true
  · rw [if_pos c, if_pos c]
    exact end2 (b1 := b1) e2 s t
  · rw [if_neg c, if_neg c]
    exact end2 (b1 := b1) e2 t s
theorem whole3 (s t u : Int) : wholeM [b1, b2] [s, t, u] = (stepM [b1, b2] (if P t s then [some s, some t] else [some t, some s]) u).2.toList ++ endM [b1, b2] (stepM [b1, b2] (if P t s then [some s, some t] else [some t, some s]) u).1 := by
  show (stepM [b1, b2] [some s, none] t).2.toList ++ ((stepM [b1, b2] (stepM [b1, b2] [some s, none] t).1 u).2.toList ++ []) ++ endM [b1, b2] (stepM [b1, b2] (stepM [b1, b2] [some s, none] t).1 u).1 = _
  rw [step1 e1]
  by_cases c : P t s = true
  · rw [if_pos c, if_pos c]
    simp
  · rw [if_neg c, if_neg c]
    simp
/-- what a row of three makes -/
theorem whole3_pos (s t u : Int) (c : P t s = true) : wholeM [b1, b2] [s, t, u] = if P u s then (if Q u t then u :: (if Q s t then [s, t] else [t, s]) else t :: (if Q s u then [s, u] else [u, s])) else (if Q s t then s :: (if Q u t then [u, t] else [t, u]) else t :: (if Q u s then [u, s] else [s, u])) := by
  rw [whole3 e1 e2, if_pos c, step2 e1 e2]
  by_cases d : P u s = true
  · simp only [d, if_true]
    by_cases g : Q u t = true
    · simp only [g, if_true]
      exact congrArg (u :: ·) (end2 (b1 := b1) e2 s t)
    · simp only [g, if_false]
      exact congrArg (t :: ·) (end2 (b1 := b1) e2 s u)
  · simp only [d, if_false]
    by_cases g : Q s t = true
    · simp only [g, if_true]
      exact congrArg (s :: ·) (end2 (b1 := b1) e2 u t)
    · simp only [g, if_false]
      exact congrArg (t :: ·) (end2 (b1 := b1) e2 u s)
theorem whole3_neg (s t u : Int) (c : P t s = false) : wholeM [b1, b2] [s, t, u] = if P u t then (if Q u s then u :: (if Q t s then [t, s] else [s, t]) else s :: (if Q t u then [t, u] else [u, t])) else (if Q t s then t :: (if Q u s then [u, s] else [s, u]) else s :: (if Q u t then [u, t] else [t, u])) := by
  rw [whole3 e1 e2, c, if_neg (by decide), step2 e1 e2]
  by_cases d : P u t = true
  · simp only [d, if_true]
    by_cases g : Q u s = true
    · simp only [g, if_true]
      exact congrArg (u :: ·) (end2 (b1 := b1) e2 t s)
    · simp only [g, if_false]
      exact congrArg (s :: ·) (end2 (b1 := b1) e2 t u)
  · simp only [d, if_false]
    by_cases g : Q t s = true
    · simp only [g, if_true]
      exact congrArg (t :: ·) (end2 (b1 := b1) e2 u s)
    · simp only [g, if_false]
      exact congrArg (s :: ·) (end2 (b1 := b1) e2 u t)
/-- a kind that passes unlike lots -/
theorem part_unlike (p : SOrd P) (q : SOrd Q) {x u h : Int} (c1 : P x u = true) (c2 : Q x u = false) (c3 : Q x h = true) : wholeM [b1, b2] [u, h, x] ≠ wholeM [b2, b1] [u, h, x] ∨ wholeM [b1, b2] [h, u, x] ≠ wholeM [b2, b1] [h, u, x] := by
  have n1 : Q h u = false := by
    cases e : Q h u with
    | false => rfl
    | true =>
      have := q.tr _ _ _ c3 e
      rw [c2] at this
      cases this
  have xu := p.ne c1
  have xh := q.ne c3
  cases d : P h u with
  | false =>
    refine .inl ?_
    rw [whole3_neg e1 e2 u h x d, whole3_neg e2 e1 u h x n1]
    simp only [c1, c2, c3, n1, d, if_true, Bool.false_eq_true, if_false]
    split <;> simp [Ne.symm xu]
  | true =>
    have hu := p.ne d
    have n2 := p.asy d
    cases g : Q u h with
    | true =>
      refine .inl ?_
      rw [whole3_pos e1 e2 u h x d, whole3_neg e2 e1 u h x n1]
      simp [c1, c2, c3, n1, d, g, n2, Ne.symm hu]
    | false =>
      refine .inr ?_
      rw [whole3_neg e1 e2 h u x n2, whole3_neg e2 e1 h u x g]
      simp [c1, c2, c3, n1, d, g, n2, xh]
theorem part_two (q : SOrd Q) {g x : Int} (c1 : P x g = true) (c2 : ∀ h, Q x h = false) (c3 : Q g x = true) : wholeM [b1, b2] [g, x] ≠ wholeM [b2, b1] [g, x] := by
  rw [whole2 e1 e2, whole2 e2 e1]
  simp [c1, c2, c3, q.ne c3]
/-- the one that passes alone is passed alone -/
theorem part_one (p : SOrd P) (q : SOrd Q) {x y g : Int} (c1 : P x g = true) (c2 : Q y x = true) (c3 : ∀ h, Q x h = false) (c4 : ∀ h, P y h = false) : wholeM [b1, b2] [g, x] ≠ wholeM [b2, b1] [g, x] ∨ wholeM [b1, b2] [g, x, y] ≠ wholeM [b2, b1] [g, x, y] := by
  cases d : Q g x with
  | true => exact .inl (part_two e1 e2 q c1 c3 d)
  | false =>
    refine .inr ?_
    rw [whole3_pos e1 e2 g x y c1, whole3_neg e2 e1 g x y (c3 g)]
    simp [c1, c2, c3, c4, d, p.ne c1]
/-- both pass a third one alone -/
theorem part_third (p : SOrd P) (q : SOrd Q) {x y k : Int} (c1 : P x k = true) (c2 : Q y k = true) (c3 : ∀ h, Q x h = false) (c4 : ∀ h, P y h = false) : wholeM [b1, b2] [k, x] ≠ wholeM [b2, b1] [k, x] ∨ wholeM [b1, b2] [k, x, y] ≠ wholeM [b2, b1] [k, x, y] := by
  cases d : Q k x with
  | true => exact .inl (part_two e1 e2 q c1 c3 d)
  | false =>
    refine .inr ?_
    rw [whole3_pos e1 e2 k x y c1, whole3_neg e2 e1 k x y (c3 k)]
    have xk := p.ne c1
    have yk := q.ne c2
    cases z : Q y x with
    | true => simp [c1, c2, c3, c4, d, z, xk]
    | false => simp [c1, c2, c3, c4, d, z, xk, yk]
end
end BM
namespace BM
theorem SOrd.by {p : Int → Int → Bool} (s : SOrd p) (f : Int → Bool) : SOrd fun x h => p x h && f x := by
  refine ⟨fun x => by simp [s.irr], fun x y z h1 h2 => ?_⟩
  simp only [Bool.and_eq_true] at h1 h2 ⊢
  exact ⟨s.tr x y z h1.1 h2.1, h1.2⟩
theorem SOrd.in {p : Int → Int → Bool} (s : SOrd p) (f : Int → Bool) : SOrd fun x h => p x h && (f x && f h) := by
  refine ⟨fun x => by simp [s.irr], fun x y z h1 h2 => ?_⟩
  simp only [Bool.and_eq_true] at h1 h2 ⊢
  exact ⟨s.tr x y z h1.1 h2.1, h1.2.1, h2.2.2⟩
theorem SOrd.rk (f : Int → Int) : SOrd fun x h => decide (f x < f h) := by
  refine ⟨fun x => by simp, fun x y z h1 h2 => ?_⟩
  simp only [decide_eq_true_eq] at h1 h2 ⊢
  omega
theorem SOrd.no : SOrd fun _ _ => false := ⟨fun _ => rfl, fun _ _ _ h _ => h⟩
theorem idx_lt {o pre post : List Int} {x h : Int} (e : o = pre ++ x :: post) (nd : o.Nodup) (hh : h ∈ post) : o.idxOf x < o.idxOf h := by
  subst e
  rw [List.nodup_append] at nd
  obtain ⟨_, n2, n3⟩ := nd
  rw [List.nodup_cons] at n2
  have a : x ∉ pre := fun z => n3 x z x List.mem_cons_self rfl
  have b : h ∉ pre := fun z => n3 h z h (List.mem_cons_of_mem _ hh) rfl
  have c : x ≠ h := fun z => n2.1 (z ▸ hh)
  rw [List.idxOf_append, List.idxOf_append, if_neg a, if_neg b, List.idxOf_cons, List.idxOf_cons]
  have d : (x == h) = false := by simpa using c
  simp [d]
end BM
namespace BM
def inB (n : Nat) (p : Int → Int → Bool) : Int → Int → Bool := fun x h => (cano n p).contains (x, h)
theorem inB_iff {n : Nat} {p : Int → Int → Bool} {x h : Int} : inB n p x h = true ↔ x ∈ kindsI n ∧ h ∈ kindsI n ∧ p x h = true := by
  unfold inB
  rw [List.contains_iff_mem]
  exact mem_cano
theorem inB_ord {n : Nat} {p : Int → Int → Bool} (s : SOrd p) : SOrd (inB n p) := by
  refine ⟨fun x => ?_, fun x y z h1 h2 => ?_⟩
  · cases e : inB n p x x with
    | false => rfl
    | true =>
      have := (inB_iff.mp e).2.2
      rw [s.irr] at this
      cases this
  · obtain ⟨a, b, c⟩ := inB_iff.mp h1
    obtain ⟨d, e, f⟩ := inB_iff.mp h2
    exact inB_iff.mpr ⟨a, e, s.tr x y z c f⟩
theorem mem_goes {n : Nat} {p : Int → Int → Bool} {x h : Int} : h ∈ goesM n p x ↔ h ∈ kindsI n ∧ p x h = true := by
  unfold goesM
  exact List.mem_filter
theorem goes_inB {n : Nat} {p : Int → Int → Bool} {x h : Int} (hx : x ∈ kindsI n) : h ∈ goesM n p x ↔ inB n p x h = true := by
  rw [mem_goes, inB_iff]
  exact ⟨fun ⟨a, b⟩ => ⟨hx, a, b⟩, fun ⟨_, a, b⟩ => ⟨a, b⟩⟩
theorem goes_none {n : Nat} {p : Int → Int → Bool} {x : Int} (e : goesM n p x = []) (h : Int) : inB n p x h = false := by
  cases z : inB n p x h with
  | false => rfl
  | true =>
    have := (goes_inB (inB_iff.mp z).1).mpr z
    rw [e] at this
    cases this
theorem alon_alone {n : Nat} {p q : Int → Int → Bool} {y : Int} (h : alon (inB n p) (inB n q) y) : y ∈ aloneM n p q := by
  obtain ⟨⟨k, hk⟩, h2⟩ := h
  have hy := (inB_iff.mp hk).1
  unfold aloneM
  rw [List.mem_filter, decide_eq_true_iff]
  refine ⟨hy, List.ne_nil_of_mem ((goes_inB hy).mpr hk), List.eq_nil_iff_forall_not_mem.mpr fun z hz => ?_⟩
  have := (goes_inB hy).mp hz
  rw [h2] at this
  cases this
theorem alone_alon {n : Nat} {p q : Int → Int → Bool} {y : Int} (h : y ∈ aloneM n p q) : y ∈ kindsI n ∧ goesM n p y ≠ [] ∧ goesM n q y = [] := by
  unfold aloneM at h
  rw [List.mem_filter, decide_eq_true_iff] at h
  exact h
theorem near_lot {n : Nat} {p q : Int → Int → Bool} {a y : Int} (hy : y ∈ aloneM n p q) (h : a = y ∨ inB n p y a = true) : a ∈ y :: goesM n p y := by
  rcases h with rfl | h
  · exact List.mem_cons_self
  · exact List.mem_cons_of_mem _ ((goes_inB (alone_alon hy).1).mpr h)
theorem free_of {n : Nat} {p q : Int → Int → Bool} (sp : SOrd p) (sq : SOrd q) (h1 : (kindsI n).find? (unlikeAt n p q) = none) (h2 : firstMeet n p q = none) : Free (inB n p) (inB n q) := by
  refine ⟨inB_ord sp, inB_ord sq, fun x k1 k2 a b h => ?_, fun a na nb => ?_⟩
  · have hx := (inB_iff.mp a).1
    have u := List.find?_eq_none.mp h1 x hx
    unfold unlikeAt at u
    rw [decide_eq_true_iff] at u
    have g1 : goesM n p x ≠ [] := List.ne_nil_of_mem ((goes_inB hx).mpr a)
    have g2 : goesM n q x ≠ [] := List.ne_nil_of_mem ((goes_inB hx).mpr b)
    have e : goesM n p x = goesM n q x := Classical.byContradiction fun ne => u ⟨g1, g2, ne⟩
    rw [Bool.eq_iff_iff, ← goes_inB hx, ← goes_inB hx, e]
  · obtain ⟨y, ya, yb⟩ := na
    obtain ⟨z, za, zb⟩ := nb
    have ya := alon_alone ya
    have za := alon_alone za
    have := firstMeet_none.mp h2 y ya z za
    unfold lotsMeet at this
    rw [List.any_eq_false] at this
    exact this a (near_lot za zb) (by rw [List.contains_iff_mem]; exact near_lot ya yb)
/-- rows of two or three of some kinds -/
def shortOf (K row : List Int) : Prop := (∃ a ∈ K, ∃ b ∈ K, row = [a, b]) ∨ (∃ a ∈ K, ∃ b ∈ K, ∃ c ∈ K, row = [a, b, c])
theorem shortOf.sub {K L row : List Int} (h : shortOf K row) (s : ∀ k ∈ K, k ∈ L) : shortOf L row := by
  rcases h with ⟨a, ha, b, hb, e⟩ | ⟨a, ha, b, hb, c, hc, e⟩
  · exact .inl ⟨a, s a ha, b, s b hb, e⟩
  · exact .inr ⟨a, s a ha, b, s b hb, c, s c hc, e⟩
def unlM (n : Nat) (p q : Int → Int → Bool) (x : Int) : List Int := (goesM n p x).filter (fun h => !(goesM n q x).contains h) ++ (goesM n q x).filter fun h => !(goesM n p x).contains h
def touchU (n : Nat) (p q : Int → Int → Bool) (x : Int) : List Int := [x] ++ (unlM n p q x).take 1 ++ (goesM n p x).take 1 ++ (goesM n q x).take 1
def touchC (n : Nat) (p q : Int → Int → Bool) (x y : Int) : List Int := [x, y] ++ ((x :: goesM n p x).filter fun k => (y :: goesM n q y).contains k).take 1 ++ (goesM n p x).take 1 ++ (goesM n q y).take 1
theorem take_one {l : List Int} (h : l ≠ []) : ∃ k, k ∈ l ∧ k ∈ l.take 1 := by
  cases l with
  | nil => exact absurd rfl h
  | cons a l => exact ⟨a, List.mem_cons_self, by simp⟩
/-- lists of kinds in order are told by what is in them -/
theorem goes_ext {n : Nat} {p q : Int → Int → Bool} {x : Int} (h : ∀ k, k ∈ goesM n p x ↔ k ∈ goesM n q x) : goesM n p x = goesM n q x := asc_same ((kinds_asc n).filter _) ((kinds_asc n).filter _) h
theorem unl_ne {n : Nat} {p q : Int → Int → Bool} {x : Int} (h : goesM n p x ≠ goesM n q x) : unlM n p q x ≠ [] := by
  intro e
  refine h (goes_ext fun k => ?_)
  unfold unlM at e
  obtain ⟨e1, e2⟩ := List.append_eq_nil_iff.mp e
  rw [List.filter_eq_nil_iff] at e1 e2
  have f1 := e1 k
  have f2 := e2 k
  simp only [Bool.not_eq_true', List.contains_eq_mem, decide_eq_false_iff_not, Classical.not_not] at f1 f2
  exact ⟨f1, f2⟩
theorem touchU_in {n : Nat} {p q : Int → Int → Bool} {x : Int} (hx : x ∈ kindsI n) : ∀ k ∈ touchU n p q x, k ∈ kindsI n := by
  intro k hk
  unfold touchU unlM at hk
  simp only [List.mem_append] at hk
  rcases hk with ((h | h) | h) | h
  · rw [List.mem_singleton.mp h]; exact hx
  · rcases List.mem_append.mp (List.mem_of_mem_take h) with h | h
    · exact (mem_goes.mp (List.mem_filter.mp h).1).1
    · exact (mem_goes.mp (List.mem_filter.mp h).1).1
  · exact (mem_goes.mp (List.mem_of_mem_take h)).1
  · exact (mem_goes.mp (List.mem_of_mem_take h)).1
theorem touchC_in {n : Nat} {p q : Int → Int → Bool} {x y : Int} (hx : x ∈ kindsI n) (hy : y ∈ kindsI n) : ∀ k ∈ touchC n p q x y, k ∈ kindsI n := by
  intro k hk
  unfold touchC at hk
  simp only [List.mem_append] at hk
  rcases hk with ((h | h) | h) | h
  · rcases List.mem_cons.mp h with rfl | h
    · exact hx
    · rw [List.mem_singleton.mp h]; exact hy
  · rcases List.mem_cons.mp (List.mem_filter.mp (List.mem_of_mem_take h)).1 with rfl | h
    · exact hx
    · exact (mem_goes.mp h).1
  · exact (mem_goes.mp (List.mem_of_mem_take h)).1
  · exact (mem_goes.mp (List.mem_of_mem_take h)).1
section
variable {n : Nat} {p q : Int → Int → Bool}
def parts2 (n : Nat) (p q : Int → Int → Bool) (row : List Int) : Prop := wholeM [cano n p, cano n q] row ≠ wholeM [cano n q, cano n p] row
theorem parts2_comm {row : List Int} (h : parts2 n p q row) : parts2 n q p row := fun e => h e.symm
theorem part_u1 (sp : SOrd p) (sq : SOrd q) {x u h : Int} (hx : x ∈ kindsI n) (c1 : u ∈ goesM n p x) (c2 : u ∉ goesM n q x) (c3 : h ∈ goesM n q x) {K : List Int} (kx : x ∈ K) (ku : u ∈ K) (kh : h ∈ K) : ∃ row, shortOf K row ∧ parts2 n p q row := by
  have c2' : inB n q x u = false := by
    cases e : inB n q x u with
    | false => rfl
    | true => exact absurd ((goes_inB hx).mpr e) c2
  rcases part_unlike (b1 := cano n p) (b2 := cano n q) (fun _ _ => rfl) (fun _ _ => rfl) (inB_ord sp) (inB_ord sq) ((goes_inB hx).mp c1) c2' ((goes_inB hx).mp c3) with z | z
  · exact ⟨_, .inr ⟨u, ku, h, kh, x, kx, rfl⟩, z⟩
  · exact ⟨_, .inr ⟨h, kh, u, ku, x, kx, rfl⟩, z⟩
theorem part_u (sp : SOrd p) (sq : SOrd q) {x : Int} (hx : x ∈ kindsI n) (h : unlikeAt n p q x = true) : ∃ row, shortOf (touchU n p q x) row ∧ parts2 n p q row := by
  unfold unlikeAt at h
  obtain ⟨h1, h2, h3⟩ := of_decide_eq_true h
  obtain ⟨u, hu, hu1⟩ := take_one (unl_ne h3)
  obtain ⟨g, hg, hg1⟩ := take_one h1
  obtain ⟨k, hk, hk1⟩ := take_one h2
  have kx : x ∈ touchU n p q x := by unfold touchU; simp
  have ku : u ∈ touchU n p q x := by unfold touchU; simp only [List.mem_append]; exact .inl (.inl (.inr hu1))
  have kg : g ∈ touchU n p q x := by unfold touchU; simp only [List.mem_append]; exact .inl (.inr hg1)
  have kk : k ∈ touchU n p q x := by unfold touchU; simp only [List.mem_append]; exact .inr hk1
  unfold unlM at hu
  rcases List.mem_append.mp hu with hu | hu
  · obtain ⟨a, b⟩ := List.mem_filter.mp hu
    exact part_u1 sp sq hx a (by simpa using b) hk kx ku kk
  · obtain ⟨a, b⟩ := List.mem_filter.mp hu
    obtain ⟨row, s, z⟩ := part_u1 sq sp hx a (by simpa using b) hg kx ku kg
    exact ⟨row, s, parts2_comm z⟩
theorem part_c1 (sp : SOrd p) (sq : SOrd q) {x y g : Int} (hx : x ∈ kindsI n) (hy : y ∈ kindsI n) (c1 : g ∈ goesM n p x) (c2 : x ∈ goesM n q y) (c3 : goesM n q x = []) (c4 : goesM n p y = []) {K : List Int} (kx : x ∈ K) (ky : y ∈ K) (kg : g ∈ K) : ∃ row, shortOf K row ∧ parts2 n p q row := by
  rcases part_one (b1 := cano n p) (b2 := cano n q) (fun _ _ => rfl) (fun _ _ => rfl) (inB_ord sp) (inB_ord sq) ((goes_inB hx).mp c1) ((goes_inB hy).mp c2) (goes_none c3) (goes_none c4) with z | z
  · exact ⟨_, .inl ⟨g, kg, x, kx, rfl⟩, z⟩
  · exact ⟨_, .inr ⟨g, kg, x, kx, y, ky, rfl⟩, z⟩
theorem part_c (sp : SOrd p) (sq : SOrd q) {x y : Int} (hx : x ∈ aloneM n p q) (hy : y ∈ aloneM n q p) (h : lotsMeet n p q x y = true) : ∃ row, shortOf (touchC n p q x y) row ∧ parts2 n p q row := by
  obtain ⟨hx, x1, x2⟩ := alone_alon hx
  obtain ⟨hy, y1, y2⟩ := alone_alon hy
  obtain ⟨g, hg, hg1⟩ := take_one x1
  obtain ⟨k, hk, hk1⟩ := take_one y1
  have mn : (x :: goesM n p x).filter (fun k => (y :: goesM n q y).contains k) ≠ [] := by
    unfold lotsMeet at h
    obtain ⟨c, h1, h2⟩ := List.any_eq_true.mp h
    exact List.ne_nil_of_mem (List.mem_filter.mpr ⟨List.contains_iff_mem.mp h2, List.contains_iff_mem.mpr h1⟩)
  obtain ⟨c, hc, hc1⟩ := take_one mn
  have kx : x ∈ touchC n p q x y := by unfold touchC; simp
  have ky : y ∈ touchC n p q x y := by unfold touchC; simp
  have kc : c ∈ touchC n p q x y := by unfold touchC; simp only [List.mem_append]; exact .inl (.inl (.inr hc1))
  have kg : g ∈ touchC n p q x y := by unfold touchC; simp only [List.mem_append]; exact .inl (.inr hg1)
  have kk : k ∈ touchC n p q x y := by unfold touchC; simp only [List.mem_append]; exact .inr hk1
  obtain ⟨c1, c2⟩ := List.mem_filter.mp hc
  have c2 := List.contains_iff_mem.mp c2
  have xy : x ≠ y := fun e => by subst e; exact y1 x2
  rcases List.mem_cons.mp c1 with e | c1
  · subst e
    rcases List.mem_cons.mp c2 with e | c2
    · exact absurd e xy
    · exact part_c1 sp sq hx hy hg c2 x2 y2 kx ky kg
  · rcases List.mem_cons.mp c2 with e | c2
    · subst e
      obtain ⟨row, s, z⟩ := part_c1 sq sp hy hx hk c1 y2 x2 ky kx kk
      exact ⟨row, s, parts2_comm z⟩
    · rcases part_third (b1 := cano n p) (b2 := cano n q) (fun _ _ => rfl) (fun _ _ => rfl) (inB_ord sp) (inB_ord sq) ((goes_inB hx).mp c1) ((goes_inB hy).mp c2) (goes_none x2) (goes_none y2) with z | z
      · exact ⟨_, .inl ⟨c, kc, x, kx, rfl⟩, z⟩
      · exact ⟨_, .inr ⟨c, kc, x, kx, y, ky, rfl⟩, z⟩
end
theorem firstMeet_some {n : Nat} {p q : Int → Int → Bool} {z : Int × Int} (h : firstMeet n p q = some z) : z.1 ∈ aloneM n p q ∧ z.2 ∈ aloneM n q p ∧ lotsMeet n p q z.1 z.2 = true := by
  unfold firstMeet at h
  obtain ⟨x, hx, e⟩ := List.exists_of_findSome?_eq_some h
  obtain ⟨y, hy, rfl⟩ := Option.map_eq_some_iff.mp e
  exact ⟨hx, List.mem_of_find?_eq_some hy, List.find?_some hy⟩
/-- not let -/
def barred (n : Nat) (p q : Int → Int → Bool) : Bool := ((kindsI n).find? (unlikeAt n p q)).isSome || (firstMeet n p q).isSome
def touchM (n : Nat) (p q : Int → Int → Bool) : List Int := match (kindsI n).find? (unlikeAt n p q) with
  | some x => touchU n p q x
  | none => match firstMeet n p q with
    | some z => touchC n p q z.1 z.2
    | none => []
theorem touchM_in {n : Nat} {p q : Int → Int → Bool} : ∀ k ∈ touchM n p q, k ∈ kindsI n := by
  unfold touchM
  cases e : (kindsI n).find? (unlikeAt n p q) with
  | some x => exact touchU_in (List.mem_of_find?_eq_some e)
  | none =>
    cases f : firstMeet n p q with
    | some z => exact touchC_in (alone_alon (firstMeet_some f).1).1 (alone_alon (firstMeet_some f).2.1).1
    | none => intro k hk; cases hk
/-- barred bays are parted by a short row of what is touched -/
theorem barred_parts {n : Nat} {p q : Int → Int → Bool} (sp : SOrd p) (sq : SOrd q) (h : barred n p q = true) : ∃ row, shortOf (touchM n p q) row ∧ parts2 n p q row := by
  unfold barred at h
  unfold touchM
  cases e : (kindsI n).find? (unlikeAt n p q) with
  | some x => exact part_u sp sq (List.mem_of_find?_eq_some e) (List.find?_some e)
  | none =>
    cases f : firstMeet n p q with
    | some z =>
      obtain ⟨a, b, c⟩ := firstMeet_some f
      exact part_c sp sq a b c
    | none =>
      rw [e, f] at h
      cases h
theorem free_same {n : Nat} {p q : Int → Int → Bool} (sp : SOrd p) (sq : SOrd q) (h : barred n p q = false) (row : List Int) : wholeM [cano n p, cano n q] row = wholeM [cano n q, cano n p] row := by
  unfold barred at h
  rw [Bool.or_eq_false_iff] at h
  have e1 : (kindsI n).find? (unlikeAt n p q) = none := by
    cases e : (kindsI n).find? (unlikeAt n p q) with
    | none => rfl
    | some x => rw [e] at h; cases h.1
  have e2 : firstMeet n p q = none := by
    cases e : firstMeet n p q with
    | none => rfl
    | some x => rw [e] at h; cases h.2
  exact whole_swap (free_of sp sq e1 e2) (fun _ _ => rfl) (fun _ _ => rfl) row
end BM
namespace BM
/-! ## orders as books, and back -/
theorem cano_asc {n : Nat} {p : Int → Int → Bool} : (cano n p).Pairwise asP := by
  unfold cano
  rw [List.flatMap, List.pairwise_flatten]
  refine ⟨fun l hl => ?_, ?_⟩
  · obtain ⟨x, hx, rfl⟩ := List.mem_map.mp hl
    exact List.pairwise_map.mpr (((kinds_asc n).filter _).imp fun h => .inr ⟨rfl, h⟩)
  · refine List.pairwise_map.mpr ((kinds_asc n).imp fun {a b} h u hu v hv => ?_)
    obtain ⟨c, _, rfl⟩ := List.mem_map.mp hu
    obtain ⟨d, _, rfl⟩ := List.mem_map.mp hv
    exact .inl h
theorem asP_same : ∀ {a b : Bk}, a.Pairwise asP → b.Pairwise asP → (∀ k, k ∈ a ↔ k ∈ b) → a = b
  | [], [], _, _, _ => rfl
  | [], y :: b, _, _, h => absurd ((h y).mpr List.mem_cons_self) (by simp)
  | x :: a, [], _, _, h => absurd ((h x).mp List.mem_cons_self) (by simp)
  | x :: a, y :: b, ha, hb, h => by
    obtain ⟨xa, pa⟩ := List.pairwise_cons.mp ha
    obtain ⟨yb, pb⟩ := List.pairwise_cons.mp hb
    have no : ∀ u v : Int × Int, asP u v → asP v u → False := fun u v h1 h2 => by
      unfold asP at h1 h2
      omega
    have ne : ∀ u : Int × Int, asP u u → False := fun u h => no u u h h
    have e : x = y := by
      rcases List.mem_cons.mp ((h x).mp List.mem_cons_self) with z | z
      · exact z
      · rcases List.mem_cons.mp ((h y).mpr List.mem_cons_self) with w | w
        · exact w.symm
        · exact (no x y (xa y w) (yb x z)).elim
    subst e
    refine congrArg (x :: ·) (asP_same pa pb fun k => ⟨fun hk => ?_, fun hk => ?_⟩)
    · rcases List.mem_cons.mp ((h k).mp (List.mem_cons_of_mem _ hk)) with z | z
      · exact (ne x (z ▸ xa k hk)).elim
      · exact z
    · rcases List.mem_cons.mp ((h k).mpr (List.mem_cons_of_mem _ hk)) with z | z
      · exact (ne x (z ▸ yb k hk)).elim
      · exact z
theorem cano_ok {n : Nat} {p : Int → Int → Bool} (s : SOrd p) : OkO n (cano n p) := by
  refine ⟨⟨fun x hx => ?_, fun x y z h1 h2 => ?_, cano_asc⟩, fun u hu => ?_⟩
  · have := (mem_cano.mp hx).2.2
    rw [s.irr] at this
    cases this
  · obtain ⟨a, b, c⟩ := mem_cano.mp h1
    obtain ⟨d, e, f⟩ := mem_cano.mp h2
    exact mem_cano.mpr ⟨a, e, s.tr x y z c f⟩
  · obtain ⟨a, b, _⟩ := mem_cano.mp (show (u.1, u.2) ∈ cano n p from hu)
    have mk : ∀ k : Int, k ∈ kindsI n → 0 ≤ k ∧ k < (n : Int) := fun k hk => by
      unfold kindsI at hk
      obtain ⟨i, hi, rfl⟩ := List.mem_map.mp hk
      rw [List.mem_range] at hi
      omega
    exact ⟨mk _ a, mk _ b⟩
theorem ok_cano {n : Nat} {b : Bk} (o : OkO n b) : b = cano n (fun x h => b.contains (x, h)) ∧ SOrd fun x h => b.contains (x, h) := by
  have km : ∀ k : Int, 0 ≤ k ∧ k < (n : Int) → k ∈ kindsI n := fun k hk => by
    unfold kindsI
    exact List.mem_map.mpr ⟨k.toNat, List.mem_range.mpr (by omega), by omega⟩
  refine ⟨asP_same o.ord.asc cano_asc fun k => ?_, fun x => ?_, fun x y z h1 h2 => ?_⟩
  · obtain ⟨x, h⟩ := k
    rw [mem_cano, List.contains_iff_mem]
    exact ⟨fun hk => ⟨km _ (o.k _ hk).1, km _ (o.k _ hk).2, hk⟩, fun hk => hk.2.2⟩
  · cases e : b.contains (x, x) with
    | false => rfl
    | true => exact absurd (List.contains_iff_mem.mp e) (o.ord.irr x)
  · rw [List.contains_iff_mem] at h1 h2 ⊢
    exact o.ord.tr x y z h1 h2
theorem cano_congr {n : Nat} {p q : Int → Int → Bool} (h : ∀ x ∈ kindsI n, ∀ z ∈ kindsI n, p x z = q x z) : cano n p = cano n q := asP_same cano_asc cano_asc fun k => by
  obtain ⟨x, z⟩ := k
  rw [mem_cano, mem_cano]
  refine ⟨fun ⟨a, b, c⟩ => ⟨a, b, (h x a z b) ▸ c⟩, fun ⟨a, b, c⟩ => ⟨a, b, (h x a z b).symm ▸ c⟩⟩
end BM
namespace BM
/-! ## rows that do not rise: searched by what stands and what came out last -/
def upB (r : List Int) : Bool := decide (r.Pairwise (· ≤ ·))
theorem upB_iff {r : List Int} : upB r = true ↔ r.Pairwise (· ≤ ·) := by unfold upB; simp
abbrev Ky := List (Option Int) × Option Int
def nxK (l : List Bk) (q : Ky) (k : Int) : Ky := ((stepM l q.1 k).1, (stepM l q.1 k).2.or q.2)
def kyM (l : List Bk) (r : List Int) : Ky := r.foldl (nxK l) (emptyM l, none)
theorem kyM_snoc (l : List Bk) (r : List Int) (k : Int) : kyM l (r ++ [k]) = nxK l (kyM l r) k := by
  unfold kyM
  rw [List.foldl_append]
  rfl
theorem snocR {α : Type} {P : List α → Prop} (h0 : P []) (h : ∀ l x, P l → P (l ++ [x])) (l : List α) : P l := by
  have : ∀ r : List α, P r.reverse := fun r => by
    induction r with
    | nil => exact h0
    | cons x r ih =>
      rw [List.reverse_cons]
      exact h _ x ih
  have := this l.reverse
  rwa [List.reverse_reverse] at this
theorem run_snoc (l : List Bk) (r : List Int) (k : Int) (s : List (Option Int)) : runM l s (r ++ [k]) = ((stepM l (runM l s r).1 k).1, (runM l s r).2 ++ (stepM l (runM l s r).1 k).2.toList) := by
  rw [runM_append, runM_one]
theorem kyM_run (l : List Bk) (r : List Int) : kyM l r = ((runM l (emptyM l) r).1, (runM l (emptyM l) r).2.getLast?) := by
  induction r using snocR with
  | h0 => rfl
  | h r k ih =>
    rw [kyM_snoc, run_snoc, ih]
    unfold nxK
    congr 1
    cases (stepM l (runM l (emptyM l) r).1 k).2 with
    | none => simp
    | some o => simp
def ltO : Option Int → Option Int → Bool
  | some la, some o => decide (o < la)
  | _, _ => false
def badK (l : List Bk) (q : Ky) (k : Int) : Bool := ltO q.2 (stepM l q.1 k).2 || !upB ((nxK l q k).2.toList ++ endM l (nxK l q k).1)
def wrM (l : List Bk) (r : List Int) : Bool := !upB (wholeM l r)
theorem up_last {c e : List Int} (h : c.Pairwise (· ≤ ·)) : upB (c ++ e) = upB (c.getLast?.toList ++ e) := by
  induction c using snocR with
  | h0 => rfl
  | h c x _ =>
    rw [Bool.eq_iff_iff, upB_iff, upB_iff]
    rw [List.getLast?_append]
    simp only [List.getLast?_singleton, Option.some_or, Option.toList]
    rw [List.singleton_append, List.pairwise_cons, List.pairwise_append]
    rw [List.pairwise_append] at h
    refine ⟨fun ⟨_, b, d⟩ => ⟨fun y hy => d x (by simp) y hy, b⟩, fun ⟨d, b⟩ => ⟨List.pairwise_append.mpr h, b, fun a ha y hy => ?_⟩⟩
    · have hx := d y hy
      rcases List.mem_append.mp ha with z | z
      · exact Int.le_trans (h.2.2 a z x (by simp)) hx
      · rw [List.mem_singleton.mp z]
        exact hx
theorem wr_snoc {l : List Bk} {r : List Int} (h : wrM l r = false) (k : Int) : wrM l (r ++ [k]) = badK l (kyM l r) k := by
  unfold wrM at h ⊢
  rw [Bool.not_eq_false', upB_iff] at h
  unfold wholeM at h ⊢
  rw [run_snoc, kyM_run]
  have hc := (List.pairwise_append.mp h).1
  generalize (runM l (emptyM l) r).2 = c at hc
  generalize (runM l (emptyM l) r).1 = st
  clear h
  unfold badK nxK ltO
  simp only
  cases e : (stepM l st k).2 with
  | none =>
    simp only [Option.toList, List.append_nil, Option.none_or]
    rw [up_last hc]
    cases c.getLast? <;> simp
  | some o =>
    simp only [Option.toList, Option.some_or]
    induction c using snocR with
    | h0 => simp
    | h c x _ =>
      have el : (c ++ [x]).getLast? = some x := by simp
      rw [el]
      simp only
      by_cases lt : o < x
      · simp only [lt, decide_true, Bool.true_or, Bool.not_eq_true']
        rw [← Bool.not_eq_true, upB_iff]
        intro z
        have := (List.pairwise_append.mp (List.pairwise_append.mp z).1).2.2 x (by simp) o (by simp)
        omega
      · simp only [lt, decide_false, Bool.false_or]
        have hc2 : (c ++ [x] ++ [o]).Pairwise (· ≤ ·) := by
          rw [List.pairwise_append]
          refine ⟨hc, by simp, fun a ha y hy => ?_⟩
          rw [List.mem_singleton.mp hy]
          rcases List.mem_append.mp ha with z | z
          · have := (List.pairwise_append.mp hc).2.2 a z x (by simp)
            omega
          · rw [List.mem_singleton.mp z]
            omega
        rw [up_last hc2]
        simp
theorem wr_key {l : List Bk} {r : List Int} (h : wrM l r = false) : upB ((kyM l r).2.toList ++ endM l (kyM l r).1) = true := by
  unfold wrM at h
  rw [Bool.not_eq_false'] at h
  unfold wholeM at h
  rw [kyM_run]
  have hc := (List.pairwise_append.mp (upB_iff.mp h)).1
  rw [up_last hc] at h
  exact h
/-! ### each key once, the first row that leads there -/
section
variable {α κ : Type} [DecidableEq κ] (key : α → κ)
def insK (ps : List (κ × α)) (r : α) : List (κ × α) := if key r ∈ ps.map (·.1) then ps else ps ++ [(key r, r)]
def foldK (ps : List (κ × α)) (rs : List α) : List (κ × α) := rs.foldl (insK key) ps
abbrev dedK (rs : List α) : List (κ × α) := foldK key [] rs
theorem foldK_append (ps : List (κ × α)) (xs ys : List α) : foldK key ps (xs ++ ys) = foldK key (foldK key ps xs) ys := by
  unfold foldK
  rw [List.foldl_append]
theorem foldK_snoc (ps : List (κ × α)) (xs : List α) (x : α) : foldK key ps (xs ++ [x]) = insK key (foldK key ps xs) x := by
  rw [foldK_append]
  rfl
theorem insK_mem {ps : List (κ × α)} {r : α} {k : κ} : k ∈ (insK key ps r).map (·.1) ↔ k ∈ ps.map (·.1) ∨ k = key r := by
  unfold insK
  split
  · rename_i h
    exact ⟨.inl, fun z => z.elim id fun e => e ▸ h⟩
  · simp
theorem foldK_mem {xs : List α} {ps : List (κ × α)} {k : κ} : k ∈ (foldK key ps xs).map (·.1) ↔ k ∈ ps.map (·.1) ∨ ∃ x ∈ xs, key x = k := by
  induction xs using snocR with
  | h0 => simp [foldK]
  | h xs x ih =>
    rw [foldK_snoc, insK_mem, ih]
    constructor
    · rintro ((a | ⟨y, b, c⟩) | rfl)
      · exact .inl a
      · exact .inr ⟨y, List.mem_append_left _ b, c⟩
      · exact .inr ⟨x, by simp, rfl⟩
    · rintro (a | ⟨y, b, c⟩)
      · exact .inl (.inl a)
      · rcases List.mem_append.mp b with z | z
        · exact .inl (.inr ⟨y, z, c⟩)
        · rw [List.mem_singleton.mp z] at c
          exact .inr c.symm
theorem foldK_noop {xs : List α} {ps : List (κ × α)} (h : ∀ x ∈ xs, key x ∈ ps.map (·.1)) : foldK key ps xs = ps := by
  induction xs using snocR with
  | h0 => rfl
  | h xs x ih =>
    rw [foldK_snoc, ih fun y hy => h y (List.mem_append_left _ hy)]
    unfold insK
    rw [if_pos (h x (by simp))]
theorem dedK_pair {xs : List α} : ∀ p ∈ dedK key xs, p.2 ∈ xs ∧ p.1 = key p.2 := by
  induction xs using snocR with
  | h0 => intro p hp; simp [dedK, foldK] at hp
  | h xs x ih =>
    intro p hp
    unfold dedK at hp ih
    rw [foldK_snoc] at hp
    unfold insK at hp
    split at hp
    · exact ⟨List.mem_append_left _ (ih p hp).1, (ih p hp).2⟩
    · rcases List.mem_append.mp hp with z | z
      · exact ⟨List.mem_append_left _ (ih p z).1, (ih p z).2⟩
      · rw [List.mem_singleton.mp z]
        exact ⟨by simp, rfl⟩
theorem foldK_len (ps : List (κ × α)) (xs : List α) : (foldK key ps xs).length ≤ ps.length + xs.length := by
  induction xs using snocR with
  | h0 => simp [foldK]
  | h xs x ih =>
    rw [foldK_snoc]
    unfold insK
    split
    · simp
      omega
    · simp
      omega
theorem insK_nodup {ps : List (κ × α)} (h : (ps.map (·.1)).Nodup) (r : α) : ((insK key ps r).map (·.1)).Nodup := by
  unfold insK
  split
  · exact h
  · rename_i n
    rw [List.map_append, List.nodup_append]
    refine ⟨h, by simp, fun a ha b hb e => n ?_⟩
    have : b = key r := by simpa using hb
    rw [← this, ← e]
    exact ha
theorem foldK_nodup {ps : List (κ × α)} (h : (ps.map (·.1)).Nodup) (xs : List α) : ((foldK key ps xs).map (·.1)).Nodup := by
  induction xs using snocR with
  | h0 => exact h
  | h xs x ih =>
    rw [foldK_snoc]
    exact insK_nodup key ih x
theorem dedK_flat (f : α → List α) (hf : ∀ r r', key r = key r' → (f r).map key = (f r').map key) (R : List α) : dedK key (R.flatMap f) = dedK key (((dedK key R).map (·.2)).flatMap f) := by
  induction R using snocR with
  | h0 => rfl
  | h R r ih =>
    rw [List.flatMap_append]
    unfold dedK at ih ⊢
    rw [foldK_append, ih, foldK_snoc]
    have e1 : [r].flatMap f = f r := by simp
    rw [e1]
    unfold insK
    split
    · rename_i h
      refine foldK_noop key fun x hx => ?_
      obtain ⟨p, hp, e⟩ := List.mem_map.mp h
      have hk := (dedK_pair key p hp).2
      have hx' : key x ∈ (f p.2).map key := by
        rw [hf p.2 r (by rw [← hk, e])]
        exact List.mem_map.mpr ⟨x, hx, rfl⟩
      obtain ⟨y, hy, ey⟩ := List.mem_map.mp hx'
      rw [foldK_mem]
      exact .inr ⟨y, List.mem_flatMap.mpr ⟨p.2, List.mem_map.mpr ⟨p, hp, rfl⟩, hy⟩, ey⟩
    · rw [List.map_append, List.flatMap_append, foldK_append]
      simp
theorem find_flat (f : α → List α) (p : α → Bool) (R : List α) (hp : ∀ r ∈ R, ∀ r' ∈ R, key r = key r' → (f r).any p = (f r').any p) : (R.flatMap f).find? p = (((dedK key R).map (·.2)).flatMap f).find? p := by
  induction R using snocR with
  | h0 => rfl
  | h R r ih =>
    have ih := ih fun a ha b hb => hp a (List.mem_append_left _ ha) b (List.mem_append_left _ hb)
    rw [List.flatMap_append, List.find?_append, ih]
    unfold dedK
    rw [foldK_snoc]
    have e1 : [r].flatMap f = f r := by simp
    rw [e1]
    unfold insK
    split
    · rename_i h
      cases c : (((dedK key R).map (·.2)).flatMap f).find? p with
      | some x => rfl
      | none =>
        rw [Option.none_or]
        obtain ⟨q, hq, e⟩ := List.mem_map.mp h
        have hk := dedK_pair key q hq
        have an := hp q.2 (List.mem_append_left _ hk.1) r (by simp) (by rw [← hk.2, e])
        have no : (f q.2).any p = false := by
          rw [List.any_eq_false]
          intro y hy
          rw [List.find?_eq_none] at c
          exact c y (List.mem_flatMap.mpr ⟨q.2, List.mem_map.mpr ⟨q, hq, rfl⟩, hy⟩)
        rw [no] at an
        rw [List.find?_eq_none]
        intro y hy
        exact List.any_eq_false.mp an.symm y hy
    · rw [List.map_append, List.flatMap_append, List.find?_append]
      simp
end
/-! ### all rows, shorter ones first -/
def extN (n : Nat) (r : List Int) : List (List Int) := (kindsI n).map fun k => r ++ [k]
def rowsN (n : Nat) : Nat → List (List Int)
  | 0 => [[]]
  | m + 1 => (rowsN n m).flatMap (extN n)
def lvK (l : List Bk) (n m : Nat) : List (Ky × List Int) := dedK (kyM l) (rowsN n m)
theorem flat_len {α β : Type} {f : α → List β} {n : Nat} (h : ∀ x, (f x).length = n) : ∀ xs : List α, (xs.flatMap f).length = xs.length * n
  | [] => by simp
  | x :: xs => by rw [List.flatMap_cons, List.length_append, flat_len h xs, h x, List.length_cons, Nat.succ_mul]; omega
theorem ext_len (n : Nat) (r : List Int) : (extN n r).length = n := by simp [extN, kindsI]
theorem lvK_zero (l : List Bk) (n : Nat) : lvK l n 0 = [((emptyM l, none), [])] := rfl
theorem lvK_succ (l : List Bk) (n m : Nat) : lvK l n (m + 1) = dedK (kyM l) (((lvK l n m).map (·.2)).flatMap (extN n)) := by
  unfold lvK
  show dedK (kyM l) ((rowsN n m).flatMap (extN n)) = _
  refine dedK_flat (kyM l) (extN n) (fun r r' h => ?_) _
  unfold extN
  rw [List.map_map, List.map_map]
  refine List.map_congr_left fun k _ => ?_
  simp only [Function.comp_def]
  rw [kyM_snoc, kyM_snoc, h]
theorem lv_find (l : List Bk) (n m : Nat) (h : ∀ r ∈ rowsN n m, wrM l r = false) : (rowsN n (m + 1)).find? (wrM l) = (((lvK l n m).map (·.2)).flatMap (extN n)).find? (wrM l) := by
  unfold lvK
  show ((rowsN n m).flatMap (extN n)).find? (wrM l) = _
  refine find_flat (kyM l) (extN n) (wrM l) _ fun r hr r' hr' e => ?_
  unfold extN
  rw [List.any_map, List.any_map]
  refine congrArg (fun f => (kindsI n).any f) (funext fun k => ?_)
  simp only [Function.comp_def]
  rw [wr_snoc (h r hr), wr_snoc (h r' hr'), e]
/-- the first one of the shortest rows that does not rise -/
def fwM (l : List Bk) (n many : Nat) : Option (List Int) := ((List.range (many + 1)).flatMap (rowsN n)).find? (wrM l)
theorem fw_succ (l : List Bk) (n m : Nat) : fwM l n (m + 1) = (fwM l n m).or ((rowsN n (m + 1)).find? (wrM l)) := by
  unfold fwM
  rw [List.range_succ, List.flatMap_append, List.find?_append]
  simp
theorem fw_le {l : List Bk} {n m many : Nat} {r : List Int} (h : fwM l n m = some r) (le : m ≤ many) : fwM l n many = some r := by
  induction many with
  | zero =>
    have : m = 0 := by omega
    rw [← this]
    exact h
  | succ k ih =>
    by_cases c : m = k + 1
    · rw [← c]
      exact h
    · rw [fw_succ, ih (by omega)]
      rfl
theorem whole_empty (l : List Bk) : wholeM l [] = [] := by
  have : ∀ l : List Bk, endM l (emptyM l) = [] := fun l => by
    induction l with
    | nil => rfl
    | cons b l ih => exact ih
  unfold wholeM
  rw [show runM l (emptyM l) [] = (emptyM l, []) from rfl, this]
  rfl
theorem wr_empty (l : List Bk) : wrM l [] = false := by
  unfold wrM
  rw [whole_empty]
  rfl
theorem fw_zero (l : List Bk) (n : Nat) : fwM l n 0 = none := by
  have : fwM l n 0 = [[]].find? (wrM l) := rfl
  rw [this]
  simp [wr_empty]
theorem fw_none {l : List Bk} {n many : Nat} (h : fwM l n many = none) : ∀ m, m ≤ many → ∀ r ∈ rowsN n m, wrM l r = false := by
  unfold fwM at h
  rw [List.find?_eq_none] at h
  intro m hm r hr
  have := h r (List.mem_flatMap.mpr ⟨m, List.mem_range.mpr (by omega), hr⟩)
  simpa using this
theorem rowsN_len {n : Nat} : ∀ {m : Nat} {r : List Int}, r ∈ rowsN n m → r.length = m ∧ ∀ k ∈ r, 0 ≤ k ∧ k < (n : Int)
  | 0, r, h => by
    have : r = [] := by simpa [rowsN] using h
    subst this
    simp
  | m + 1, r, h => by
    obtain ⟨r', h1, h2⟩ := List.mem_flatMap.mp h
    obtain ⟨k, hk, rfl⟩ := List.mem_map.mp h2
    obtain ⟨e1, e2⟩ := rowsN_len h1
    refine ⟨by simp [e1], fun y hy => ?_⟩
    rcases List.mem_append.mp hy with z | z
    · exact e2 y z
    · rw [List.mem_singleton.mp z]
      unfold kindsI at hk
      obtain ⟨j, hj, rfl⟩ := List.mem_map.mp hk
      have := List.mem_range.mp hj
      omega
/-! ### what is true of such a key -/
structure InK (n : Nat) (l : List Bk) (q : Ky) : Prop where
  s : InS n l.length q.1
  o : ∀ k, q.2 = some k → 0 ≤ k ∧ k < (n : Int)
  f : ∃ (xs : List Int) (k : Nat), xs.length + k = l.length ∧ q.1 = xs.map some ++ List.replicate k none ∧ (0 < k → q.2 = none)
theorem InK.empty (n : Nat) (l : List Bk) : InK n l (emptyM l, none) := ⟨⟨by simp [emptyM], fun k hk => by simp [emptyM] at hk⟩, nofun, ⟨[], l.length, by simp, rfl, fun _ => rfl⟩⟩
theorem InK.nx {n : Nat} {l : List Bk} {q : Ky} (h : InK n l q) {k : Int} (hk : 0 ≤ k ∧ k < (n : Int)) : InK n l (nxK l q k) := by
  have P := stepM_P (P := fun z => 0 ≤ z ∧ z < (n : Int)) l q.1 k h.s.2 hk
  obtain ⟨xs, j, e1, e2, e3⟩ := h.f
  obtain ⟨ys, f1, _, f3, f4⟩ := step_full l xs j k e1
  rw [← e2] at f3 f4
  refine ⟨stepM_in l q.1 k h.s hk, fun z hz => ?_, ⟨ys, j - 1, f1, f3, fun hj => ?_⟩⟩
  · unfold nxK at hz
    cases e : (stepM l q.1 k).2 with
    | none =>
      simp only [e, Option.none_or] at hz
      exact h.o z hz
    | some o =>
      simp only [e, Option.some_or] at hz
      cases hz
      exact P.2 _ e
  · have : (stepM l q.1 k).2 = none := by
      rw [decide_eq_true (show 0 < j by omega)] at f4
      simpa using f4
    unfold nxK
    simp only [this, Option.none_or]
    exact e3 (by omega)
theorem InK.out {n : Nat} {l : List Bk} {q : Ky} (h : InK n l q) {la : Int} (e : q.2 = some la) (k : Int) : ∃ o, (stepM l q.1 k).2 = some o := by
  obtain ⟨xs, j, e1, e2, e3⟩ := h.f
  obtain ⟨ys, f1, _, f3, f4⟩ := step_full l xs j k e1
  rw [← e2] at f4
  have j0 : j = 0 := by
    cases j with
    | zero => rfl
    | succ j =>
      rw [e3 (by omega)] at e
      cases e
  subst j0
  cases c : (stepM l q.1 k).2 with
  | none => rw [c] at f4; simp at f4
  | some o => exact ⟨o, rfl⟩
theorem kyM_in {n : Nat} (l : List Bk) {r : List Int} (h : ∀ k ∈ r, 0 ≤ k ∧ k < (n : Int)) : InK n l (kyM l r) := by
  induction r using snocR with
  | h0 => exact .empty n l
  | h r k ih =>
    rw [kyM_snoc]
    exact (ih fun y hy => h y (List.mem_append_left _ hy)).nx (h k (by simp))
theorem ky_count {n : Nat} {l : List Bk} {qs : List Ky} (nd : qs.Nodup) (h : ∀ q ∈ qs, InK n l q) : qs.length ≤ (n + 1) ^ l.length * (n + 1) := by
  have := nodup_subG qs ((allS n l.length).flatMap fun s => (allO n).map fun o => (s, o)) nd fun q hq => by
    refine List.mem_flatMap.mpr ⟨q.1, allS_mem (h q hq).s, List.mem_map.mpr ⟨q.2, ?_, rfl⟩⟩
    unfold allO
    cases e : q.2 with
    | none => simp
    | some k =>
      have := (h q hq).o k e
      refine List.mem_cons_of_mem _ (List.mem_map.mpr ⟨k.toNat, List.mem_range.mpr (by omega), ?_⟩)
      congr 1
      omega
  refine Nat.le_trans this (Nat.le_of_eq ?_)
  have e : ∀ ss : List (List (Option Int)), (ss.flatMap fun s => (allO n).map fun o => (s, o)).length = ss.length * (n + 1) := fun ss => by
    induction ss with
    | nil => simp
    | cons s ss ih =>
      rw [List.flatMap_cons, List.length_append, ih, List.length_map, List.length_cons, Nat.succ_mul]
      have : (allO n).length = n + 1 := by simp [allO]
      omega
  rw [e, allS_len]
theorem lv_in (l : List Bk) (n m : Nat) : ∀ p ∈ lvK l n m, p.1 = kyM l p.2 ∧ InK n l p.1 ∧ p.2.length = m ∧ (∀ k ∈ p.2, 0 ≤ k ∧ k < (n : Int)) ∧ p.2 ∈ rowsN n m := fun p hp => by
  have h := dedK_pair (kyM l) p hp
  have g := rowsN_len h.1
  exact ⟨h.2, h.2 ▸ kyM_in l g.2, g.1, g.2, h.1⟩
theorem lv_len (l : List Bk) (n m : Nat) : (lvK l n m).length ≤ (n + 1) ^ l.length * (n + 1) := by
  have := ky_count (n := n) (l := l) (qs := (lvK l n m).map (·.1)) (foldK_nodup _ (by simp) _) fun q hq => by
    obtain ⟨p, hp, rfl⟩ := List.mem_map.mp hq
    exact (lv_in l n m p hp).2.1
  simpa using this
end BM
namespace BM
/-! ## how long rows rise -/
theorem kin {n : Nat} {k : Int} : k ∈ kindsI n ↔ 0 ≤ k ∧ k < (n : Int) := by
  unfold kindsI
  rw [List.mem_map]
  constructor
  · rintro ⟨j, hj, rfl⟩
    have := List.mem_range.mp hj
    omega
  · intro h
    exact ⟨k.toNat, List.mem_range.mpr (by omega), by omega⟩
def lesM (n : Nat) : Bk := cano n fun x h => decide (x < h)
theorem les_mem {n : Nat} {x h : Int} : (x, h) ∈ lesM n ↔ 0 ≤ x ∧ x < h ∧ h < n := by
  unfold lesM
  rw [mem_cano, kin, kin]
  simp
  omega
theorem rows_mem {n : Nat} : ∀ {m : Nat} {r : List Int}, r.length = m → (∀ k ∈ r, 0 ≤ k ∧ k < (n : Int)) → r ∈ rowsN n m
  | 0, r, h, _ => by
    rw [List.eq_nil_of_length_eq_zero h]
    simp [rowsN]
  | m + 1, r, h, hk => by
    rcases List.eq_nil_or_concat r with z | ⟨s, k, e⟩
    · subst z
      simp at h
    · have e : r = s ++ [k] := by simpa using e
      subst e
      exact List.mem_flatMap.mpr ⟨s, rows_mem (by simpa using h) fun y hy => hk y (List.mem_append_left _ hy), List.mem_map.mpr ⟨k, kin.mpr (hk k (by simp)), rfl⟩⟩
theorem fw_in {l : List Bk} {n many : Nat} {r : List Int} (h : fwM l n many = some r) : r.length ≤ many ∧ (∀ k ∈ r, 0 ≤ k ∧ k < (n : Int)) ∧ wrM l r = true := by
  obtain ⟨m, hm, hr⟩ := List.mem_flatMap.mp (List.mem_of_find?_eq_some h)
  have := List.mem_range.mp hm
  have g := rowsN_len hr
  exact ⟨by omega, g.2, List.find?_some h⟩
theorem fw_of {l : List Bk} {n many : Nat} {r : List Int} (hk : ∀ k ∈ r, 0 ≤ k ∧ k < (n : Int)) (wr : wrM l r = true) (le : r.length ≤ many) : ∃ r', fwM l n many = some r' ∧ r'.length ≤ r.length := by
  cases e : fwM l n r.length with
  | none =>
    have := fw_none e r.length (Nat.le_refl _) r (rows_mem rfl hk)
    rw [wr] at this
    cases this
  | some r' => exact ⟨r', fw_le e le, (fw_in e).1⟩
theorem fw_least {l : List Bk} {n many m : Nat} {r : List Int} (h : fwM l n many = some r) (lt : m < r.length) : fwM l n m = none := by
  cases e : fwM l n m with
  | none => rfl
  | some r' =>
    have h1 := fw_le e (show m ≤ many by have := (fw_in h).1; omega)
    rw [h] at h1
    cases h1
    have := (fw_in e).1
    omega
theorem fw_at {l : List Bk} {n many m : Nat} {r : List Int} (h : fwM l n many = some r) (le : r.length ≤ m) : fwM l n m = some r := by
  obtain ⟨h1, h2, h3⟩ := fw_in h
  obtain ⟨r', e, l'⟩ := fw_of (many := r.length) h2 h3 (Nat.le_refl _)
  have := fw_le e h1
  rw [h] at this
  cases this
  exact fw_le e le
theorem whole_perm (l : List Bk) (r : List Int) : (wholeM l r).Perm r := by
  rw [wholeM_all]
  exact allM_perm l r
theorem wr_short {l : List Bk} {r : List Int} (h : r.length ≤ 1) : wrM l r = false := by
  unfold wrM
  rw [Bool.not_eq_false', upB_iff]
  have := (whole_perm l r).length_eq
  match e : wholeM l r with
  | [] => exact .nil
  | [a] => simp
  | a :: b :: t =>
    rw [e] at this
    simp at this
    omega
theorem fw_two {l : List Bk} {n many : Nat} {r : List Int} (h : fwM l n many = some r) : 2 ≤ r.length := by
  have := (fw_in h).2.2
  by_cases c : r.length ≤ 1
  · rw [wr_short c] at this
    cases this
  · omega
/-! ### full bays -/
/-- the thing held is the greatest of those that came -/
theorem bay_full {n : Nat} : ∀ (ts : List Int) (h : Int), (0 ≤ h ∧ h < (n : Int)) → (∀ k ∈ ts, 0 ≤ k ∧ k < (n : Int)) → ∃ m, (bay (lesM n) (some h) ts).1 = some m ∧ h ≤ m ∧ (0 ≤ m ∧ m < (n : Int)) ∧ (∀ k ∈ ts, k ≤ m) ∧ ∀ k ∈ (bay (lesM n) (some h) ts).2, k ≤ m
  | [], h, hh, _ => ⟨h, rfl, Int.le_refl _, hh, by simp, by simp [bay]⟩
  | t :: ts, h, hh, hk => by
    have ht := hk t List.mem_cons_self
    unfold bay
    by_cases c : t < h
    · have c' : (lesM n).contains (t, h) = true := by
        rw [List.contains_iff_mem, les_mem]
        omega
      obtain ⟨m, e1, e2, e3, e4, e5⟩ := bay_full ts h hh fun k hk' => hk k (List.mem_cons_of_mem _ hk')
      rw [if_pos c']
      refine ⟨m, e1, e2, e3, fun k hk' => ?_, fun k hk' => ?_⟩
      · rcases List.mem_cons.mp hk' with rfl | z
        · omega
        · exact e4 k z
      · rcases List.mem_cons.mp hk' with rfl | z
        · omega
        · exact e5 k z
    · have c' : ¬ (lesM n).contains (t, h) = true := by
        rw [List.contains_iff_mem, les_mem]
        omega
      obtain ⟨m, e1, e2, e3, e4, e5⟩ := bay_full ts t ht fun k hk' => hk k (List.mem_cons_of_mem _ hk')
      rw [if_neg c']
      refine ⟨m, e1, by omega, e3, fun k hk' => ?_, fun k hk' => ?_⟩
      · rcases List.mem_cons.mp hk' with rfl | z
        · omega
        · exact e4 k z
      · rcases List.mem_cons.mp hk' with rfl | z
        · omega
        · exact e5 k z
/-- rising things, none less than what is held, go through one behind another -/
theorem bay_up {n : Nat} : ∀ (s : List Int) (h : Int), s.Pairwise (· ≤ ·) → (∀ k ∈ s, h ≤ k) → (bay (lesM n) (some h) s).2 ++ (bay (lesM n) (some h) s).1.toList = h :: s
  | [], h, _, _ => rfl
  | t :: s, h, hs, hk => by
    rw [List.pairwise_cons] at hs
    have ht := hk t List.mem_cons_self
    have c' : ¬ (lesM n).contains (t, h) = true := by
      rw [List.contains_iff_mem, les_mem]
      omega
    unfold bay
    rw [if_neg c']
    have := bay_up (n := n) s t hs.2 hs.1
    simp only [List.cons_append]
    rw [this]
/-- behind some full bays the last things are in order -/
def tailUp (k : Nat) (r : List Int) : Prop := ∃ a s, r = a ++ s ∧ (a.length + k ≤ r.length ∨ a = []) ∧ s.Pairwise (· ≤ ·) ∧ ∀ x ∈ a, ∀ y ∈ s, x ≤ y
theorem tail_next {n k : Nat} {r : List Int} (hk : ∀ x ∈ r, 0 ≤ x ∧ x < (n : Int)) (h : tailUp k r) : tailUp (k + 1) (thM (lesM n) r) := by
  obtain ⟨a, s, rfl, len, hs, has⟩ := h
  cases a with
  | nil =>
    cases s with
    | nil => exact ⟨[], [], rfl, .inr rfl, .nil, by simp⟩
    | cons t s =>
      rw [List.pairwise_cons] at hs
      have e : thM (lesM n) ([] ++ t :: s) = t :: s := by
        unfold thM
        rw [List.nil_append]
        show (bay (lesM n) (some t) s).2 ++ (bay (lesM n) (some t) s).1.toList = _
        exact bay_up s t hs.2 hs.1
      rw [e]
      exact ⟨[], t :: s, rfl, .inr rfl, List.pairwise_cons.mpr hs, by simp⟩
  | cons t a =>
    have ht := hk t (by simp)
    obtain ⟨m, e1, e2, e3, e4, e5⟩ := bay_full (n := n) a t ht fun x hx => hk x (by simp [hx])
    have e : thM (lesM n) ((t :: a) ++ s) = (bay (lesM n) (some t) a).2 ++ m :: s := by
      unfold thM
      show (bay (lesM n) (some t) (a ++ s)).2 ++ (bay (lesM n) (some t) (a ++ s)).1.toList = _
      rw [bay_append, e1]
      simp only
      rw [List.append_assoc, bay_up s m hs fun y hy => ?_]
      have hm : m = t ∨ m ∈ a := by
        have p := bay_perm (lesM n) a (some t)
        rw [e1] at p
        have : m ∈ (some t).toList ++ a := p.mem_iff.mp (by simp)
        simpa using this
      rcases hm with rfl | hm
      · exact has m (by simp) y hy
      · exact has m (by simp [hm]) y hy
    have hm2 : ∀ y ∈ s, m ≤ y := fun y hy => by
      have p := bay_perm (lesM n) a (some t)
      rw [e1] at p
      have : m ∈ (some t).toList ++ a := p.mem_iff.mp (by simp)
      have : m = t ∨ m ∈ a := by simpa using this
      rcases this with rfl | hm
      · exact has m (by simp) y hy
      · exact has m (by simp [hm]) y hy
    rw [e]
    refine ⟨(bay (lesM n) (some t) a).2, m :: s, rfl, .inl ?_, List.pairwise_cons.mpr ⟨hm2, hs⟩, fun x hx y hy => ?_⟩
    · have bl := bay_length (lesM n) a (some t)
      rw [e1] at bl
      simp at bl len ⊢
      omega
    · rcases List.mem_cons.mp hy with rfl | hy
      · exact e5 x hx
      · exact Int.le_trans (e5 x hx) (hm2 y hy)
theorem tail_all {n : Nat} : ∀ (m : Nat) (r : List Int) (k : Nat), (∀ x ∈ r, 0 ≤ x ∧ x < (n : Int)) → tailUp k r → tailUp (k + m) (allM (List.replicate m (lesM n)) r)
  | 0, r, k, _, h => h
  | m + 1, r, k, hk, h => by
    have := tail_all m (thM (lesM n) r) (k + 1) (fun x hx => hk x ((thM_perm (lesM n) r).mem_iff.mp hx)) (tail_next hk h)
    rw [show k + (m + 1) = k + 1 + m by omega]
    exact this
theorem tail_up {k : Nat} {r : List Int} (h : tailUp k r) (le : r.length ≤ k + 1) : r.Pairwise (· ≤ ·) := by
  obtain ⟨a, s, rfl, len, hs, has⟩ := h
  rw [List.pairwise_append]
  refine ⟨?_, hs, has⟩
  match a with
  | [] => exact .nil
  | [x] => simp
  | x :: y :: t =>
    rcases len with len | len
    · simp at len le
      omega
    · cases len
theorem full_up {n m : Nat} {r : List Int} (hk : ∀ x ∈ r, 0 ≤ x ∧ x < (n : Int)) (le : r.length ≤ m + 1) : wrM (List.replicate m (lesM n)) r = false := by
  unfold wrM
  rw [Bool.not_eq_false', upB_iff, wholeM_all]
  have := tail_all m r 0 hk ⟨r, [], by simp, .inl (by simp), .nil, by simp⟩
  rw [Nat.zero_add] at this
  refine tail_up this ?_
  rw [allM_length]
  exact le
/-! ### one lesser thing among like ones -/
def rowHX (h x : Int) (a c : Nat) : List Int := List.replicate a h ++ x :: List.replicate c h
theorem bay_like (b : Bk) {h : Int} (irr : b.contains (h, h) = false) : ∀ (c : Nat), bay b (some h) (List.replicate c h) = (some h, List.replicate c h)
  | 0 => rfl
  | c + 1 => by
    rw [List.replicate_succ]
    unfold bay
    rw [if_neg (by rw [irr]; exact Bool.false_ne_true), bay_like b irr c]
theorem bay_past (b : Bk) {h x : Int} (p : b.contains (h, x) = true) : ∀ (c : Nat), bay b (some x) (List.replicate c h) = (some x, List.replicate c h)
  | 0 => rfl
  | c + 1 => by
    rw [List.replicate_succ]
    unfold bay
    rw [if_pos p, bay_past b p c]
theorem like_th {b : Bk} {h x : Int} (irr : b.contains (h, h) = false) (a c : Nat) : ∃ a' c', thM b (rowHX h x a c) = rowHX h x a' c' ∧ a ≤ a' + 1 ∧ (b.contains (x, h) = false → a ≤ a') ∧ a' + c' = a + c := by
  have tail : ∀ c, (bay b (some x) (List.replicate c h)).2 ++ (bay b (some x) (List.replicate c h)).1.toList = (if b.contains (h, x) = true then rowHX h x c 0 else rowHX h x 0 c) := fun c => by
    cases c with
    | zero => split <;> rfl
    | succ c =>
      by_cases p : b.contains (h, x) = true
      · rw [bay_past b p, if_pos p]
        simp [rowHX]
      · rw [if_neg p, List.replicate_succ]
        unfold bay
        rw [if_neg p, bay_like b irr c]
        simp only [rowHX, List.replicate_zero, List.nil_append, Option.toList, List.cons_append]
        rw [List.replicate_succ']
  cases a with
  | zero =>
    have e : thM b (rowHX h x 0 c) = (if b.contains (h, x) = true then rowHX h x c 0 else rowHX h x 0 c) := tail c
    rw [e]
    split
    · exact ⟨c, 0, rfl, by omega, fun _ => by omega, by omega⟩
    · exact ⟨0, c, rfl, by omega, fun _ => by omega, by omega⟩
  | succ a =>
    have e : thM b (rowHX h x (a + 1) c) = List.replicate a h ++ ((bay b (some h) (x :: List.replicate c h)).2 ++ (bay b (some h) (x :: List.replicate c h)).1.toList) := by
      unfold thM rowHX
      rw [List.replicate_succ, List.cons_append]
      show (bay b (some h) (List.replicate a h ++ x :: List.replicate c h)).2 ++ (bay b (some h) (List.replicate a h ++ x :: List.replicate c h)).1.toList = _
      rw [bay_append, bay_like b irr a]
      simp only [List.append_assoc]
    rw [e]
    unfold bay
    by_cases p : b.contains (x, h) = true
    · rw [if_pos p, bay_like b irr c]
      refine ⟨a, c + 1, ?_, by omega, fun z => absurd (p.symm.trans z) (by decide), by omega⟩
      simp only [rowHX, Option.toList, List.cons_append]
      rw [← List.replicate_succ']
    · rw [if_neg p]
      simp only [List.cons_append]
      rw [tail c]
      split
      · refine ⟨a + 1 + c, 0, ?_, by omega, fun _ => by omega, by omega⟩
        simp only [rowHX]
        rw [← List.cons_append, ← List.replicate_succ, ← List.append_assoc, List.replicate_append_replicate]
        congr 2
        omega
      · refine ⟨a + 1, c, ?_, by omega, fun _ => by omega, by omega⟩
        simp only [rowHX, List.replicate_zero, List.nil_append]
        rw [List.replicate_succ', List.append_assoc]
        rfl
theorem like_all {h x : Int} : ∀ (l : List Bk) (a c : Nat), (∀ b ∈ l, b.contains (h, h) = false) → ∃ a' c', allM l (rowHX h x a c) = rowHX h x a' c' ∧ a ≤ a' + l.length ∧ ((∃ b ∈ l, b.contains (x, h) = false) → a + 1 ≤ a' + l.length)
  | [], a, c, _ => ⟨a, c, rfl, by simp, fun ⟨b, hb, _⟩ => absurd hb (by simp)⟩
  | b :: l, a, c, irr => by
    obtain ⟨a1, c1, e1, le1, no1, _⟩ := like_th (x := x) (irr b List.mem_cons_self) a c
    obtain ⟨a2, c2, e2, le2, no2⟩ := like_all l a1 c1 fun d hd => irr d (List.mem_cons_of_mem _ hd)
    refine ⟨a2, c2, by show allM l (thM b _) = _; rw [e1, e2], by simp; omega, fun ⟨d, hd, nd⟩ => ?_⟩
    simp
    rcases List.mem_cons.mp hd with rfl | hd
    · have := no1 nd
      omega
    · have := no2 ⟨d, hd, nd⟩
      omega
theorem like_wr {l : List Bk} {h x : Int} {a : Nat} (irr : ∀ b ∈ l, b.contains (h, h) = false) (lt : x < h) (en : l.length < a ∨ (l.length ≤ a ∧ ∃ b ∈ l, b.contains (x, h) = false)) : wrM l (List.replicate a h ++ [x]) = true := by
  obtain ⟨a', c', e, le, no⟩ := like_all (x := x) l a 0 irr
  have a1 : 1 ≤ a' := by
    rcases en with z | ⟨z, y⟩
    · omega
    · have := no y
      omega
  unfold wrM
  rw [wholeM_all, show List.replicate a h ++ [x] = rowHX h x a 0 from rfl, e, Bool.not_eq_true', ← Bool.not_eq_true, upB_iff]
  intro z
  have := (List.pairwise_append.mp z).2.2 h (List.mem_replicate.mpr ⟨by omega, rfl⟩) x (by simp)
  omega
/-! ### books in order -/
structure OkD (n : Nat) (b : Bk) : Prop where
  k : ∀ p ∈ b, (0 ≤ p.1 ∧ p.1 < (n : Int)) ∧ (0 ≤ p.2 ∧ p.2 < (n : Int))
  a : b.Pairwise asP
  r : ∃ rk : Int → Int, ∀ p ∈ b, rk p.1 < rk p.2
theorem OkD.irr {n : Nat} {b : Bk} (o : OkD n b) (h : Int) : b.contains (h, h) = false := by
  obtain ⟨rk, hr⟩ := o.r
  rw [← Bool.not_eq_true, List.contains_iff_mem]
  intro z
  have := hr _ z
  simp only at this
  omega
theorem lacks_of {n : Nat} {b : Bk} (o : OkD n b) (ne : b ≠ lesM n) : ∃ x h : Int, 0 ≤ x ∧ x < h ∧ h < (n : Int) ∧ b.contains (x, h) = false := by
  by_cases c : ∃ x h : Int, 0 ≤ x ∧ x < h ∧ h < (n : Int) ∧ (x, h) ∉ b
  · obtain ⟨x, h, c1, c2, c3, c4⟩ := c
    exact ⟨x, h, c1, c2, c3, by rw [← Bool.not_eq_true, List.contains_iff_mem]; exact c4⟩
  · exfalso
    have all : ∀ x h : Int, 0 ≤ x → x < h → h < (n : Int) → (x, h) ∈ b := fun x h c1 c2 c3 => by
      by_cases q : (x, h) ∈ b
      · exact q
      · exact absurd ⟨x, h, c1, c2, c3, q⟩ c
    obtain ⟨rk, hr⟩ := o.r
    refine ne (asP_same o.a (cano_asc (n := n) (p := fun x h => decide (x < h))) fun p => ?_)
    obtain ⟨u, v⟩ := p
    rw [les_mem]
    constructor
    · intro hp
      obtain ⟨⟨k1, k2⟩, k3, k4⟩ := o.k _ hp
      have r1 := hr _ hp
      simp only at k1 k2 k3 k4 r1
      refine ⟨k1, ?_, k4⟩
      rcases Int.lt_trichotomy u v with z | z | z
      · exact z
      · subst z
        omega
      · have := hr _ (all v u k3 z k2)
        simp only at this
        omega
    · rintro ⟨k1, k2, k3⟩
      exact all u v k1 k2 k3
/-- what a line tells: the last number, and whether all its books are full -/
theorem lift_some {n : Nat} {l : List Bk} (n2 : 2 ≤ n) (o : ∀ b ∈ l, OkD n b) : ∃ r, fwM l n (l.length + 2) = some r ∧ 2 ≤ r.length ∧ r.length ≤ l.length + 2 ∧ (r.length = l.length + 2 ↔ ∀ b ∈ l, b = lesM n) := by
  have w1 : wrM l (List.replicate (l.length + 1) 1 ++ [0]) = true := like_wr (fun b hb => (o b hb).irr 1) (by decide) (.inl (by omega))
  have k1 : ∀ k ∈ List.replicate (l.length + 1) (1 : Int) ++ [0], 0 ≤ k ∧ k < (n : Int) := fun k hk => by
    rcases List.mem_append.mp hk with z | z
    · rw [List.eq_of_mem_replicate z]
      omega
    · rw [List.mem_singleton.mp z]
      omega
  obtain ⟨r, e, le⟩ := fw_of (many := l.length + 2) k1 w1 (by simp)
  refine ⟨r, e, fw_two e, by simpa using le, fun hl b hb => ?_, fun full => ?_⟩
  · by_cases c : b = lesM n
    · exact c
    · obtain ⟨x, h, c1, c2, c3, c4⟩ := lacks_of (o b hb) c
      have w2 : wrM l (List.replicate l.length h ++ [x]) = true := like_wr (fun b hb => (o b hb).irr h) c2 (.inr ⟨Nat.le_refl _, b, hb, c4⟩)
      have k2 : ∀ k ∈ List.replicate l.length h ++ [x], 0 ≤ k ∧ k < (n : Int) := fun k hk => by
        rcases List.mem_append.mp hk with z | z
        · rw [List.eq_of_mem_replicate z]
          omega
        · rw [List.mem_singleton.mp z]
          omega
      obtain ⟨r', e', le'⟩ := fw_of (many := l.length + 2) k2 w2 (by simp)
      rw [e] at e'
      cases e'
      simp at le'
      omega
  · have hl := (fw_in e)
    by_cases c : r.length ≤ l.length + 1
    · have el : l = List.replicate l.length (lesM n) := List.eq_replicate_of_mem full
      have w := hl.2.2
      rw [el, full_up hl.2.1 c] at w
      cases w
    · omega
theorem one_up {l : List Bk} {r : List Int} (hk : ∀ k ∈ r, 0 ≤ k ∧ k < ((1 : Nat) : Int)) : wrM l r = false := by
  unfold wrM
  rw [Bool.not_eq_false', upB_iff]
  refine List.pairwise_iff_forall_sublist.mpr fun {a b} s => ?_
  have ha := hk a ((whole_perm l r).mem_iff.mp (s.subset (by simp)))
  have hb := hk b ((whole_perm l r).mem_iff.mp (s.subset (by simp)))
  omega
theorem fw_one (l : List Bk) (many : Nat) : fwM l 1 many = none := by
  cases e : fwM l 1 many with
  | none => rfl
  | some r =>
    have := fw_in e
    rw [one_up this.2.1] at this
    exact absurd this.2.2 Bool.false_ne_true
end BM
namespace BM
/-! ### full bays alone: the first row that does not rise -/
theorem bay_pass {b : Bk} {h t : Int} {ts : List Int} (c : b.contains (t, h) = true) : bay b (some h) (t :: ts) = ((bay b (some h) ts).1, t :: (bay b (some h) ts).2) := by
  show (if b.contains (t, h) = true then _ else _) = _
  rw [if_pos c]
theorem bay_stop {b : Bk} {h t : Int} {ts : List Int} (c : ¬ b.contains (t, h) = true) : bay b (some h) (t :: ts) = ((bay b (some t) ts).1, h :: (bay b (some t) ts).2) := by
  show (if b.contains (t, h) = true then _ else _) = _
  rw [if_neg c]
theorem zero_step {n : Nat} {u v : List Int} (hk : ∀ x ∈ u ++ 0 :: v, 0 ≤ x ∧ x < (n : Int)) : ∃ u' v', thM (lesM n) (u ++ 0 :: v) = u' ++ 0 :: v' ∧ u'.length = u.length - 1 := by
  cases u with
  | nil =>
    cases v with
    | nil => exact ⟨[], [], rfl, rfl⟩
    | cons y v =>
      have hy := hk y (by simp)
      have c : ¬ (lesM n).contains (y, 0) = true := by
        rw [List.contains_iff_mem, les_mem]
        omega
      refine ⟨[], (bay (lesM n) (some y) v).2 ++ (bay (lesM n) (some y) v).1.toList, ?_, rfl⟩
      unfold thM
      show (bay (lesM n) (some 0) (y :: v)).2 ++ (bay (lesM n) (some 0) (y :: v)).1.toList = _
      rw [bay_stop c]
      rfl
  | cons t u =>
    have ht := hk t (by simp)
    obtain ⟨h, e1, _, e3, _, _⟩ := bay_full (n := n) u t ht fun x hx => hk x (by simp [hx])
    have bl := bay_length (lesM n) u (some t)
    rw [e1] at bl
    refine ⟨(bay (lesM n) (some t) u).2, (if (lesM n).contains (0, h) then (bay (lesM n) (some h) v).2 ++ (bay (lesM n) (some h) v).1.toList else (bay (lesM n) (some 0) v).2 ++ (bay (lesM n) (some 0) v).1.toList), ?_, by simp at bl ⊢; omega⟩
    unfold thM
    show (bay (lesM n) (some t) (u ++ 0 :: v)).2 ++ (bay (lesM n) (some t) (u ++ 0 :: v)).1.toList = _
    rw [bay_append, e1]
    simp only
    by_cases c : (lesM n).contains (0, h) = true
    · rw [if_pos c]
      rw [bay_pass c]
      simp
    · rw [if_neg c]
      have h0 : h = 0 := by
        rw [List.contains_iff_mem, les_mem] at c
        omega
      subst h0
      rw [bay_stop c]
      simp
theorem zero_front {n : Nat} : ∀ (m : Nat) (u v : List Int), (∀ x ∈ u ++ 0 :: v, 0 ≤ x ∧ x < (n : Int)) → u.length ≤ m → ∃ w, allM (List.replicate m (lesM n)) (u ++ 0 :: v) = 0 :: w
  | 0, u, v, hk, hu => by
    have : u = [] := List.length_eq_zero_iff.mp (by omega)
    subst this
    exact ⟨v, rfl⟩
  | m + 1, u, v, hk, hu => by
    obtain ⟨u', v', e, lu⟩ := zero_step hk
    have hk' : ∀ x ∈ u' ++ 0 :: v', 0 ≤ x ∧ x < (n : Int) := fun x hx => hk x ((thM_perm (lesM n) _).mem_iff.mp (by rw [e]; exact hx))
    obtain ⟨w, ew⟩ := zero_front m u' v' hk' (by omega)
    refine ⟨w, ?_⟩
    show allM (List.replicate m (lesM n)) (thM (lesM n) (u ++ 0 :: v)) = _
    rw [e, ew]
theorem zero_up {n m : Nat} {u v : List Int} (hk : ∀ x ∈ u ++ 0 :: v, 0 ≤ x ∧ x < (n : Int)) (hu : u.length ≤ m) (le : (u ++ 0 :: v).length ≤ m + 2) : wrM (List.replicate m (lesM n)) (u ++ 0 :: v) = false := by
  unfold wrM
  rw [Bool.not_eq_false', upB_iff]
  have pm := whole_perm (List.replicate m (lesM n)) (u ++ 0 :: v)
  rw [wholeM_all] at pm ⊢
  have := tail_all m _ 0 hk ⟨u ++ 0 :: v, [], by simp, .inl (by simp), .nil, by simp⟩
  rw [Nat.zero_add] at this
  obtain ⟨w, ew⟩ := zero_front m u v hk hu
  obtain ⟨a, s, e, len, hs, has⟩ := this
  rw [allM_length] at len
  rw [e] at pm ew ⊢
  rw [List.pairwise_append]
  refine ⟨?_, hs, has⟩
  match a with
  | [] => exact .nil
  | [x] => simp
  | [x, y] =>
    simp only [List.cons_append, List.cons.injEq] at ew
    have := hk y (pm.mem_iff.mp (by simp))
    simp
    omega
  | x :: y :: z :: t =>
    rcases len with len | len
    · simp at len le
      omega
    · cases len
theorem kinds_two {n : Nat} (n2 : 2 ≤ n) : ∃ ks, kindsI n = 0 :: 1 :: ks := by
  obtain ⟨k, rfl⟩ : ∃ k, n = k + 2 := ⟨n - 2, by omega⟩
  refine ⟨(List.range k).map fun i => ((i + 2 : Nat) : Int), ?_⟩
  unfold kindsI
  rw [List.range_succ_eq_map, List.range_succ_eq_map]
  simp [Function.comp_def]
  intros
  omega
theorem rows_ones {n : Nat} (n2 : 2 ≤ n) : ∀ k, ∃ as bs, rowsN n k = as ++ List.replicate k 1 :: bs ∧ ∀ g ∈ as, (0 : Int) ∈ g
  | 0 => ⟨[], [], rfl, by simp⟩
  | k + 1 => by
    obtain ⟨as, bs, e, h⟩ := rows_ones n2 k
    obtain ⟨ks, ek⟩ := kinds_two n2
    refine ⟨as.flatMap (extN n) ++ [List.replicate k 1 ++ [0]], (ks.map fun x => List.replicate k 1 ++ [x]) ++ bs.flatMap (extN n), ?_, ?_⟩
    · show (rowsN n k).flatMap (extN n) = _
      rw [e, List.flatMap_append, List.flatMap_cons]
      unfold extN
      rw [ek]
      simp [List.replicate_succ']
    · intro g hg
      rcases List.mem_append.mp hg with hg | hg
      · obtain ⟨x, hx, hg⟩ := List.mem_flatMap.mp hg
        obtain ⟨y, _, rfl⟩ := List.mem_map.mp hg
        exact List.mem_append_left _ (h x hx)
      · rw [List.mem_singleton.mp hg]
        simp
theorem full_none {n m : Nat} : fwM (List.replicate m (lesM n)) n (m + 1) = none := by
  cases e : fwM (List.replicate m (lesM n)) n (m + 1) with
  | none => rfl
  | some r =>
    have h := fw_in e
    rw [full_up h.2.1 h.1] at h
    exact absurd h.2.2 Bool.false_ne_true
theorem full_first {n m : Nat} (n2 : 2 ≤ n) : fwM (List.replicate m (lesM n)) n (m + 2) = some (List.replicate (m + 1) 1 ++ [0]) := by
  rw [fw_succ, full_none, Option.none_or]
  obtain ⟨as, bs, e, h⟩ := rows_ones n2 (m + 1)
  obtain ⟨ks, ek⟩ := kinds_two n2
  have irr : ∀ b ∈ List.replicate m (lesM n), b.contains ((1 : Int), (1 : Int)) = false := fun b hb => by
    rw [List.eq_of_mem_replicate hb, ← Bool.not_eq_true, List.contains_iff_mem, les_mem]
    omega
  have w := like_wr (l := List.replicate m (lesM n)) (h := 1) (x := 0) (a := m + 1) irr (by decide) (.inl (by simp))
  show ((rowsN n (m + 1)).flatMap (extN n)).find? _ = _
  have no : (as.flatMap (extN n)).find? (wrM (List.replicate m (lesM n))) = none := by
    rw [List.find?_eq_none]
    intro r hr
    obtain ⟨g, hg, hr⟩ := List.mem_flatMap.mp hr
    obtain ⟨x, hx, rfl⟩ := List.mem_map.mp hr
    have lg := rowsN_len (n := n) (m := m + 1) (r := g) (by rw [e]; exact List.mem_append_left _ hg)
    obtain ⟨u, v, rfl⟩ := List.append_of_mem (h g hg)
    have l1 := lg.1
    simp at l1
    rw [List.append_assoc, List.cons_append, zero_up (fun y hy => ?_) (by omega) (by simp; omega)]
    · exact Bool.false_ne_true
    · have hy : y ∈ (u ++ 0 :: v) ++ [x] := by simpa using hy
      rcases List.mem_append.mp hy with z | z
      · exact lg.2 y z
      · rw [List.mem_singleton.mp z]
        exact kin.mp hx
  rw [e, List.flatMap_append, List.find?_append, no, Option.none_or, List.flatMap_cons, List.find?_append]
  unfold extN
  rw [ek, List.map_cons, List.find?_cons, w]
  rfl
/-! ### an idle bay among full ones -/
theorem bay_idle : ∀ (ts : List Int) (h : Int), (bay [] (some h) ts).2 ++ (bay [] (some h) ts).1.toList = h :: ts
  | [], h => rfl
  | t :: ts, h => by
    unfold bay
    rw [if_neg (by simp)]
    simp only [List.cons_append]
    rw [bay_idle ts t]
theorem idle_th (r : List Int) : thM [] r = r := by
  cases r with
  | nil => rfl
  | cons t ts => exact bay_idle ts t
theorem idle_up {n p q : Nat} {r : List Int} (hk : ∀ x ∈ r, 0 ≤ x ∧ x < (n : Int)) (le : r.length ≤ p + q + 1) : wrM (List.replicate p (lesM n) ++ [] :: List.replicate q (lesM n)) r = false := by
  have := full_up (m := p + q) hk le
  unfold wrM at this ⊢
  rw [wholeM_all] at this ⊢
  rw [allM_append]
  rw [← List.replicate_append_replicate, allM_append] at this
  rw [show allM ([] :: List.replicate q (lesM n)) (allM (List.replicate p (lesM n)) r) = allM (List.replicate q (lesM n)) (thM [] (allM (List.replicate p (lesM n)) r)) from rfl, idle_th]
  exact this
theorem idle_none {n p q : Nat} : fwM (List.replicate p (lesM n) ++ [] :: List.replicate q (lesM n)) n (p + q + 1) = none := by
  cases e : fwM (List.replicate p (lesM n) ++ [] :: List.replicate q (lesM n)) n (p + q + 1) with
  | none => rfl
  | some r =>
    have h := fw_in e
    rw [idle_up h.2.1 h.1] at h
    exact absurd h.2.2 Bool.false_ne_true
end BM
namespace BM
/-! ## greater ones ahead, and a full bay -/
def upC (c : Int → Nat) (t : Int) : Int → Nat := fun x => c x + if x < t then 1 else 0
theorem upC_comm (c : Int → Nat) (s t : Int) : upC (upC c s) t = upC (upC c t) s := by
  funext x
  unfold upC
  omega
def ahF (c : Int → Nat) : List Int → List Nat
  | [] => []
  | t :: ts => c t :: ahF (upC c t) ts
def fkF (k : Int) (c : Int → Nat) : List Int → List Nat
  | [] => []
  | t :: ts => (if t = k then [c t] else []) ++ fkF k (upC c t) ts
abbrev c0 : Int → Nat := fun _ => 0
theorem fk_bay {n : Nat} (k : Int) : ∀ (ts : List Int) (h : Int) (c : Int → Nat), (0 ≤ h ∧ h < (n : Int)) → (∀ x ∈ ts, 0 ≤ x ∧ x < (n : Int)) → (∀ x, h ≤ x → c x = 0) →
    fkF k c ((bay (lesM n) (some h) ts).2 ++ (bay (lesM n) (some h) ts).1.toList) = (if h = k then [0] else []) ++ (fkF k (upC c h) ts).map (· - 1)
  | [], h, c, hh, _, hc => by
    show (if h = k then [c h] else []) ++ [] = _ ++ []
    rw [hc h (Int.le_refl _)]
  | t :: ts, h, c, hh, hk, hc => by
    have ht := hk t List.mem_cons_self
    have hts : ∀ x ∈ ts, 0 ≤ x ∧ x < (n : Int) := fun x hx => hk x (List.mem_cons_of_mem _ hx)
    by_cases p : t < h
    · have cc : (lesM n).contains (t, h) = true := by
        rw [List.contains_iff_mem, les_mem]
        omega
      rw [bay_pass cc]
      show (if t = k then [c t] else []) ++ fkF k (upC c t) ((bay (lesM n) (some h) ts).2 ++ (bay (lesM n) (some h) ts).1.toList) = _
      rw [fk_bay k ts h (upC c t) hh hts (fun x hx => by unfold upC; rw [hc x hx, if_neg (by omega)]), upC_comm]
      show _ = _ ++ (((if t = k then [upC c h t] else []) ++ fkF k (upC (upC c h) t) ts)).map (· - 1)
      have e : upC c h t = c t + 1 := by unfold upC; rw [if_pos p]
      rw [e, List.map_append]
      by_cases k1 : t = k
      · rw [if_pos k1, if_neg (by omega), if_pos k1]
        simp
      · rw [if_neg k1, if_neg k1]
        simp
    · have cc : ¬ (lesM n).contains (t, h) = true := by
        rw [List.contains_iff_mem, les_mem]
        omega
      rw [bay_stop cc]
      show (if h = k then [c h] else []) ++ fkF k (upC c h) ((bay (lesM n) (some t) ts).2 ++ (bay (lesM n) (some t) ts).1.toList) = _
      rw [hc h (Int.le_refl _), fk_bay k ts t (upC c h) ht hts (fun x hx => by unfold upC; rw [hc x (by omega), if_neg (by omega)])]
      show _ = _ ++ (((if t = k then [upC c h t] else []) ++ fkF k (upC (upC c h) t) ts)).map (· - 1)
      have e : upC c h t = 0 := by unfold upC; rw [hc t (by omega), if_neg p]
      rw [e, List.map_append]
      congr 2
      split <;> rfl
theorem fk_th {n : Nat} (k : Int) {r : List Int} (hk : ∀ x ∈ r, 0 ≤ x ∧ x < (n : Int)) : fkF k c0 (thM (lesM n) r) = (fkF k c0 r).map (· - 1) := by
  cases r with
  | nil => rfl
  | cons t ts =>
    have := fk_bay (n := n) k ts t c0 (hk t List.mem_cons_self) (fun x hx => hk x (List.mem_cons_of_mem _ hx)) fun _ _ => rfl
    show fkF k c0 ((bay (lesM n) (some t) ts).2 ++ (bay (lesM n) (some t) ts).1.toList) = ((if t = k then [0] else []) ++ fkF k (upC c0 t) ts).map (· - 1)
    rw [this, List.map_append]
    congr 1
    split <;> rfl
theorem ah_mem : ∀ (r : List Int) (c : Int → Nat) (a : Nat), a ∈ ahF c r ↔ ∃ k, a ∈ fkF k c r
  | [], c, a => by simp [ahF, fkF]
  | t :: ts, c, a => by
    show a ∈ c t :: ahF (upC c t) ts ↔ ∃ k, a ∈ (if t = k then [c t] else []) ++ fkF k (upC c t) ts
    rw [List.mem_cons, ah_mem ts (upC c t) a]
    constructor
    · rintro (rfl | ⟨k, h⟩)
      · exact ⟨t, by simp⟩
      · exact ⟨k, List.mem_append_right _ h⟩
    · rintro ⟨k, h⟩
      rcases List.mem_append.mp h with h | h
      · split at h
        · exact .inl (by simpa using h)
        · simp at h
      · exact .inr ⟨k, h⟩
def mxL (l : List Nat) : Nat := l.foldr max 0
theorem mxL_le : ∀ (l : List Nat) (b : Nat), mxL l ≤ b ↔ ∀ a ∈ l, a ≤ b
  | [], b => by simp [mxL]
  | x :: l, b => by
    show max x (mxL l) ≤ b ↔ _
    rw [Nat.max_le, mxL_le l b]
    simp
theorem mxL_mem : ∀ (l : List Nat), l ≠ [] → mxL l ∈ l
  | [x], _ => by simp [mxL]
  | x :: y :: l, _ => by
    show max x (mxL (y :: l)) ∈ x :: y :: l
    have := mxL_mem (y :: l) (by simp)
    rcases Nat.le_total x (mxL (y :: l)) with h | h
    · rw [Nat.max_eq_right h]
      exact List.mem_cons_of_mem _ this
    · rw [Nat.max_eq_left h]
      exact List.mem_cons_self
/-- the greatest of them, and nought -/
def mxA (r : List Int) : Nat := mxL (ahF c0 r)
theorem mx_th {n : Nat} {r : List Int} (hk : ∀ x ∈ r, 0 ≤ x ∧ x < (n : Int)) : mxA (thM (lesM n) r) = mxA r - 1 := by
  have key : ∀ b, mxA (thM (lesM n) r) ≤ b ↔ mxA r ≤ b + 1 := fun b => by
    unfold mxA
    rw [mxL_le, mxL_le]
    constructor
    · intro h a ha
      obtain ⟨k, ha⟩ := (ah_mem r c0 a).mp ha
      have := h (a - 1) ((ah_mem _ c0 _).mpr ⟨k, by rw [fk_th k hk]; exact List.mem_map.mpr ⟨a, ha, rfl⟩⟩)
      omega
    · intro h a ha
      obtain ⟨k, ha⟩ := (ah_mem _ c0 a).mp ha
      rw [fk_th k hk] at ha
      obtain ⟨a', ha', rfl⟩ := List.mem_map.mp ha
      have := h a' ((ah_mem r c0 a').mpr ⟨k, ha'⟩)
      omega
  have h1 := (key (mxA (thM (lesM n) r))).mp (Nat.le_refl _)
  have h2 := (key (mxA r - 1)).mpr (by omega)
  omega
theorem ah_zero : ∀ (r : List Int) (c : Int → Nat), (∀ a ∈ ahF c r, a = 0) ↔ (∀ x ∈ r, c x = 0) ∧ r.Pairwise (· ≤ ·)
  | [], c => by simp [ahF]
  | t :: ts, c => by
    show (∀ a ∈ c t :: ahF (upC c t) ts, a = 0) ↔ _
    rw [List.forall_mem_cons, ah_zero ts (upC c t), List.forall_mem_cons, List.pairwise_cons]
    constructor
    · rintro ⟨h1, h2, h3⟩
      refine ⟨⟨h1, fun x hx => ?_⟩, fun x hx => ?_, h3⟩
      · have := h2 x hx
        unfold upC at this
        omega
      · have := h2 x hx
        unfold upC at this
        by_cases c : x < t
        · rw [if_pos c] at this
          omega
        · omega
    · rintro ⟨⟨h1, h2⟩, h3, h4⟩
      refine ⟨h1, fun x hx => ?_, h4⟩
      unfold upC
      rw [h2 x hx, if_neg (by have := h3 x hx; omega)]
theorem mx_zero {r : List Int} : mxA r = 0 ↔ r.Pairwise (· ≤ ·) := by
  have h1 := mxL_le (ahF c0 r) 0
  have h2 := ah_zero r c0
  unfold mxA
  constructor
  · intro h
    exact (h2.mp fun a ha => Nat.le_zero.mp (h1.mp (by omega) a ha)).2
  · intro h
    exact Nat.le_zero.mp (h1.mpr fun a ha => by rw [h2.mpr ⟨fun _ _ => rfl, h⟩ a ha]; exact Nat.le_refl _)
theorem ah_len : ∀ (r : List Int) (c : Int → Nat), (ahF c r).length = r.length
  | [], c => rfl
  | t :: ts, c => congrArg (· + 1) (ah_len ts (upC c t))
theorem ah_lt : ∀ (r : List Int) (c : Int → Nat) (s : Nat), (∀ x, c x ≤ s) → ∀ a ∈ ahF c r, a + 1 ≤ s + r.length
  | [], c, s, h, a, ha => by simp [ahF] at ha
  | t :: ts, c, s, h, a, ha => by
    rcases List.mem_cons.mp ha with rfl | ha
    · have := h t
      simp
      omega
    · have := ah_lt ts (upC c t) (s + 1) (fun x => by unfold upC; have := h x; split <;> omega) a ha
      simp
      omega
theorem mx_len {r : List Int} (ne : r ≠ []) : mxA r + 1 ≤ r.length := by
  have := ah_lt r c0 0 (fun _ => Nat.le_refl _) (mxA r) (mxL_mem _ (by
    intro e
    have := ah_len r c0
    rw [e] at this
    exact ne (List.length_eq_zero_iff.mp this.symm)))
  omega
theorem fk_zip (k : Int) : ∀ (r : List Int) (c : Int → Nat), fkF k c r = (((ahF c r).zip r).filter fun p => decide (p.2 = k)).map (·.1)
  | [], c => rfl
  | t :: ts, c => by
    show (if t = k then [c t] else []) ++ fkF k (upC c t) ts = ((((c t, t) :: (ahF (upC c t) ts).zip ts)).filter fun p => decide (p.2 = k)).map (·.1)
    rw [List.filter_cons, fk_zip k ts (upC c t)]
    by_cases h : t = k <;> simp [h]
/-- how many greater ones are ahead of a place -/
def ahd (r : List Int) (p : Nat) : Nat := ((r.take p).filter fun x => decide (r.getD p 0 < x)).length
theorem ah_ahd : ∀ (r : List Int) (c : Int → Nat), ahF c r = (List.range r.length).map fun p => c (r.getD p 0) + ahd r p
  | [], c => rfl
  | t :: ts, c => by
    show c t :: ahF (upC c t) ts = _
    rw [ah_ahd ts (upC c t), List.length_cons, List.range_succ_eq_map, List.map_cons, List.map_map]
    congr 1
    refine List.map_congr_left fun p _ => ?_
    show upC c t (ts.getD p 0) + ahd ts p = c (ts.getD p 0) + ahd (t :: ts) (p + 1)
    unfold upC ahd
    rw [List.take_succ_cons, List.filter_cons, List.getD_cons_succ]
    generalize ts.getD p 0 = y
    by_cases h : y < t
    · simp [h]
      omega
    · simp [h]
theorem ah_places (r : List Int) : ahF c0 r = (List.range r.length).map (ahd r) := by
  rw [ah_ahd]
  exact List.map_congr_left fun p _ => Nat.zero_add _
theorem fk_places (k : Int) (r : List Int) : fkF k c0 r = (r.zipIdx.filter fun p => decide (p.1 = k)).map fun p => ahd r p.2 := by
  rw [fk_zip, ah_places, List.zipIdx_eq_zip_range']
  have : ∀ (ps : List Nat) (r' : List Int), ((((ps.map (ahd r)).zip r').filter fun p => decide (p.2 = k)).map (·.1)) = ((r'.zip ps).filter fun p => decide (p.1 = k)).map fun p => ahd r p.2 := fun ps => by
    induction ps with
    | nil => intro r'; simp
    | cons p ps ih =>
      intro r'
      cases r' with
      | nil => simp
      | cons x r' =>
        simp only [List.map_cons, List.zip_cons_cons, List.filter_cons]
        by_cases h : x = k
        · simp [h]
          simpa using ih r'
        · simp [h]
          simpa using ih r'
  rw [this, List.range_eq_range']
end BM
namespace DL
open PySem PySem.Spec L2
/-! ## keys of any depth, without texts -/
mutual
def nkD : NestedKey → PyData
  | .none => .none
  | .num i => .int i
  | .text x => .str x
  | .tup ks => .tuple (nkDs ks)
def nkDs : List NestedKey → List PyData
  | [] => []
  | k :: ks => nkD k :: nkDs ks
end
mutual
def plainK : NestedKey → Bool
  | .none => true
  | .num _ => true
  | .text _ => false
  | .tup ks => plainKs ks
def plainKs : List NestedKey → Bool
  | [] => true
  | k :: ks => plainK k && plainKs ks
end
mutual
def hash0 : NestedKey → Int
  | .none => reduceHash 0xFCA86420
  | .num i => hashInt i
  | .text _ => 0
  | .tup ks => reduceHash (Builtin.Tuple.tupleHashOf (hashes0 ks))
def hashes0 : List NestedKey → List Int
  | [] => []
  | k :: ks => hash0 k :: hashes0 ks
end
mutual
theorem hash_plain (w : World) : ∀ k : NestedKey, plainK k = true → k.hash w = hash0 k
  | .none, _ => rfl
  | .num i, _ => rfl
  | .text _, h => by simp [plainK] at h
  | .tup ks, h => by
    rw [plainK] at h
    rw [NestedKey.hash, hash0, hashes_plain w ks h]
theorem hashes_plain (w : World) : ∀ ks : List NestedKey, plainKs ks = true → NestedKey.hashes w ks = hashes0 ks
  | [], _ => rfl
  | k :: ks, h => by
    rw [plainKs, Bool.and_eq_true] at h
    rw [NestedKey.hashes, hashes0, hash_plain w k h.1, hashes_plain w ks h.2]
end
/-- a key that may be handed to a dict -/
def okNK (k : NestedKey) : Bool := plainK k && decide (k.depth ≤ 8)
/-- a dict with such keys, as one object: keys, where they stand, values -/
def KD (a : Addr) (es : List (NestedKey × Addr × V)) (ob : Obj) : HO := .ext fun h => es.length ≤ sizeLine ∧ (a == sysModules) = false ∧ ∃ xs : List (NestedKey × Addr × Value), Paired (fun (e : NestedKey × Addr × V) (x : NestedKey × Addr × Value) => e.1 = x.1 ∧ e.2.1 = x.2.1 ∧ RelV e.2.2 x.2.2) es xs ∧
  ∃ ds ep, h.get? a = some ob ∧ ob.ExactDict ∧ ob.data = .dict ds ep ∧ ds.toList = xs.map (fun x => (⟨hash0 x.1, .ref x.2.1, x.2.2⟩ : DictEntry)) ∧ (xs.map (·.1)).Nodup
/-- a new one -/
def ob0 : Obj := { cls := .type "dict", data := .dict #[] }
/-- what marks such a dict among the data: it is never shown -/
def kmark : PyData := .int (2 ^ 5000)
theorem kmark_show : kmark.showable = false := by decide +kernel
def kdd (ps : List (PyData × PyData)) : PyData := .dict ((.none, kmark) :: ps)
/-! ## data in a heap -/
def kD : Key → PyData
  | .inl i => .int i
  | .inr x => .str x
mutual
inductive Is (K : PySem.W.Frag) (G : Hp) : V → PyData → Prop
  | non : Is K G .non .none
  | bl (b : Bool) : Is K G (.bl b) (.bool b)
  | int (i : Int) : Is K G (.int i) (.int i)
  | str (x : Str) : Is K G (.str x) (.str x)
  | lst {a : Addr} {vs : List V} {ds : List PyData} (s : G a = some (.lst vs)) (h : Iss K G vs ds) : Is K G (.ref a) (.list ds)
  | tup {a : Addr} {vs : List V} {ds : List PyData} (s : SqT K G a vs) (h : Iss K G vs ds) : Is K G (.ref a) (.tuple ds)
  | dct {a : Addr} {kvs : List (Key × V)} {ps : List (PyData × PyData)} (s : G a = some (.dK kvs)) (h : Isd K G kvs ps) : Is K G (.ref a) (.dict ps)
  | kdt {a : Addr} {es : List (NestedKey × Addr × V)} {ps : List (PyData × PyData)} {ob : Obj} (s : G a = some (KD a es ob)) (h : Isn K G es ps) : Is K G (.ref a) (.dict ((.none, kmark) :: ps))
inductive Iss (K : PySem.W.Frag) (G : Hp) : List V → List PyData → Prop
  | nil : Iss K G [] []
  | cons {v : V} {vs : List V} {d : PyData} {ds : List PyData} (h : Is K G v d) (t : Iss K G vs ds) : Iss K G (v :: vs) (d :: ds)
inductive Isd (K : PySem.W.Frag) (G : Hp) : List (Key × V) → List (PyData × PyData) → Prop
  | nil : Isd K G [] []
  | cons {k : Key} {v : V} {kvs : List (Key × V)} {d : PyData} {ps : List (PyData × PyData)} (h : Is K G v d) (t : Isd K G kvs ps) : Isd K G ((k, v) :: kvs) ((kD k, d) :: ps)
inductive Isn (K : PySem.W.Frag) (G : Hp) : List (NestedKey × Addr × V) → List (PyData × PyData) → Prop
  | nil : Isn K G [] []
  | cons {k : NestedKey} {b : Addr} {v : V} {es : List (NestedKey × Addr × V)} {d : PyData} {ps : List (PyData × PyData)} (p : okNK k = true) (hk : Is K G (.ref b) (nkD k)) (h : Is K G v d) (t : Isn K G es ps) : Isn K G ((k, b, v) :: es) ((nkD k, d) :: ps)
end
abbrev Sub (G H : Hp) : Prop := Same G H
theorem Sub.seqT {K : PySem.W.Frag} {G G' : Hp} {a : Addr} {xs : List V} (e : Sub G G') (h : SqT K G a xs) : SqT K G' a xs := by
  rcases h with (h | ⟨o, h⟩) | h
  · exact .inl (.inl (e _ _ h))
  · exact .inl (.inr ⟨o, e _ _ h⟩)
  · exact .inr h
mutual
theorem Is.mono {K : PySem.W.Frag} {G G' : Hp} (e : Sub G G') : ∀ {v : V} {d : PyData}, Is K G v d → Is K G' v d
  | _, _, .non => .non
  | _, _, .bl b => .bl b
  | _, _, .int i => .int i
  | _, _, .str x => .str x
  | _, _, .lst s h => .lst (e _ _ s) (Iss.mono e h)
  | _, _, .tup s h => .tup (e.seqT s) (Iss.mono e h)
  | _, _, .dct s h => .dct (e _ _ s) (Isd.mono e h)
  | _, _, .kdt s h => .kdt (e _ _ s) (Isn.mono e h)
theorem Iss.mono {K : PySem.W.Frag} {G G' : Hp} (e : Sub G G') : ∀ {vs : List V} {ds : List PyData}, Iss K G vs ds → Iss K G' vs ds
  | _, _, .nil => .nil
  | _, _, .cons h t => .cons (Is.mono e h) (Iss.mono e t)
theorem Isd.mono {K : PySem.W.Frag} {G G' : Hp} (e : Sub G G') : ∀ {kvs : List (Key × V)} {ps : List (PyData × PyData)}, Isd K G kvs ps → Isd K G' kvs ps
  | _, _, .nil => .nil
  | _, _, .cons h t => .cons (Is.mono e h) (Isd.mono e t)
theorem Isn.mono {K : PySem.W.Frag} {G G' : Hp} (e : Sub G G') : ∀ {kvs : List (NestedKey × Addr × V)} {ps : List (PyData × PyData)}, Isn K G kvs ps → Isn K G' kvs ps
  | _, _, .nil => .nil
  | _, _, .cons p hk h t => .cons p (Is.mono e hk) (Is.mono e h) (Isn.mono e t)
end
section
variable {K : PySem.W.Frag} {G : Hp}
theorem Iss.length : ∀ {vs : List V} {ds : List PyData}, Iss K G vs ds → vs.length = ds.length
  | _, _, .nil => rfl
  | _, _, .cons _ t => congrArg (· + 1) (Iss.length t)
theorem Iss.append : ∀ {vs : List V} {ds : List PyData} {us : List V} {es : List PyData}, Iss K G vs ds → Iss K G us es → Iss K G (vs ++ us) (ds ++ es)
  | _, _, _, _, .nil, h => h
  | _, _, _, _, .cons h t, q => .cons h (Iss.append t q)
theorem Iss.get : ∀ {vs : List V} {ds : List PyData} {i : Nat} {d : PyData}, Iss K G vs ds → ds[i]? = some d → ∃ v, vs[i]? = some v ∧ Is K G v d
  | _, _, 0, _, .cons h _, e => ⟨_, rfl, by simp at e; subst e; exact h⟩
  | _, _, i + 1, _, .cons _ t, e => by
    obtain ⟨v, h1, h2⟩ := Iss.get (i := i) t (by simpa using e)
    exact ⟨v, by simpa using h1, h2⟩
theorem Iss.getV : ∀ {vs : List V} {ds : List PyData} {i : Nat} {v : V}, Iss K G vs ds → vs[i]? = some v → ∃ d, ds[i]? = some d ∧ Is K G v d
  | _, _, 0, _, .cons h _, e => ⟨_, rfl, by simp at e; subst e; exact h⟩
  | _, _, i + 1, _, .cons _ t, e => by
    obtain ⟨v, h1, h2⟩ := Iss.getV (i := i) t (by simpa using e)
    exact ⟨v, by simpa using h1, h2⟩
theorem Iss.take : ∀ {vs : List V} {ds : List PyData} (n : Nat), Iss K G vs ds → Iss K G (vs.take n) (ds.take n)
  | _, _, 0, _ => .nil
  | _, _, _ + 1, .nil => .nil
  | _, _, n + 1, .cons h t => .cons h (Iss.take n t)
theorem Iss.drop : ∀ {vs : List V} {ds : List PyData} (n : Nat), Iss K G vs ds → Iss K G (vs.drop n) (ds.drop n)
  | _, _, 0, h => h
  | _, _, _ + 1, .nil => .nil
  | _, _, n + 1, .cons _ t => Iss.drop n t
theorem Iss.ints : ∀ ns : List Int, Iss K G (ns.map V.int) (ns.map PyData.int)
  | [] => .nil
  | n :: r => .cons (.int n) (Iss.ints r)
theorem Iss.set {v : V} {d : PyData} (h : Is K G v d) : ∀ {vs : List V} {ds : List PyData} (i : Nat), Iss K G vs ds → Iss K G (vs.set i v) (ds.set i d)
  | _, _, _, .nil => .nil
  | _, _, 0, .cons _ t => .cons h t
  | _, _, i + 1, .cons q t => .cons q (Iss.set h i t)
end
/-! ## slots -/
/-- the script's row, or a range -/
inductive Sc where
  | ls (ns : List Int)
  | rg (lo hi : Int)
instance : Coe (List Int) Sc := ⟨.ls⟩
def ScOk (K : PySem.W.Frag) (G : Hp) (a : Addr) : Sc → Prop
  | .ls ns => SqL K G a (ns.map V.int)
  | .rg lo hi => G a = some (.rng lo hi)
theorem ScOk.mono {K : PySem.W.Frag} {G G' : Hp} {a : Addr} (e : Sub G G') : ∀ {x : Sc}, ScOk K G a x → ScOk K G' a x
  | .ls _, h => Same.seq e h
  | .rg _ _, h => e _ _ h
inductive Sl where
  | un
  | d (x : PyData)
  | own (x : PyData)
  | loom
  | scr (x : Sc)
abbrev Sls := List Sl
abbrev WK := PyData → Sls → Prop
abbrev WE := Sls → WK → Prop
/-- an owned cell: its own object in the heap, what it holds in the part that stays -/
inductive Own1 (K : PySem.W.Frag) (G : Hp) (a : Addr) : HO → PyData → Prop
  | lst {vs : List V} {ds : List PyData} (h : Iss K G vs ds) : Own1 K G a (.lst vs) (.list ds)
  | dct {kvs : List (Key × V)} {ps : List (PyData × PyData)} (h : Isd K G kvs ps) : Own1 K G a (.dK kvs) (.dict ps)
  | kdt {es : List (NestedKey × Addr × V)} {ps : List (PyData × PyData)} {ob : Obj} (h : Isn K G es ps) : Own1 K G a (KD a es ob) (.dict ((.none, kmark) :: ps))
theorem Own1.mono {K : PySem.W.Frag} {G G' : Hp} {a : Addr} (e : Sub G G') {o : HO} {x : PyData} : Own1 K G a o x → Own1 K G' a o x
  | .lst h => .lst (h.mono e)
  | .dct h => .dct (h.mono e)
  | .kdt h => .kdt (h.mono e)
theorem Own1.is {K : PySem.W.Frag} {G : Hp} {a : Addr} {o : HO} {x : PyData} (s : G a = some o) : Own1 K G a o x → Is K G (.ref a) x
  | .lst h => .lst s h
  | .dct h => .dct s h
  | .kdt h => .kdt s h
structure Bs where
  H0 : Hp
  G0 : Hp
  fp : List Addr
  la : Addr := 0
  has : Bool := false
end DL
namespace DL
open PySem PySem.Spec L2
/-- a resource that defs hand on and change: what is true of it hangs on its own addresses alone -/
structure Res where
  ok : Hp → Addr → List Addr → Prop
  loc : ∀ H H' a fp, (∀ b ∈ fp, H' b = H b) → ok H a fp → ok H' a fp
  there : ∀ H a fp, ok H a fp → ∀ b ∈ fp, H b ≠ none
  rd : ∀ H a fp, ok H a fp → a ∈ fp
  xw : Value → Option Addr → L2.St → Hp → Prop := fun _ _ _ _ => True
/-- nothing is asked where an exception leaves -/
class Plain (R : Res) : Prop where
  xw : ∀ c d σ H, R.xw c d σ H
/-- the resource in hand: where it stands, what is its own -/
structure LoomAt (R : Res) (B : Bs) (G : Hp) (ρ : Sls) (σ : L2.St) (H : Hp) (la : Addr) (fp : List Addr) : Prop where
  pl : ∀ (i : Nat), ρ[i]? = some .loom → σ[i]? = some (some (.ref la))
  ok : ((∃ i : Nat, ρ[i]? = some .loom) ∨ B.has = true) → R.ok H la fp
  pf : ∀ b ∈ fp, G b = none ∧ H b ≠ none ∧ (B.H0 b = none ∨ b ∈ B.fp) ∧ ∀ (j : Nat) (y : PyData), ρ[j]? = some (.own y) → σ[j]? ≠ some (some (.ref b))
  tie : B.has = true → la = B.la ∧ fp = B.fp
structure Rel (R : Res) (K : PySem.W.Frag) (B : Bs) (G : Hp) (ρ : Sls) (σ : L2.St) (H : Hp) : Prop where
  sub : Sub G H
  len : ρ.length = σ.length
  g0 : Sub B.G0 G
  new : ∀ b, B.H0 b ≠ none → G b ≠ none → B.G0 b ≠ none
  fr : ∀ b o, B.H0 b = some o → b ∉ B.fp → H b = some o
  fp0 : ∀ b ∈ B.fp, G b = none ∧ B.H0 b ≠ none ∧ H b ≠ none
  d : ∀ (i : Nat) (x : PyData), ρ[i]? = some (.d x) → ∃ v, σ[i]? = some (some v) ∧ Is K G v x
  s : ∀ (i : Nat) (x : Sc), ρ[i]? = some (.scr x) → ∃ a, σ[i]? = some (some (.ref a)) ∧ ScOk K G a x
  o : ∀ (i : Nat) (x : PyData), ρ[i]? = some (.own x) → ∃ a ho, σ[i]? = some (some (.ref a)) ∧ G a = none ∧ B.H0 a = none ∧ H a = some ho ∧ Own1 K G a ho x ∧ ∀ (j : Nat) (y : PyData), ρ[j]? = some (.own y) → σ[j]? = some (some (.ref a)) → j = i
  l : ∃ la fp, LoomAt R B G ρ σ H la fp
section
variable {R : Res} {K : PySem.W.Frag} {B : Bs} {G : Hp} {ρ : Sls} {σ : L2.St} {H : Hp}
theorem upd_new {G : Hp} {a : Addr} {ho : HO} (n : G a = none) : Sub G (upd G a ho) := fun b o e => by
  rw [upd_ne (ne_of_none e n)]
  exact e
/-- the owned cell of a slot is let go: nobody writes it any more -/
theorem Rel.freeze (r : Rel R K B G ρ σ H) {i : Nat} {x : PyData} (h : ρ[i]? = some (.own x)) : ∃ v G', Sub G G' ∧ σ[i]? = some (some v) ∧ Is K G' v x ∧ Rel R K B G' (ρ.set i (.d x)) σ H := by
  obtain ⟨a, ho, e1, e2, e3, e4, e5, e6⟩ := r.o i x h
  have hil : i < ρ.length := (List.getElem?_eq_some_iff.mp h).1
  have sg : Sub G (upd G a ho) := upd_new e2
  have isx : Is K (upd G a ho) (.ref a) x := (e5.mono sg).is upd_same
  have own_ne : ∀ (j : Nat) (y : PyData), (ρ.set i (.d x))[j]? = some (.own y) → j ≠ i ∧ ρ[j]? = some (.own y) := fun j y e => by
    by_cases hj : i = j
    · subst hj
      rw [List.getElem?_set_self hil] at e
      cases e
    · rw [List.getElem?_set_ne hj] at e
      exact ⟨fun z => hj z.symm, e⟩
  refine ⟨.ref a, upd G a ho, sg, e1, isx, ?_⟩
  refine ⟨fun b o e => ?_, by rw [List.length_set]; exact r.len, fun b o e => sg _ _ (r.g0 b o e), fun b h1 h2 => ?_, r.fr, fun b hb => ?_, fun j y e => ?_, fun j y e => ?_, fun j y e => ?_, ?_⟩
  · by_cases hb : b = a
    · subst hb
      rw [upd_same] at e
      cases e
      exact e4
    · rw [upd_ne hb] at e
      exact r.sub b o e
  · by_cases hb : b = a
    · subst hb
      exact absurd e3 h1
    · rw [upd_ne hb] at h2
      exact r.new b h1 h2
  · by_cases hba : b = a
    · subst hba
      exact absurd e3 (r.fp0 b hb).2.1
    · rw [upd_ne hba]
      exact r.fp0 b hb
  · by_cases hj : i = j
    · subst hj
      rw [List.getElem?_set_self hil] at e
      cases e
      exact ⟨.ref a, e1, isx⟩
    · rw [List.getElem?_set_ne hj] at e
      obtain ⟨v, q1, q2⟩ := r.d j y e
      exact ⟨v, q1, q2.mono sg⟩
  · by_cases hj : i = j
    · subst hj
      rw [List.getElem?_set_self hil] at e
      cases e
    · rw [List.getElem?_set_ne hj] at e
      obtain ⟨a', q1, q2⟩ := r.s j y e
      exact ⟨a', q1, q2.mono sg⟩
  · obtain ⟨nj, e'⟩ := own_ne j y e
    obtain ⟨a', ho', q1, q2, q3, q4, q5, q6⟩ := r.o j y e'
    have na : a' ≠ a := fun z => by
      subst z
      exact nj (e6 j y e' q1)
    exact ⟨a', ho', q1, by rw [upd_ne na]; exact q2, q3, q4, q5.mono sg, fun l z h1 h2 => q6 l z (own_ne l z h1).2 h2⟩
  · obtain ⟨la, fp, q⟩ := r.l
    have lo : ∀ (j : Nat), (ρ.set i (.d x))[j]? = some .loom → ρ[j]? = some .loom := fun j e => by
      by_cases hj : i = j
      · subst hj
        rw [List.getElem?_set_self hil] at e
        cases e
      · rw [List.getElem?_set_ne hj] at e
        exact e
    refine ⟨la, fp, fun j e => q.pl j (lo j e), fun z => q.ok (z.imp (fun ⟨j, e⟩ => ⟨j, lo j e⟩) id), fun b hb => ?_, q.tie⟩
    obtain ⟨z1, z0, z2, z3⟩ := q.pf b hb
    have nb : b ≠ a := fun z => by
      subst z
      exact z3 i x h e1
    exact ⟨by rw [upd_ne nb]; exact z1, z0, z2, fun j y e => z3 j y (own_ne j y e).2⟩
end
end DL
namespace DL
open PySem PySem.Spec L2
/-! ## new objects -/
section
variable {R : Res} {K : PySem.W.Frag} {B : Bs} {G : Hp} {ρ : Sls} {σ : L2.St} {H : Hp}
theorem Sub.laid {G H : Hp} {p : Addr} {o : HO} (s : Sub G H) (n : H p = none) : Sub (upd G p o) (upd H p o) := fun b u e => by
  by_cases hb : b = p
  · subst hb
    rw [upd_same] at e ⊢
    exact e
  · rw [upd_ne hb] at e ⊢
    exact s b u e
theorem Sub.up {G H : Hp} {p : Addr} {o : HO} (s : Sub G H) (n : G p = none) : Sub G (upd H p o) := fun b u e => by
  rw [upd_ne (ne_of_none e n)]
  exact s b u e
/-- a new object that stays as it is -/
theorem Rel.laid (r : Rel R K B G ρ σ H) {p : Addr} {o : HO} (n : H p = none) : Rel R K B (upd G p o) ρ σ (upd H p o) := by
  have gn : G p = none := r.sub.free n
  have sg : Sub G (upd G p o) := upd_new gn
  have hne : ∀ b u, H b = some u → b ≠ p := fun b u e => ne_of_none e n
  refine ⟨r.sub.laid n, r.len, fun b u e => sg _ _ (r.g0 b u e), fun b h1 h2 => ?_, fun b u e hb => ?_, fun b hb => ?_, fun i x e => ?_, fun i x e => ?_, fun i x e => ?_, ?_⟩
  · by_cases hb : b = p
    · subst hb
      cases q : B.H0 b with
      | none => exact absurd q h1
      | some u =>
        by_cases hf : b ∈ B.fp
        · exact absurd n (r.fp0 b hf).2.2
        · have := r.fr b u q hf
          rw [n] at this
          cases this
    · rw [upd_ne hb] at h2
      exact r.new b h1 h2
  · have q := r.fr b u e hb
    rw [upd_ne (hne b u q)]
    exact q
  · have hb' : b ≠ p := fun z => (r.fp0 b hb).2.2 (by rw [z]; exact n)
    rw [upd_ne hb', upd_ne hb']
    exact r.fp0 b hb
  · obtain ⟨v, e1, e2⟩ := r.d i x e
    exact ⟨v, e1, e2.mono sg⟩
  · obtain ⟨a, q1, q2⟩ := r.s i x e
    exact ⟨a, q1, q2.mono sg⟩
  · obtain ⟨a, ho, e1, e2, e3, e4, e5, e6⟩ := r.o i x e
    have na := hne a ho e4
    exact ⟨a, ho, e1, by rw [upd_ne na]; exact e2, e3, by rw [upd_ne na]; exact e4, e5.mono sg, e6⟩
  · obtain ⟨la, fp, q⟩ := r.l
    have nb : ∀ b ∈ fp, b ≠ p := fun b hb z => (q.pf b hb).2.1 (by rw [z]; exact n)
    refine ⟨la, fp, q.pl, fun z => R.loc H _ la fp (fun b hb => upd_ne (nb b hb)) (q.ok z), fun b hb => ?_, q.tie⟩
    rw [upd_ne (nb b hb), upd_ne (nb b hb)]
    exact q.pf b hb
end
end DL
namespace DL
open PySem PySem.Spec L2
section
variable {R : Res} {K : PySem.W.Frag} {B : Bs} {G : Hp} {ρ : Sls} {σ : L2.St} {H : Hp}
/-- a new object that is not (yet) part of what stays -/
theorem Rel.up (r : Rel R K B G ρ σ H) {p : Addr} {o : HO} (n : H p = none) : Rel R K B G ρ σ (upd H p o) := by
  have gn : G p = none := r.sub.free n
  have hne : ∀ b u, H b = some u → b ≠ p := fun b u e => ne_of_none e n
  refine ⟨r.sub.up gn, r.len, r.g0, r.new, fun b u e hb => ?_, fun b hb => ?_, r.d, r.s, fun i x e => ?_, ?_⟩
  · have q := r.fr b u e hb
    rw [upd_ne (hne b u q)]
    exact q
  · have hb' : b ≠ p := fun z => (r.fp0 b hb).2.2 (by rw [z]; exact n)
    rw [upd_ne hb']
    exact r.fp0 b hb
  · obtain ⟨a, ho, e1, e2, e3, e4, e5, e6⟩ := r.o i x e
    have na := hne a ho e4
    exact ⟨a, ho, e1, e2, e3, by rw [upd_ne na]; exact e4, e5, e6⟩
  · obtain ⟨la, fp, q⟩ := r.l
    have nb : ∀ b ∈ fp, b ≠ p := fun b hb z => (q.pf b hb).2.1 (by rw [z]; exact n)
    refine ⟨la, fp, q.pl, fun z => R.loc H _ la fp (fun b hb => upd_ne (nb b hb)) (q.ok z), fun b hb => ?_, q.tie⟩
    rw [upd_ne (nb b hb)]
    exact q.pf b hb
/-- what stands nowhere but at a fresh place was not there at the entry -/
theorem Rel.h0 (r : Rel R K B G ρ σ H) {p : Addr} (n : H p = none) : B.H0 p = none := by
  cases q : B.H0 p with
  | none => rfl
  | some u =>
    by_cases hf : p ∈ B.fp
    · exact absurd n (r.fp0 p hf).2.2
    · have := r.fr p u q hf
      rw [n] at this
      cases this
end
/-! ## data that can be read: in what stays, or an owned cell -/
inductive IsH (K : PySem.W.Frag) (G H : Hp) : V → PyData → Prop
  | non : IsH K G H .non .none
  | bl (b : Bool) : IsH K G H (.bl b) (.bool b)
  | int (i : Int) : IsH K G H (.int i) (.int i)
  | str (x : Str) : IsH K G H (.str x) (.str x)
  | lst {a : Addr} {vs : List V} {ds : List PyData} (s : H a = some (.lst vs)) (h : Iss K G vs ds) : IsH K G H (.ref a) (.list ds)
  | tup {a : Addr} {vs : List V} {ds : List PyData} (s : SqT K G a vs) (h : Iss K G vs ds) : IsH K G H (.ref a) (.tuple ds)
  | dct {a : Addr} {kvs : List (Key × V)} {ps : List (PyData × PyData)} (s : H a = some (.dK kvs)) (h : Isd K G kvs ps) : IsH K G H (.ref a) (.dict ps)
  | kdt {a : Addr} {es : List (NestedKey × Addr × V)} {ps : List (PyData × PyData)} {ob : Obj} (s : H a = some (KD a es ob)) (h : Isn K G es ps) : IsH K G H (.ref a) (.dict ((.none, kmark) :: ps))
theorem Is.h {K : PySem.W.Frag} {G H : Hp} (s : Sub G H) {v : V} {d : PyData} : Is K G v d → IsH K G H v d
  | .non => .non
  | .bl b => .bl b
  | .int i => .int i
  | .str x => .str x
  | .lst q h => .lst (s _ _ q) h
  | .tup q h => .tup q h
  | .dct q h => .dct (s _ _ q) h
  | .kdt q h => .kdt (s _ _ q) h
theorem Own1.h {K : PySem.W.Frag} {G H : Hp} {a : Addr} {o : HO} {x : PyData} (s : H a = some o) : Own1 K G a o x → IsH K G H (.ref a) x
  | .lst h => .lst s h
  | .dct h => .dct s h
  | .kdt h => .kdt s h
/-- the data of a slot -/
@[simp] def rdS (ρ : Sls) (i : Nat) : Option PyData := match ρ[i]? with
  | some (.d x) => some x
  | some (.own x) => some x
  | _ => none
theorem Rel.rd {R : Res} {K : PySem.W.Frag} {B : Bs} {G : Hp} {ρ : Sls} {σ : L2.St} {H : Hp} (r : Rel R K B G ρ σ H) {i : Nat} {x : PyData} (h : rdS ρ i = some x) : ∃ v, σ[i]? = some (some v) ∧ IsH K G H v x := by
  unfold rdS at h
  split at h
  · rename_i y e
    cases h
    obtain ⟨v, e1, e2⟩ := r.d i x e
    exact ⟨v, e1, e2.h r.sub⟩
  · rename_i y e
    cases h
    obtain ⟨a, ho, e1, _, _, e4, e5, _⟩ := r.o i x e
    exact ⟨.ref a, e1, e5.h e4⟩
  · cases h
/-! ## judgements -/
def liftE (R : Res) (K : PySem.W.Frag) (B : Bs) (w : WE) : TE := fun σ H Q => ∃ ρ G, Rel R K B G ρ σ H ∧ w ρ fun d ρ' => ∀ v G' H', Sub G G' → Rel R K B G' ρ' σ H' → Is K G' v d → Q v H'
def MonoE (w : WE) : Prop := ∀ (ρ : Sls) (Q Q' : WK), (∀ d ρ', Q d ρ' → Q' d ρ') → w ρ Q → w ρ Q'
structure SE (R : Res) (X : Cx) (e : Expr) (w : WE) : Prop where
  pe : ∀ B, PE X e (liftE R X.K B w)
  mono : MonoE w
theorem PE.imp {X : Cx} {e : Expr} {t t' : TE} (h : PE X e t) (f : ∀ σ H Q, t' σ H Q → t σ H Q) : PE X e t' :=
  ⟨fun pins s σ H Q I q => h.run pins s σ H Q I (f σ H Q q)⟩
theorem PT.imp {X : Cx} {e : Expr} {t t' : TT} (h : PT X e t) (f : ∀ σ H Q, t' σ H Q → t σ H Q) : PT X e t' :=
  ⟨fun pins s σ H Q I q => h.run pins s σ H Q I (f σ H Q q)⟩
theorem PS.imp {X : Cx} {st : Stmt} {t t' : TS} (h : PS X st t) (f : ∀ D σ H, t' D σ H → t D σ H) : PS X st t' :=
  ⟨fun pins s σ H D I q => h.run pins s σ H D I (f D σ H q)⟩
theorem PSs.imp {X : Cx} {st : List Stmt} {t t' : TS} (h : PSs X st t) (f : ∀ D σ H, t' D σ H → t D σ H) : PSs X st t' :=
  ⟨fun pins s σ H D I q => h.run pins s σ H D I (f D σ H q)⟩
theorem PA.imp {X : Cx} {es : List Expr} {t t' : TA} (h : PA X es t) (f : ∀ σ H Q, t' σ H Q → t σ H Q) : PA X es t' :=
  ⟨fun pos pins s σ H Q I q => h.run pos pins s σ H Q I (f σ H Q q)⟩
/-- an operand that is only read: a slot (read when the operation is done), or an expression's value -/
inductive Od where
  | s (i : Nat)
  | v (w : WE)
@[simp] def Od.run : Od → Sls → ((Sls → Option PyData) → Sls → Prop) → Prop
  | .s i, ρ, Q => (∃ x, rdS ρ i = some x) ∧ Q (fun ρ' => rdS ρ' i) ρ
  | .v w, ρ, Q => w ρ fun d ρ' => Q (fun _ => some d) ρ'
def Od.Mono : Od → Prop
  | .s _ => True
  | .v w => MonoE w
theorem Od.Mono.run {o : Od} (m : o.Mono) {ρ : Sls} {Q Q' : (Sls → Option PyData) → Sls → Prop} (f : ∀ g ρ', Q g ρ' → Q' g ρ') (h : o.run ρ Q) : o.run ρ Q' := by
  cases o with
  | s i => exact ⟨h.1, f _ _ h.2⟩
  | v w => exact m ρ _ _ (fun d ρ' q => f _ _ q) h
def liftO (R : Res) (K : PySem.W.Frag) (B : Bs) : Od → TE
  | .s i => tVar i
  | .v w => liftE R K B w
structure SO (R : Res) (X : Cx) (e : Expr) (o : Od) : Prop where
  pe : ∀ B, PE X e (liftO R X.K B o)
  mono : o.Mono
/-- how the operand's value is told, as long as what stays stays -/
def OdIs (K : PySem.W.Frag) (G : Hp) (σ : L2.St) (o : Od) (g : Sls → Option PyData) (v : V) : Prop :=
  match o with
  | .s i => σ[i]? = some (some v) ∧ g = fun ρ' => rdS ρ' i
  | .v _ => ∃ d, Is K G v d ∧ g = fun _ => some d
theorem OdIs.mono {K : PySem.W.Frag} {G G' : Hp} {σ : L2.St} {o : Od} {g : Sls → Option PyData} {v : V} (e : Sub G G') (h : OdIs K G σ o g v) : OdIs K G' σ o g v := by
  cases o with
  | s i => exact h
  | v w =>
    obtain ⟨d, h1, h2⟩ := h
    exact ⟨d, h1.mono e, h2⟩
theorem OdIs.at {R : Res} {K : PySem.W.Frag} {B : Bs} {G : Hp} {ρ : Sls} {σ : L2.St} {H : Hp} {o : Od} {g : Sls → Option PyData} {v : V} {x : PyData} (h : OdIs K G σ o g v) (r : Rel R K B G ρ σ H) (e : g ρ = some x) : IsH K G H v x := by
  cases o with
  | s i =>
    obtain ⟨h1, rfl⟩ := h
    obtain ⟨v', e1, e2⟩ := r.rd e
    rw [h1] at e1
    cases e1
    exact e2
  | v w =>
    obtain ⟨d, h1, rfl⟩ := h
    cases e
    exact h1.h r.sub
/-- THE STEP of an operand -/
theorem od_step {R : Res} {K : PySem.W.Frag} {B : Bs} {G : Hp} {ρ : Sls} {σ : L2.St} {H : Hp} {o : Od} {Q : VK} (m : o.Mono) (r : Rel R K B G ρ σ H) {P : (Sls → Option PyData) → Sls → Prop} (h : o.run ρ P)
    (f : ∀ g ρ' v G' H', Sub G G' → Rel R K B G' ρ' σ H' → OdIs K G' σ o g v → P g ρ' → Q v H') : liftO R K B o σ H Q := by
  cases o with
  | s i =>
    obtain ⟨⟨x, hx⟩, h⟩ := h
    obtain ⟨v, e, _⟩ := r.rd hx
    exact ⟨v, e, f _ ρ v G H (Same.refl G) r ⟨e, rfl⟩ h⟩
  | v w => exact ⟨ρ, G, r, m ρ _ _ (fun d ρ' q v G' H' s r' i => f _ ρ' v G' H' s r' ⟨d, i, rfl⟩ q) h⟩
end DL
namespace DL
open PySem PySem.Spec L2
/-! ## operations -/
abbrev D1 := PyData → (PyData → Prop) → Prop
abbrev D2 := PyData → PyData → (PyData → Prop) → Prop
def Aft (R : Res) (K : PySem.W.Frag) (B : Bs) (G : Hp) (ρ : Sls) (σ : L2.St) (Q : VK) (z : PyData) : Prop := ∀ v G' H', Sub G G' → Rel R K B G' ρ σ H' → Is K G' v z → Q v H'
structure Lk2 (R : Res) (K : PySem.W.Frag) (r : R2) (f : D2) : Prop where
  to : ∀ (B : Bs) (G : Hp) (ρ : Sls) (σ : L2.St) (H : Hp) (v u : V) (x y : PyData) (Q : VK), Rel R K B G ρ σ H → IsH K G H v x → IsH K G H u y → f x y (Aft R K B G ρ σ Q) → r v u H Q
  mono : ∀ x y (q q' : PyData → Prop), (∀ z, q z → q' z) → f x y q → f x y q'
structure Lk1 (R : Res) (K : PySem.W.Frag) (r : V → Hp → VK → Prop) (f : D1) : Prop where
  to : ∀ (B : Bs) (G : Hp) (ρ : Sls) (σ : L2.St) (H : Hp) (v : V) (x : PyData) (Q : VK), Rel R K B G ρ σ H → IsH K G H v x → f x (Aft R K B G ρ σ Q) → r v H Q
  mono : ∀ x (q q' : PyData → Prop), (∀ z, q z → q' z) → f x q → f x q'
@[simp] def wOp2 (f : D2) (a b : Od) : WE := fun ρ Q => a.run ρ fun ga ρ1 => b.run ρ1 fun gb ρ2 => ∃ x y, ga ρ2 = some x ∧ gb ρ2 = some y ∧ f x y fun z => Q z ρ2
@[simp] def wOp1 (f : D1) (a : Od) : WE := fun ρ Q => a.run ρ fun ga ρ1 => ∃ x, ga ρ1 = some x ∧ f x fun z => Q z ρ1
section
variable {R : Res} {K : PySem.W.Frag} {B : Bs} {σ : L2.St} {H : Hp} {Q : VK} {a b : Od}
theorem mono_op2 {f : D2} (mf : ∀ x y (q q' : PyData → Prop), (∀ z, q z → q' z) → f x y q → f x y q') (ma : a.Mono) (mb : b.Mono) : MonoE (wOp2 f a b) := fun ρ Q Q' h => ma.run fun _ _ q => mb.run (fun _ _ ⟨x, y, e1, e2, q⟩ => ⟨x, y, e1, e2, mf x y _ _ (fun z => h z _) q⟩) q
theorem mono_op1 {f : D1} (mf : ∀ x (q q' : PyData → Prop), (∀ z, q z → q' z) → f x q → f x q') (ma : a.Mono) : MonoE (wOp1 f a) := fun ρ Q Q' h => ma.run fun _ _ ⟨x, e1, q⟩ => ⟨x, e1, mf x _ _ (fun z => h z _) q⟩
theorem op2 {r : R2} {f : D2} (L : Lk2 R K r f) (ma : a.Mono) (mb : b.Mono) (h : liftE R K B (wOp2 f a b) σ H Q) : tOp r (liftO R K B a) (liftO R K B b) σ H Q := by
  obtain ⟨ρ, G, rl, h⟩ := h
  refine od_step ma rl h fun ga ρ1 v G1 H1 s1 r1 i1 h1 => ?_
  refine od_step mb r1 h1 fun gb ρ2 u G2 H2 s2 r2 i2 h2 => ?_
  obtain ⟨x, y, e1, e2, q⟩ := h2
  exact L.to B G2 ρ2 σ H2 v u x y Q r2 ((i1.mono s2).at r2 e1) (i2.at r2 e2) (L.mono _ _ _ _ (fun z q v' G' H' s r' i => q v' G' H' ((s1.trans s2).trans s) r' i) q)
theorem op1 {r : V → Hp → VK → Prop} {f : D1} (L : Lk1 R K r f) (ma : a.Mono) (h : liftE R K B (wOp1 f a) σ H Q) : liftO R K B a σ H fun x H1 => r x H1 Q := by
  obtain ⟨ρ, G, rl, h⟩ := h
  refine od_step ma rl h fun ga ρ1 v G1 H1 s1 r1 i1 h1 => ?_
  obtain ⟨x, e1, q⟩ := h1
  exact L.to B G1 ρ1 σ H1 v x Q r1 (i1.at r1 e1) (L.mono _ _ _ (fun z q v' G' H' s r' i => q v' G' H' (s1.trans s) r' i) q)
end
section
variable {R : Res} {X : Cx} {e1 e2 : Expr} {a b : Od} {pos : Pos}
theorem se_bin {op : Operator} {r : R2} {f : D2} (ho : OpR X (binaryOp op) r) (L : Lk2 R X.K r f) (ha : SO R X e1 a) (hb : SO R X e2 b) : SE R X (.BinOp e1 op e2 pos) (wOp2 f a b) :=
  ⟨fun B => PE.imp (pe_op ho (ha.pe B) (hb.pe B)) fun σ H Q h => op2 L ha.mono hb.mono h, mono_op2 L.mono ha.mono hb.mono⟩
theorem se_cmp {op : CmpOp} {r : R2} {f : D2} (ho : OpR X (compareOp op) r) (L : Lk2 R X.K r f) (ha : SO R X e1 a) (hb : SO R X e2 b) (hm : behindInMarks op e2 = false) : SE R X (.Compare e1 [op] [e2] pos) (wOp2 f a b) :=
  ⟨fun B => PE.imp (pe_cmpR ho (ha.pe B) (hb.pe B) hm) fun σ H Q h => op2 L ha.mono hb.mono h, mono_op2 L.mono ha.mono hb.mono⟩
theorem se_un {op : UnaryOp} {r : V → Hp → VK → Prop} {f : D1} (ho : UnR X (unaryOp op) r) (L : Lk1 R X.K r f) (ha : SO R X e1 a) : SE R X (.UnaryOp op e1 pos) (wOp1 f a) :=
  ⟨fun B => PE.imp (pe_un ho (ha.pe B)) fun σ H Q h => op1 L ha.mono h, mono_op1 L.mono ha.mono⟩
theorem se_ix {r : R2} {f : D2} (ho : IxR X r) (L : Lk2 R X.K r f) (ha : SO R X e1 a) (hb : SO R X e2 b) (hs : PlainIx e2) : SE R X (.Subscript e1 e2 pos) (wOp2 f a b) :=
  ⟨fun B => PE.imp (pe_ix ho (ha.pe B) (hb.pe B) hs) fun σ H Q h => op2 L ha.mono hb.mono h, mono_op2 L.mono ha.mono hb.mono⟩
/-! ### names and constants -/
@[simp] def wVar (i : Nat) : WE := fun ρ Q => match ρ[i]? with
  | some (.d x) => Q x ρ
  | some (.own x) => Q x (ρ.set i (.d x))
  | _ => False
@[simp] def wC (d : PyData) : WE := fun ρ Q => Q d ρ
theorem so_var {i : Nat} {x : Str} (h : PE X (.Name x pos) (tVar i)) : SO R X (.Name x pos) (.s i) := ⟨fun _ => h, trivial⟩
theorem so_val {w : WE} (h : SE R X e1 w) : SO R X e1 (.v w) := ⟨fun B => h.pe B, h.mono⟩
theorem se_var {i : Nat} {x : Str} (h : PE X (.Name x pos) (tVar i)) : SE R X (.Name x pos) (wVar i) := by
  refine ⟨fun B => PE.imp h fun σ H Q ⟨ρ, G, r, q⟩ => ?_, fun ρ Q Q' hq q => ?_⟩
  · unfold wVar at q
    split at q
    · rename_i y e
      obtain ⟨v, e1, e2⟩ := r.d i y e
      exact ⟨v, e1, q v G H (Same.refl G) r e2⟩
    · rename_i y e
      obtain ⟨v, G', s, e1, e2, r'⟩ := r.freeze e
      exact ⟨v, e1, q v G' H s r' e2⟩
    · exact q.elim
  · unfold wVar at q ⊢
    split at q
    · exact hq _ _ q
    · exact hq _ _ q
    · exact q.elim
theorem se_c {d : PyData} {v : V} (h : PE X e1 (tC v)) (hv : ∀ G, Is X.K G v d) : SE R X e1 (wC d) :=
  ⟨fun B => PE.imp h fun σ H Q ⟨ρ, G, r, q⟩ => q v G H (Same.refl G) r (hv G), fun ρ Q Q' hq q => hq _ _ q⟩
/-! ### tests -/
abbrev WT := Sls → (Bool → Sls → Prop) → Prop
def liftT (R : Res) (K : PySem.W.Frag) (B : Bs) (w : WT) : TT := fun σ H Q => ∃ ρ G, Rel R K B G ρ σ H ∧ w ρ fun c ρ' => ∀ G' H', Sub G G' → Rel R K B G' ρ' σ H' → Q c H'
def MonoT (w : WT) : Prop := ∀ (ρ : Sls) (Q Q' : Bool → Sls → Prop), (∀ d ρ', Q d ρ' → Q' d ρ') → w ρ Q → w ρ Q'
structure ST (R : Res) (X : Cx) (e : Expr) (w : WT) : Prop where
  pt : ∀ B, PT X e (liftT R X.K B w)
  mono : MonoT w
structure SW (R : Res) (X : Cx) (e : Expr) (w : WT) : Prop where
  pw : ∀ B, PW X e (liftT R X.K B w)
  mono : MonoT w
@[simp] def wTst (w : WE) : WT := fun ρ Q => w ρ fun d ρ' => ∃ c, d = .bool c ∧ Q c ρ'
theorem mono_tst {w : WE} (m : MonoE w) : MonoT (wTst w) := fun ρ Q Q' h => m ρ _ _ fun d ρ' ⟨c, e, q⟩ => ⟨c, e, h _ _ q⟩
theorem Is.bool {K : PySem.W.Frag} {G : Hp} {v : V} {c : Bool} (h : Is K G v (.bool c)) : v = .bl c := by cases h; rfl
theorem tst_lift {B : Bs} {K : PySem.W.Frag} {w : WE} {σ : L2.St} {H : Hp} {Q : Bool → Hp → Prop} (m : MonoE w) (h : liftT R K B (wTst w) σ H Q) : liftE R K B w σ H fun x H1 => ∃ c, x = .bl c ∧ Q c H1 := by
  obtain ⟨ρ, G, r, h⟩ := h
  refine ⟨ρ, G, r, m ρ _ _ (fun d ρ' ⟨c, e, q⟩ v G' H' s r' i => ?_) h⟩
  subst e
  exact ⟨c, i.bool, q G' H' s r'⟩
theorem st_val {w : WE} (h : SE R X e1 w) (he : ∀ whole, isTrue e1 X.env whole = (do let v ← whole; standAt e1.pos; holding [v] (truthy v)) := by intro _; rfl) : ST R X e1 (wTst w) :=
  ⟨fun B => PT.imp (pt_val (h.pe B) he) fun σ H Q q => tst_lift h.mono q, mono_tst h.mono⟩
theorem st_cmp {op : CmpOp} {r : R2} {f : D2} (ho : OpR X (compareOp op) r) (L : Lk2 R X.K r f) (ha : SO R X e1 a) (hb : SO R X e2 b) (hm : behindInMarks op e2 = false) : ST R X (.Compare e1 [op] [e2] pos) (wTst (wOp2 f a b)) :=
  ⟨fun B => PT.imp (pt_cmpR ho (ha.pe B) (hb.pe B) hm) fun σ H Q q => op2 L ha.mono hb.mono (tst_lift (mono_op2 L.mono ha.mono hb.mono) q), mono_tst (mono_op2 L.mono ha.mono hb.mono)⟩
@[simp] def wAnd (t u : WT) : WT := fun ρ Q => t ρ fun c ρ1 => if c = true then u ρ1 Q else Q false ρ1
@[simp] def wOr (t u : WT) : WT := fun ρ Q => t ρ fun c ρ1 => if c = true then Q true ρ1 else u ρ1 Q
@[simp] def wNot (t : WT) : WT := fun ρ Q => t ρ fun c ρ1 => Q (!c) ρ1
variable {t u : WT} {rest : List Expr}
theorem mono_and (m1 : MonoT t) (m2 : MonoT u) : MonoT (wAnd t u) := fun ρ Q Q' h => m1 ρ _ _ fun c ρ1 q => by
  cases c with
  | true => exact m2 ρ1 _ _ h q
  | false => exact h _ _ q
theorem mono_or (m1 : MonoT t) (m2 : MonoT u) : MonoT (wOr t u) := fun ρ Q Q' h => m1 ρ _ _ fun c ρ1 q => by
  cases c with
  | true => exact h _ _ q
  | false => exact m2 ρ1 _ _ h q
theorem sw_and1 (h : ST R X e1 t) : SW R X (.BoolOp .And [e1] pos) t := ⟨fun B => pw_and1 (h.pt B), h.mono⟩
theorem sw_or1 (h : ST R X e1 t) : SW R X (.BoolOp .Or [e1] pos) t := ⟨fun B => pw_or1 (h.pt B), h.mono⟩
theorem PW.imp {X : Cx} {e : Expr} {t t' : TT} (h : PW X e t) (f : ∀ σ H Q, t' σ H Q → t σ H Q) : PW X e t' :=
  ⟨fun wh pins s σ H Q I q => h.run wh pins s σ H Q I (f σ H Q q)⟩
theorem sw_and (h1 : ST R X e1 t) (h2 : SW R X (.BoolOp .And (e2 :: rest) pos) u) : SW R X (.BoolOp .And (e1 :: e2 :: rest) pos) (wAnd t u) := by
  refine ⟨fun B => PW.imp (pw_and (h1.pt B) (h2.pw B)) fun σ H Q ⟨ρ, G, r, h⟩ => ⟨ρ, G, r, h1.mono ρ _ _ (fun c ρ1 q G' H' s r' => ?_) h⟩, mono_and h1.mono h2.mono⟩
  cases c with
  | true => exact ⟨ρ1, G', r', h2.mono ρ1 _ _ (fun d ρ2 q G2 H2 s2 r2 => q G2 H2 (s.trans s2) r2) q⟩
  | false => exact q G' H' s r'
theorem sw_or (h1 : ST R X e1 t) (h2 : SW R X (.BoolOp .Or (e2 :: rest) pos) u) : SW R X (.BoolOp .Or (e1 :: e2 :: rest) pos) (wOr t u) := by
  refine ⟨fun B => PW.imp (pw_or (h1.pt B) (h2.pw B)) fun σ H Q ⟨ρ, G, r, h⟩ => ⟨ρ, G, r, h1.mono ρ _ _ (fun c ρ1 q G' H' s r' => ?_) h⟩, mono_or h1.mono h2.mono⟩
  cases c with
  | true => exact q G' H' s r'
  | false => exact ⟨ρ1, G', r', h2.mono ρ1 _ _ (fun d ρ2 q G2 H2 s2 r2 => q G2 H2 (s.trans s2) r2) q⟩
theorem SW.st {e : Expr} (h : SW R X e t) : ST R X e t := ⟨fun B => (h.pw B).pt, h.mono⟩
theorem st_not (h : ST R X e1 t) : ST R X (.UnaryOp .Not e1 pos) (wNot t) :=
  ⟨fun B => PT.imp (pt_not (h.pt B)) fun σ H Q ⟨ρ, G, r, q⟩ => ⟨ρ, G, r, q⟩, fun ρ Q Q' hq => h.mono ρ _ _ fun c ρ1 q => hq _ _ q⟩
/-! ### .. as values -/
@[simp] def wAndV (t u : WE) : WE := fun ρ Q => t ρ fun d ρ1 => ∃ c, d = .bool c ∧ if c = true then u ρ1 Q else Q (.bool false) ρ1
@[simp] def wOrV (t u : WE) : WE := fun ρ Q => t ρ fun d ρ1 => ∃ c, d = .bool c ∧ if c = true then Q (.bool true) ρ1 else u ρ1 Q
@[simp] def wNotV (t : WE) : WE := fun ρ Q => t ρ fun d ρ1 => ∃ c, d = .bool c ∧ Q (.bool (!c)) ρ1
variable {wa wb : WE}
theorem se_one {op} (h : SE R X e1 wa) : SE R X (.BoolOp op [e1] pos) wa := ⟨fun B => pe_one (h.pe B), h.mono⟩
theorem se_and (h1 : SE R X e1 wa) (h2 : SE R X (.BoolOp .And (e2 :: rest) pos) wb) : SE R X (.BoolOp .And (e1 :: e2 :: rest) pos) (wAndV wa wb) := by
  refine ⟨fun B => PE.imp (pe_and (h1.pe B) (h2.pe B)) fun σ H Q ⟨ρ, G, r, h⟩ => ⟨ρ, G, r, h1.mono ρ _ _ (fun d ρ1 ⟨c, e, q⟩ v G' H' s r' i => ?_) h⟩, fun ρ Q Q' hq => h1.mono ρ _ _ fun d ρ1 ⟨c, e, q⟩ => ⟨c, e, ?_⟩⟩
  · subst e
    refine ⟨c, i.bool, ?_⟩
    cases c with
    | true => exact ⟨ρ1, G', r', h2.mono ρ1 _ _ (fun d ρ2 q v2 G2 H2 s2 r2 i2 => q v2 G2 H2 (s.trans s2) r2 i2) q⟩
    | false => exact q _ G' H' s r' (.bl false)
  · cases c with
    | true => exact h2.mono ρ1 _ _ hq q
    | false => exact hq _ _ q
theorem se_or (h1 : SE R X e1 wa) (h2 : SE R X (.BoolOp .Or (e2 :: rest) pos) wb) : SE R X (.BoolOp .Or (e1 :: e2 :: rest) pos) (wOrV wa wb) := by
  refine ⟨fun B => PE.imp (pe_or (h1.pe B) (h2.pe B)) fun σ H Q ⟨ρ, G, r, h⟩ => ⟨ρ, G, r, h1.mono ρ _ _ (fun d ρ1 ⟨c, e, q⟩ v G' H' s r' i => ?_) h⟩, fun ρ Q Q' hq => h1.mono ρ _ _ fun d ρ1 ⟨c, e, q⟩ => ⟨c, e, ?_⟩⟩
  · subst e
    refine ⟨c, i.bool, ?_⟩
    cases c with
    | true => exact q _ G' H' s r' (.bl true)
    | false => exact ⟨ρ1, G', r', h2.mono ρ1 _ _ (fun d ρ2 q v2 G2 H2 s2 r2 i2 => q v2 G2 H2 (s.trans s2) r2 i2) q⟩
  · cases c with
    | true => exact hq _ _ q
    | false => exact h2.mono ρ1 _ _ hq q
theorem se_not (h : SE R X e1 wa) : SE R X (.UnaryOp .Not e1 pos) (wNotV wa) := by
  refine ⟨fun B => PE.imp (pe_not (h.pe B)) fun σ H Q ⟨ρ, G, r, q⟩ => ⟨ρ, G, r, h.mono ρ _ _ (fun d ρ1 ⟨c, e, q⟩ v G' H' s r' i => ?_) q⟩, fun ρ Q Q' hq => h.mono ρ _ _ fun d ρ1 ⟨c, e, q⟩ => ⟨c, e, hq _ _ q⟩⟩
  subst e
  exact ⟨c, i.bool, q _ G' H' s r' (.bl _)⟩
@[simp] def wIf (t : WT) (a b : WE) : WE := fun ρ Q => t ρ fun c ρ1 => if c = true then a ρ1 Q else b ρ1 Q
theorem se_if {c : Expr} (ht : ST R X c t) (h1 : SE R X e1 wa) (h2 : SE R X e2 wb) : SE R X (.IfExp c e1 e2 pos) (wIf t wa wb) := by
  refine ⟨fun B => PE.imp (pe_ifExp (ht.pt B) (h1.pe B) (h2.pe B)) fun σ H Q ⟨ρ, G, r, h⟩ => ⟨ρ, G, r, ht.mono ρ _ _ (fun c ρ1 q G' H' s r' => ?_) h⟩, fun ρ Q Q' hq => ht.mono ρ _ _ fun c ρ1 q => ?_⟩
  · cases c with
    | true => exact ⟨ρ1, G', r', h1.mono ρ1 _ _ (fun d ρ2 q v2 G2 H2 s2 r2 i2 => q v2 G2 H2 (s.trans s2) r2 i2) q⟩
    | false => exact ⟨ρ1, G', r', h2.mono ρ1 _ _ (fun d ρ2 q v2 G2 H2 s2 r2 i2 => q v2 G2 H2 (s.trans s2) r2 i2) q⟩
  · cases c with
    | true => exact h1.mono ρ1 _ _ hq q
    | false => exact h2.mono ρ1 _ _ hq q
/-- a < b < c -/
@[simp] def wChain (f g : D2) (a b c : Od) : WE := fun ρ Q => a.run ρ fun ga ρ1 => b.run ρ1 fun gb ρ2 => ∃ x y, ga ρ2 = some x ∧ gb ρ2 = some y ∧ f x y fun z => ∃ k, z = .bool k ∧
  if k = true then c.run ρ2 fun gc ρ3 => ∃ y' x', gb ρ3 = some y' ∧ gc ρ3 = some x' ∧ g y' x' fun z' => Q z' ρ3 else Q (.bool false) ρ2
end
end DL
namespace DL
open PySem PySem.Spec L2
section
variable {R : Res} {X : Cx} {e1 e2 e3 : Expr} {a b c : Od} {pos : Pos}
theorem chain_lift {B : Bs} {K : PySem.W.Frag} {r r' : R2} {f g : D2} {σ : L2.St} {H : Hp} {Q : VK} (L : Lk2 R K r f) (L' : Lk2 R K r' g) (ma : a.Mono) (mb : b.Mono) (mc : c.Mono) (h : liftE R K B (wChain f g a b c) σ H Q) :
    tChain r r' (liftO R K B a) (liftO R K B b) (liftO R K B c) σ H Q := by
  obtain ⟨ρ, G, rl, h⟩ := h
  refine od_step ma rl h fun ga ρ1 v G1 H1 s1 r1 i1 h1 => ?_
  refine od_step mb r1 h1 fun gb ρ2 u G2 H2 s2 r2 i2 h2 => ?_
  obtain ⟨x, y, e1, e2, q⟩ := h2
  refine L.to B G2 ρ2 σ H2 v u x y _ r2 ((i1.mono s2).at r2 e1) (i2.at r2 e2) (L.mono _ _ _ _ (fun z q v' G3 H3 s3 r3 iz => ?_) q)
  obtain ⟨k, rfl, q⟩ := q
  refine ⟨k, iz.bool, ?_⟩
  cases k with
  | false => exact q _ G3 H3 ((s1.trans s2).trans s3) r3 (.bl false)
  | true =>
    refine od_step mc r3 q fun gc ρ4 w G4 H4 s4 r4 i4 h4 => ?_
    obtain ⟨y', x', e3, e4, q⟩ := h4
    exact L'.to B G4 ρ4 σ H4 u w y' x' Q r4 ((i2.mono (s3.trans s4)).at r4 e3) (i4.at r4 e4) (L'.mono _ _ _ _ (fun z q v' G' H' s r' i => q v' G' H' (((s1.trans s2).trans (s3.trans s4)).trans s) r' i) q)
theorem mono_chain {K : PySem.W.Frag} {r r' : R2} {f g : D2} (L : Lk2 R K r f) (L' : Lk2 R K r' g) (ma : a.Mono) (mb : b.Mono) (mc : c.Mono) : MonoE (wChain f g a b c) := fun ρ Q Q' h =>
  ma.run fun _ _ q => mb.run (fun _ _ ⟨x, y, h1, h2, q⟩ => ⟨x, y, h1, h2, L.mono _ _ _ _ (fun z ⟨k, e, q⟩ => ⟨k, e, by
    cases k with
    | false => exact h _ _ q
    | true => exact mc.run (fun _ _ ⟨y', x', h3, h4, q⟩ => ⟨y', x', h3, h4, L'.mono _ _ _ _ (fun z q => h z _ q) q⟩) q⟩) q⟩) q
theorem se_chain {op op' : CmpOp} {r r' : R2} {f g : D2} (ho : OpR X (compareOp op) r) (L : Lk2 R X.K r f) (ho' : OpR X (compareOp op') r') (L' : Lk2 R X.K r' g) (ha : SO R X e1 a) (hb : SO R X e2 b) (hc : SO R X e3 c)
    (hm : lastMarks [op, op'] [e2, e3] = false := by with_unfolding_all rfl) : SE R X (.Compare e1 [op, op'] [e2, e3] pos) (wChain f g a b c) :=
  ⟨fun B => PE.imp (pe_chain ho ho' (ha.pe B) (hb.pe B) (hc.pe B) hm) fun σ H Q h => chain_lift L L' ha.mono hb.mono hc.mono h, mono_chain L L' ha.mono hb.mono hc.mono⟩
theorem st_chain {op op' : CmpOp} {r r' : R2} {f g : D2} (ho : OpR X (compareOp op) r) (L : Lk2 R X.K r f) (ho' : OpR X (compareOp op') r') (L' : Lk2 R X.K r' g) (ha : SO R X e1 a) (hb : SO R X e2 b) (hc : SO R X e3 c)
    (hm : lastMarks [op, op'] [e2, e3] = false := by with_unfolding_all rfl) : ST R X (.Compare e1 [op, op'] [e2, e3] pos) (wTst (wChain f g a b c)) :=
  ⟨fun B => PT.imp (pt_chain ho ho' (ha.pe B) (hb.pe B) (hc.pe B) hm) fun σ H Q h => chain_lift L L' ha.mono hb.mono hc.mono (tst_lift (mono_chain L L' ha.mono hb.mono hc.mono) h), mono_tst (mono_chain L L' ha.mono hb.mono hc.mono)⟩
/-! ### argument lists: data, the resource -/
inductive Ag where
  | loom (i : Nat)
  | scr (i : Nat)
  | e (w : WE)
@[simp] def wAgs : List Ag → Sls → (List Sl → Sls → Prop) → Prop
  | [], ρ, Q => Q [] ρ
  | .loom i :: r, ρ, Q => ρ[i]? = some .loom ∧ wAgs r ρ fun as ρ' => Q (.loom :: as) ρ'
  | .scr i :: r, ρ, Q => ∃ ns, ρ[i]? = some (.scr ns) ∧ wAgs r ρ fun as ρ' => Q (.scr ns :: as) ρ'
  | .e w :: r, ρ, Q => w ρ fun d ρ1 => wAgs r ρ1 fun as ρ' => Q (.d d :: as) ρ'
def MonoA : List Ag → Prop
  | [] => True
  | .e w :: r => MonoE w ∧ MonoA r
  | _ :: r => MonoA r
theorem MonoA.run : ∀ {gs : List Ag}, MonoA gs → ∀ {ρ : Sls} {Q Q' : List Sl → Sls → Prop}, (∀ as ρ', Q as ρ' → Q' as ρ') → wAgs gs ρ Q → wAgs gs ρ Q'
  | [], _, _, _, _, f, h => f _ _ h
  | .loom i :: r, m, _, _, _, f, h => ⟨h.1, MonoA.run (gs := r) m (fun _ _ q => f _ _ q) h.2⟩
  | .scr i :: r, m, _, _, _, f, h => let ⟨ns, h1, h2⟩ := h; ⟨ns, h1, MonoA.run (gs := r) m (fun _ _ q => f _ _ q) h2⟩
  | .e w :: r, m, ρ, _, _, f, h => m.1 ρ _ _ (fun d ρ1 q => MonoA.run (gs := r) m.2 (fun _ _ q => f _ _ q) q) h
/-- the values of arguments -/
def ArgsV (K : PySem.W.Frag) (G : Hp) (σ : L2.St) : List Ag → List V → List Sl → Prop
  | [], vs, as => vs = [] ∧ as = []
  | .loom i :: r, vs, as => ∃ v vs' as', vs = v :: vs' ∧ as = .loom :: as' ∧ σ[i]? = some (some v) ∧ ArgsV K G σ r vs' as'
  | .scr i :: r, vs, as => ∃ v vs' as' ns a, vs = v :: vs' ∧ as = .scr ns :: as' ∧ v = .ref a ∧ ScOk K G a ns ∧ ArgsV K G σ r vs' as'
  | .e _ :: r, vs, as => ∃ v vs' as' d, vs = v :: vs' ∧ as = .d d :: as' ∧ Is K G v d ∧ ArgsV K G σ r vs' as'
def liftA (R : Res) (K : PySem.W.Frag) (B : Bs) (gs : List Ag) : TA := fun σ H Q => ∃ ρ G, Rel R K B G ρ σ H ∧ wAgs gs ρ fun as ρ' => ∀ vs G' H', Sub G G' → Rel R K B G' ρ' σ H' → ArgsV K G' σ gs vs as → Q vs H'
structure SA (R : Res) (X : Cx) (es : List Expr) (gs : List Ag) : Prop where
  pa : ∀ B, PA X es (liftA R X.K B gs)
  mono : MonoA gs
variable {es : List Expr} {gs : List Ag}
theorem sa_nil : SA R X [] [] := ⟨fun B => PA.imp pa_nil fun σ H Q ⟨ρ, G, r, q⟩ => q [] G H (Same.refl G) r ⟨rfl, rfl⟩, trivial⟩
theorem sa_cons {w : WE} (h : SE R X e1 w) (ht : SA R X es gs) (hs : starEach (e1 :: es) X.env = (false, eval e1 X.env) :: starEach es X.env := by rfl) : SA R X (e1 :: es) (.e w :: gs) := by
  refine ⟨fun B => PA.imp (pa_cons (h.pe B) (ht.pa B) hs) fun σ H Q ⟨ρ, G, r, q⟩ => ?_, ⟨h.mono, ht.mono⟩⟩
  refine ⟨ρ, G, r, h.mono ρ _ _ (fun d ρ1 q v G1 H1 s1 r1 i1 => ?_) q⟩
  refine ⟨ρ1, G1, r1, ht.mono.run (fun as ρ2 q vs G2 H2 s2 r2 i2 => ?_) q⟩
  exact q (v :: vs) G2 H2 (s1.trans s2) r2 ⟨v, vs, as, d, rfl, rfl, i1.mono s2, i2⟩
theorem sa_loom {i : Nat} {x : Str} {p : Pos} (h : PE X (.Name x p) (tVar i)) (ht : SA R X es gs) (hs : starEach (.Name x p :: es) X.env = (false, eval (.Name x p) X.env) :: starEach es X.env := by rfl) : SA R X (.Name x p :: es) (.loom i :: gs) := by
  refine ⟨fun B => PA.imp (pa_cons h (ht.pa B) hs) fun σ H Q ⟨ρ, G, r, q⟩ => ?_, ht.mono⟩
  obtain ⟨e, q⟩ := q
  obtain ⟨la, fp, q1⟩ := r.l
  have e1 := q1.pl i e
  refine ⟨_, e1, ρ, G, r, ht.mono.run (fun as ρ2 q vs G2 H2 s2 r2 i2 => ?_) q⟩
  exact q (_ :: vs) G2 H2 s2 r2 ⟨_, vs, as, rfl, rfl, e1, i2⟩
theorem sa_scr {i : Nat} {x : Str} {p : Pos} (h : PE X (.Name x p) (tVar i)) (ht : SA R X es gs) (hs : starEach (.Name x p :: es) X.env = (false, eval (.Name x p) X.env) :: starEach es X.env := by rfl) : SA R X (.Name x p :: es) (.scr i :: gs) := by
  refine ⟨fun B => PA.imp (pa_cons h (ht.pa B) hs) fun σ H Q ⟨ρ, G, r, q⟩ => ?_, ht.mono⟩
  obtain ⟨ns, e, q⟩ := q
  obtain ⟨a, e1, e2⟩ := r.s i ns e
  refine ⟨_, e1, ρ, G, r, ht.mono.run (fun as ρ2 q vs G2 H2 s2 r2 i2 => ?_) q⟩
  exact q (_ :: vs) G2 H2 s2 r2 ⟨_, vs, as, ns, a, rfl, rfl, rfl, e2.mono s2, i2⟩
/-- data alone -/
@[simp] def wEs : List WE → Sls → (List PyData → Sls → Prop) → Prop
  | [], ρ, Q => Q [] ρ
  | w :: r, ρ, Q => w ρ fun d ρ1 => wEs r ρ1 fun ds ρ' => Q (d :: ds) ρ'
def MonoEs : List WE → Prop
  | [] => True
  | w :: r => MonoE w ∧ MonoEs r
theorem MonoEs.run : ∀ {ws : List WE}, MonoEs ws → ∀ {ρ : Sls} {Q Q' : List PyData → Sls → Prop}, (∀ as ρ', Q as ρ' → Q' as ρ') → wEs ws ρ Q → wEs ws ρ Q'
  | [], _, _, _, _, f, h => f _ _ h
  | w :: r, m, ρ, _, _, f, h => m.1 ρ _ _ (fun d ρ1 q => MonoEs.run (ws := r) m.2 (fun _ _ q => f _ _ q) q) h
def liftEs (R : Res) (K : PySem.W.Frag) (B : Bs) (ws : List WE) : TA := fun σ H Q => ∃ ρ G, Rel R K B G ρ σ H ∧ wEs ws ρ fun ds ρ' => ∀ vs G' H', Sub G G' → Rel R K B G' ρ' σ H' → Iss K G' vs ds → Q vs H'
structure SEs (R : Res) (X : Cx) (es : List Expr) (ws : List WE) : Prop where
  pa : ∀ B, PA X es (liftEs R X.K B ws)
  mono : MonoEs ws
variable {ws : List WE}
theorem ses_nil : SEs R X [] [] := ⟨fun B => PA.imp pa_nil fun σ H Q ⟨ρ, G, r, q⟩ => q [] G H (Same.refl G) r .nil, trivial⟩
theorem ses_cons {w : WE} (h : SE R X e1 w) (ht : SEs R X es ws) (hs : starEach (e1 :: es) X.env = (false, eval e1 X.env) :: starEach es X.env := by rfl) : SEs R X (e1 :: es) (w :: ws) := by
  refine ⟨fun B => PA.imp (pa_cons (h.pe B) (ht.pa B) hs) fun σ H Q ⟨ρ, G, r, q⟩ => ?_, ⟨h.mono, ht.mono⟩⟩
  refine ⟨ρ, G, r, h.mono ρ _ _ (fun d ρ1 q v G1 H1 s1 r1 i1 => ?_) q⟩
  refine ⟨ρ1, G1, r1, ht.mono.run (fun as ρ2 q vs G2 H2 s2 r2 i2 => ?_) q⟩
  exact q (v :: vs) G2 H2 (s1.trans s2) r2 (.cons (i1.mono s2) i2)
/-! ### displays -/
@[simp] def wTup (ws : List WE) : WE := fun ρ Q => wEs ws ρ fun ds ρ' => ds.length ≤ sizeLine ∧ Q (.tuple ds) ρ'
@[simp] def wLst (ws : List WE) : WE := fun ρ Q => wEs ws ρ fun ds ρ' => ds.length ≤ sizeLine ∧ Q (.list ds) ρ'
theorem se_tup {k} (h : SEs R X es ws) : SE R X (.Tuple es k pos) (wTup ws) := by
  refine ⟨fun B => PE.imp (pe_tup (h.pa B)) fun σ H Q ⟨ρ, G, r, q⟩ => ⟨ρ, G, r, h.mono.run (fun ds ρ1 ⟨z, q⟩ vs G1 H1 s1 r1 i1 => ?_) q⟩, fun ρ Q Q' hq => h.mono.run fun ds ρ1 ⟨z, q⟩ => ⟨z, hq _ _ q⟩⟩
  refine ⟨by rw [i1.length]; exact z, fun p np => ?_⟩
  have sg : Sub G1 (upd G1 p (.tup vs)) := upd_new (r1.sub.free np)
  exact q _ _ _ (s1.trans sg) (r1.laid np) (.tup (.inl (.inl upd_same)) (i1.mono sg))
theorem se_lst (h : SEs R X es ws) : SE R X (.List es pos) (wLst ws) := by
  refine ⟨fun B => PE.imp (pe_lst (h.pa B)) fun σ H Q ⟨ρ, G, r, q⟩ => ⟨ρ, G, r, h.mono.run (fun ds ρ1 ⟨z, q⟩ vs G1 H1 s1 r1 i1 => ?_) q⟩, fun ρ Q Q' hq => h.mono.run fun ds ρ1 ⟨z, q⟩ => ⟨z, hq _ _ q⟩⟩
  refine ⟨by rw [i1.length]; exact z, fun p np => ?_⟩
  have sg : Sub G1 (upd G1 p (.lst vs)) := upd_new (r1.sub.free np)
  exact q _ _ _ (s1.trans sg) (r1.laid np) (.lst upd_same (i1.mono sg))
/-! ### a fresh cell -/
def IsNew (R : Res) (K : PySem.W.Frag) (B : Bs) (G : Hp) (σ : L2.St) (ρ : Sls) (H : Hp) (v : V) (x : PyData) : Prop :=
  ∃ a ho, v = .ref a ∧ G a = none ∧ B.H0 a = none ∧ H a = some ho ∧ Own1 K G a ho x ∧ (∀ (j : Nat) (y : PyData), ρ[j]? = some (.own y) → σ[j]? ≠ some (some (.ref a))) ∧
    ∃ la fp, LoomAt R B G ρ σ H la fp ∧ a ∉ fp
def liftF (R : Res) (K : PySem.W.Frag) (B : Bs) (w : WE) : TE := fun σ H Q => ∃ ρ G, Rel R K B G ρ σ H ∧ w ρ fun d ρ' => ∀ v G' H', Sub G G' → Rel R K B G' ρ' σ H' → IsNew R K B G' σ ρ' H' v d → Q v H'
structure SF (R : Res) (X : Cx) (e : Expr) (w : WE) : Prop where
  pe : ∀ B, PE X e (liftF R X.K B w)
  mono : MonoE w
theorem IsNew.of {B : Bs} {K : PySem.W.Frag} {G : Hp} {ρ : Sls} {σ : L2.St} {H : Hp} {p : Addr} {o : HO} {x : PyData} (r : Rel R K B G ρ σ H) (np : H p = none) (h : Own1 K G p o x) : IsNew R K B G σ ρ (upd H p o) (.ref p) x := by
  obtain ⟨la, fp, q⟩ := r.l
  have nb : ∀ b ∈ fp, b ≠ p := fun b hb z => (q.pf b hb).2.1 (by rw [z]; exact np)
  refine ⟨p, o, rfl, r.sub.free np, r.h0 np, upd_same, h, fun j y e z => ?_, la, fp, ⟨q.pl, fun z => R.loc H _ la fp (fun b hb => upd_ne (nb b hb)) (q.ok z), fun b hb => ?_, q.tie⟩, fun z => nb p z rfl⟩
  · obtain ⟨a, ho, e1, e2, e3, e4, _⟩ := r.o j y e
    rw [e1] at z
    cases z
    rw [np] at e4
    cases e4
  · rw [upd_ne (nb b hb)]
    exact q.pf b hb
theorem sf_lst (h : SEs R X es ws) : SF R X (.List es pos) (wLst ws) := by
  refine ⟨fun B => PE.imp (pe_lst (h.pa B)) fun σ H Q ⟨ρ, G, r, q⟩ => ⟨ρ, G, r, h.mono.run (fun ds ρ1 ⟨z, q⟩ vs G1 H1 s1 r1 i1 => ?_) q⟩, fun ρ Q Q' hq => h.mono.run fun ds ρ1 ⟨z, q⟩ => ⟨z, hq _ _ q⟩⟩
  refine ⟨by rw [i1.length]; exact z, fun p np => ?_⟩
  exact q _ _ _ s1 (r1.up np) (IsNew.of r1 np (.lst i1))
end
end DL
namespace DL
open PySem PySem.Spec L2
section
variable {R : Res} {K : PySem.W.Frag} {B : Bs} {G : Hp} {ρ : Sls} {σ : L2.St} {H : Hp}
theorem set_at {α : Type} {l : List α} {i j : Nat} {a b : α} (h : (l.set i a)[j]? = some b) : (i = j ∧ b = a) ∨ (i ≠ j ∧ l[j]? = some b) := by
  rw [List.getElem?_set] at h
  split at h
  · rename_i e
    split at h
    · exact .inl ⟨e, (Option.some.inj h).symm⟩
    · cases h
  · rename_i e
    exact .inr ⟨e, h⟩
theorem set_get {α : Type} {l : List α} {i j : Nat} {a : α} (h : i ≠ j) : (l.set i a)[j]? = l[j]? := List.getElem?_set_ne h
theorem Rel.setD (r : Rel R K B G ρ σ H) {i : Nat} {v : V} {d : PyData} (h : Is K G v d) : Rel R K B G (ρ.set i (.d d)) (σ.set i (some v)) H := by
  have own : ∀ (j : Nat) (y : PyData), (ρ.set i (.d d))[j]? = some (.own y) → i ≠ j ∧ ρ[j]? = some (.own y) := fun j y e => by
    rcases set_at e with ⟨_, z⟩ | z
    · cases z
    · exact z
  refine ⟨r.sub, by rw [List.length_set, List.length_set]; exact r.len, r.g0, r.new, r.fr, r.fp0, fun j y e => ?_, fun j y e => ?_, fun j y e => ?_, ?_⟩
  · rcases set_at e with ⟨z1, z2⟩ | ⟨z1, z2⟩
    · cases z2
      subst z1
      refine ⟨v, ?_, h⟩
      have hi : i < σ.length := by
        have := (List.getElem?_eq_some_iff.mp e).1
        rw [List.length_set, r.len] at this
        exact this
      rw [List.getElem?_set_self hi]
    · rw [set_get z1]
      exact r.d j y z2
  · rcases set_at e with ⟨z1, z2⟩ | ⟨z1, z2⟩
    · cases z2
    · rw [set_get z1]
      exact r.s j y z2
  · obtain ⟨n, e'⟩ := own j y e
    obtain ⟨a, ho, e1, e2, e3, e4, e5, e6⟩ := r.o j y e'
    rw [set_get n]
    refine ⟨a, ho, e1, e2, e3, e4, e5, fun k z h1 h2 => ?_⟩
    obtain ⟨n2, h1'⟩ := own k z h1
    rw [set_get n2] at h2
    exact e6 k z h1' h2
  · obtain ⟨la, fp, q⟩ := r.l
    have lo : ∀ (j : Nat), (ρ.set i (.d d))[j]? = some .loom → i ≠ j ∧ ρ[j]? = some .loom := fun j e => by
      rcases set_at e with ⟨_, z2⟩ | z
      · cases z2
      · exact z
    refine ⟨la, fp, fun j e => ?_, fun z => q.ok (z.imp (fun ⟨j, e⟩ => ⟨j, (lo j e).2⟩) id), fun b hb => ?_, q.tie⟩
    · rw [set_get (lo j e).1]
      exact q.pl j (lo j e).2
    · obtain ⟨z1, z0, z2, z3⟩ := q.pf b hb
      refine ⟨z1, z0, z2, fun j y e => ?_⟩
      obtain ⟨n, e'⟩ := own j y e
      rw [set_get n]
      exact z3 j y e'
theorem Rel.setO (r : Rel R K B G ρ σ H) {i : Nat} {v : V} {d : PyData} (h : IsNew R K B G σ ρ H v d) : Rel R K B G (ρ.set i (.own d)) (σ.set i (some v)) H := by
  obtain ⟨p, po, rfl, w1, w2, w3, w4, w5, la, fp, q, w6⟩ := h
  have lo : ∀ (j : Nat), (ρ.set i (.own d))[j]? = some .loom → i ≠ j ∧ ρ[j]? = some .loom := fun j e => by
    rcases set_at e with ⟨_, z2⟩ | z
    · cases z2
    · exact z
  refine ⟨r.sub, by rw [List.length_set, List.length_set]; exact r.len, r.g0, r.new, r.fr, r.fp0, fun j y e => ?_, fun j y e => ?_, fun j y e => ?_, la, fp, fun j e => ?_, fun z => q.ok (z.imp (fun ⟨j, e⟩ => ⟨j, (lo j e).2⟩) id), fun b hb => ?_, q.tie⟩
  · rcases set_at e with ⟨z1, z2⟩ | ⟨z1, z2⟩
    · cases z2
    · rw [set_get z1]
      exact r.d j y z2
  · rcases set_at e with ⟨z1, z2⟩ | ⟨z1, z2⟩
    · cases z2
    · rw [set_get z1]
      exact r.s j y z2
  · rcases set_at e with ⟨z1, z2⟩ | ⟨z1, z2⟩
    · cases z2
      subst z1
      have hi : i < σ.length := by
        have := (List.getElem?_eq_some_iff.mp e).1
        rw [List.length_set, r.len] at this
        exact this
      refine ⟨p, po, by rw [List.getElem?_set_self hi], w1, w2, w3, w4, fun k z h1 h2 => ?_⟩
      rcases set_at h1 with ⟨y1, y2⟩ | ⟨y1, y2⟩
      · exact y1.symm
      · rw [set_get y1] at h2
        exact absurd h2 (w5 k z y2)
    · obtain ⟨a, ho, e1, e2, e3, e4, e5, e6⟩ := r.o j y z2
      rw [set_get z1]
      refine ⟨a, ho, e1, e2, e3, e4, e5, fun k z h1 h2 => ?_⟩
      rcases set_at h1 with ⟨y1, y2⟩ | ⟨y1, y2⟩
      · subst y1
        have hi : i < σ.length := by
          have := (List.getElem?_eq_some_iff.mp h1).1
          rw [List.length_set, r.len] at this
          exact this
        rw [List.getElem?_set_self hi] at h2
        cases h2
        exact absurd e1 (w5 j y z2)
      · rw [set_get y1] at h2
        exact e6 k z y2 h2
  · rw [set_get (lo j e).1]
    exact q.pl j (lo j e).2
  · obtain ⟨z1, z0, z2, z3⟩ := q.pf b hb
    refine ⟨z1, z0, z2, fun j y e z => ?_⟩
    rcases set_at e with ⟨y1, y2⟩ | ⟨y1, y2⟩
    · subst y1
      have hi : i < σ.length := by
        have := (List.getElem?_eq_some_iff.mp e).1
        rw [List.length_set, r.len] at this
        exact this
      rw [List.getElem?_set_self hi] at z
      cases z
      exact w6 hb
    · rw [set_get y1] at z
      exact z3 j y y2 z
/-- slots forgotten -/
theorem Rel.weak (r : Rel R K B G ρ σ H) {ρ' : Sls} {σ' : L2.St} (hl : ρ'.length = σ'.length) (h : ∀ (i : Nat) (s : Sl), ρ'[i]? = some s → s = .un ∨ (ρ[i]? = some s ∧ σ'[i]? = σ[i]?)) : Rel R K B G ρ' σ' H := by
  have get : ∀ (i : Nat) (s : Sl), ρ'[i]? = some s → s ≠ .un → ρ[i]? = some s ∧ σ'[i]? = σ[i]? := fun i s e n => (h i s e).resolve_left n
  refine ⟨r.sub, hl, r.g0, r.new, r.fr, r.fp0, fun j y e => ?_, fun j y e => ?_, fun j y e => ?_, ?_⟩
  · obtain ⟨e1, e2⟩ := get j _ e nofun
    rw [e2]
    exact r.d j y e1
  · obtain ⟨e1, e2⟩ := get j _ e nofun
    rw [e2]
    exact r.s j y e1
  · obtain ⟨e1, e2⟩ := get j _ e nofun
    obtain ⟨a, ho, q1, q2, q3, q4, q5, q6⟩ := r.o j y e1
    rw [e2]
    refine ⟨a, ho, q1, q2, q3, q4, q5, fun k z h1 h2 => ?_⟩
    obtain ⟨h3, h4⟩ := get k _ h1 nofun
    rw [h4] at h2
    exact q6 k z h3 h2
  · obtain ⟨la, fp, q⟩ := r.l
    refine ⟨la, fp, fun j e => ?_, fun z => q.ok (z.imp (fun ⟨j, e⟩ => ⟨j, (get j _ e nofun).1⟩) id), fun b hb => ?_, q.tie⟩
    · obtain ⟨e1, e2⟩ := get j _ e nofun
      rw [e2]
      exact q.pl j e1
    · obtain ⟨z1, z0, z2, z3⟩ := q.pf b hb
      refine ⟨z1, z0, z2, fun j y e => ?_⟩
      obtain ⟨e1, e2⟩ := get j _ e nofun
      rw [e2]
      exact z3 j y e1
end
/-! ## statements -/
structure En where
  nx : Sls → Prop
  rt : PyData → Prop
  bk : Sls → Prop := fun _ => False
  ct : Sls → Prop := fun _ => False
abbrev WS := En → Sls → Prop
structure En.Le (D D' : En) : Prop where
  nx : ∀ ρ, D.nx ρ → D'.nx ρ
  rt : ∀ d, D.rt d → D'.rt d
  bk : ∀ ρ, D.bk ρ → D'.bk ρ
  ct : ∀ ρ, D.ct ρ → D'.ct ρ
def MonoS (w : WS) : Prop := ∀ (D D' : En) (ρ : Sls), D.Le D' → w D ρ → w D' ρ
def nxL (R : Res) (K : PySem.W.Frag) (B : Bs) (G : Hp) (q : L2.St → Hp → Prop) : Sls → Prop := fun ρ' => ∀ σ' G' H', Sub G G' → Rel R K B G' ρ' σ' H' → q σ' H'
/-- an exception as data: its class, its fields; no value is so -/
def exn (c : Addr) (fs : List (Str × PyData)) : PyData := .dict ((.dict [], .int (c : Nat)) :: fs.map fun p => (.str p.1, p.2))
/-- the own dict of an exception with such fields -/
def XAt (K : PySem.W.Frag) (G H : Hp) (fs : List (Str × PyData)) (dx : Option Addr) : Prop :=
  (fs = [] ∧ dx = none) ∨ ∃ a ws, dx = some a ∧ H a = some (.xd ws) ∧ Paired (fun (p : Str × V) (q : Str × PyData) => p.1 = q.1 ∧ Is K G p.2 q.2) ws fs
def rtL (R : Res) (K : PySem.W.Frag) (B : Bs) (G : Hp) (q : VK) : PyData → Prop := fun d => (∀ v ρ' σ' G' H', Sub G G' → Rel R K B G' ρ' σ' H' → Is K G' v d → q v H') ∧
  ∀ c fs dx ρ' σ' G' H', d = exn c fs → Sub G G' → Rel R K B G' ρ' σ' H' → XAt K G' H' fs dx → R.xw (.ref c) dx σ' H'
def enL (R : Res) (K : PySem.W.Frag) (B : Bs) (G : Hp) (D : Ends) : En := ⟨nxL R K B G D.nx, rtL R K B G D.rt, nxL R K B G D.bk, nxL R K B G D.ct⟩
theorem nxL_le {R : Res} {K : PySem.W.Frag} {B : Bs} {G G' : Hp} {q : L2.St → Hp → Prop} (s : Sub G G') : ∀ ρ, nxL R K B G q ρ → nxL R K B G' q ρ := fun ρ h σ' G2 H2 s2 r => h σ' G2 H2 (s.trans s2) r
theorem rtL_le {R : Res} {K : PySem.W.Frag} {B : Bs} {G G' : Hp} {q : VK} (s : Sub G G') : ∀ d, rtL R K B G q d → rtL R K B G' q d := fun d h => ⟨fun v ρ σ' G2 H2 s2 r i => h.1 v ρ σ' G2 H2 (s.trans s2) r i, fun c fs dx ρ σ' G2 H2 e s2 r x => h.2 c fs dx ρ σ' G2 H2 e (s.trans s2) r x⟩
theorem enL_le {R : Res} {K : PySem.W.Frag} {B : Bs} {G G' : Hp} {D : Ends} (s : Sub G G') : (enL R K B G D).Le (enL R K B G' D) := ⟨nxL_le s, rtL_le s, nxL_le s, nxL_le s⟩
def liftS (R : Res) (K : PySem.W.Frag) (B : Bs) (w : WS) : TS := fun D σ H => ∃ ρ G, Rel R K B G ρ σ H ∧ w (enL R K B G D) ρ
structure SS (R : Res) (X : Cx) (st : Stmt) (w : WS) : Prop where
  ps : ∀ B, PS X st (liftS R X.K B w)
  mono : MonoS w
structure SSs (R : Res) (X : Cx) (st : List Stmt) (w : WS) : Prop where
  ps : ∀ B, PSs X st (liftS R X.K B w)
  mono : MonoS w
section
variable {R : Res} {X : Cx} {e : Expr} {st : Stmt} {sts : List Stmt} {w : WE} {ws wt : WS} {pos : Pos}
@[simp] def wNx : WS := fun D ρ => D.nx ρ
theorem sss_nil : SSs R X [] wNx := ⟨fun B => PSs.imp pss_nil fun D σ H ⟨ρ, G, r, q⟩ => q σ G H (Same.refl G) r, fun D D' ρ l h => l.nx ρ h⟩
@[simp] def wSeq (a b : WS) : WS := fun D ρ => a { D with nx := b D } ρ
theorem sss_cons (h : SS R X st ws) (t : SSs R X sts wt) : SSs R X (st :: sts) (wSeq ws wt) := by
  refine ⟨fun B => PSs.imp (pss_cons (h.ps B) (t.ps B)) fun D σ H ⟨ρ, G, r, q⟩ => ⟨ρ, G, r, h.mono { enL R X.K B G D with nx := wt (enL R X.K B G D) } _ ρ ⟨fun ρ1 q σ' G' H' s r' => ⟨ρ1, G', r', t.mono _ _ ρ1 (enL_le s) q⟩, fun _ h => h, fun _ h => h, fun _ h => h⟩ q⟩, fun D D' ρ l => h.mono _ _ ρ ⟨fun ρ1 q => t.mono _ _ ρ1 l q, l.rt, l.bk, l.ct⟩⟩
theorem sss_one (h : SS R X st ws) : SSs R X [st] ws := ⟨fun B => pss_one (h.ps B), h.mono⟩
@[simp] def wSet (i : Nat) (w : WE) : WS := fun D ρ => w ρ fun d ρ' => D.nx (ρ'.set i (.d d))
@[simp] def wSetO (i : Nat) (w : WE) : WS := fun D ρ => w ρ fun d ρ' => D.nx (ρ'.set i (.own d))
theorem mono_set {i : Nat} (m : MonoE w) : MonoS (wSet i w) := fun D D' ρ l => m ρ _ _ fun d ρ' q => l.nx _ q
theorem mono_setO {i : Nat} (m : MonoE w) : MonoS (wSetO i w) := fun D D' ρ l => m ρ _ _ fun d ρ' q => l.nx _ q
/-- name = e, e handed on -/
theorem ss_set {i : Nat} {x : Str} {pos' : Pos} (hN : X.N.Nodup) (hi : X.N[i]? = some x) (hx : Loc X.env.scope x) (he : SE R X e w) (hs : swapsWith e (some (.Name x pos')) pos.line X.env = pure false := by rfl) (hf : X.fn x = true ∨ X.env.scope.names.lookup x = some .local := by first | exact .inl rfl | exact .inr rfl | assumption) :
    SS R X (.Assign [.Name x pos'] e pos) (wSet i w) :=
  ⟨fun B => PS.imp (ps_set hN hi hx (he.pe B) hs hf) fun D σ H ⟨ρ, G, r, q⟩ => ⟨ρ, G, r, he.mono ρ _ _ (fun d ρ' q v G' H' s r' i => q _ G' H' s (r'.setD i)) q⟩, mono_set he.mono⟩
/-- name = e, e a fresh cell -/
theorem ss_setO {i : Nat} {x : Str} {pos' : Pos} (hN : X.N.Nodup) (hi : X.N[i]? = some x) (hx : Loc X.env.scope x) (he : SF R X e w) (hs : swapsWith e (some (.Name x pos')) pos.line X.env = pure false := by rfl) (hf : X.fn x = true ∨ X.env.scope.names.lookup x = some .local := by first | exact .inl rfl | exact .inr rfl | assumption) :
    SS R X (.Assign [.Name x pos'] e pos) (wSetO i w) :=
  ⟨fun B => PS.imp (ps_set hN hi hx (he.pe B) hs hf) fun D σ H ⟨ρ, G, r, q⟩ => ⟨ρ, G, r, he.mono ρ _ _ (fun d ρ' q v G' H' s r' i => q _ G' H' s (r'.setO i)) q⟩, mono_setO he.mono⟩
@[simp] def wRet (w : WE) : WS := fun D ρ => w ρ fun d _ => D.rt d
theorem ss_ret (he : SE R X e w) : SS R X (.Return (some e) pos) (wRet w) :=
  ⟨fun B => PS.imp (ps_ret (he.pe B)) fun D σ H ⟨ρ, G, r, q⟩ => ⟨ρ, G, r, he.mono ρ _ _ (fun d ρ' q v G' H' s r' i => q.1 v ρ' σ G' H' s r' i) q⟩, fun D D' ρ l => he.mono ρ _ _ fun d _ q => l.rt d q⟩
@[simp] def wRetN : WS := fun D _ => D.rt .none
theorem ss_retN : SS R X (.Return none pos) wRetN :=
  ⟨fun B => PS.imp ps_retN fun D σ H ⟨ρ, G, r, q⟩ => q.1 _ ρ σ G H (Same.refl G) r .non, fun D D' ρ l => l.rt _⟩
@[simp] def wDrop (w : WE) : WS := fun D ρ => w ρ fun _ ρ' => D.nx ρ'
theorem ss_expr (he : SE R X e w) (hs : swapsWith e none pos.line X.env = pure false := by rfl) : SS R X (.Expr e pos) (wDrop w) :=
  ⟨fun B => PS.imp (ps_expr (he.pe B) hs) fun D σ H ⟨ρ, G, r, q⟩ => ⟨ρ, G, r, he.mono ρ _ _ (fun d ρ' q v G' H' s r' i => q σ G' H' s r') q⟩, fun D D' ρ l => he.mono ρ _ _ fun d ρ' q => l.nx _ q⟩
@[simp] def wIfS (t : WT) (a b : WS) : WS := fun D ρ => t ρ fun c ρ1 => if c = true then a D ρ1 else b D ρ1
theorem ss_if {c : Expr} {as bs : List Stmt} {t : WT} (hc : ST R X c t) (ha : SSs R X as ws) (hb : SSs R X bs wt) : SS R X (.If c as bs pos) (wIfS t ws wt) := by
  refine ⟨fun B => PS.imp (ps_if (hc.pt B) (ha.ps B) (hb.ps B)) fun D σ H ⟨ρ, G, r, q⟩ => ⟨ρ, G, r, hc.mono ρ _ _ (fun c ρ1 q G' H' s r' => ?_) q⟩, fun D D' ρ l => hc.mono ρ _ _ fun c ρ1 q => ?_⟩
  · cases c with
    | true => exact ⟨ρ1, G', r', ha.mono _ _ ρ1 (enL_le s) q⟩
    | false => exact ⟨ρ1, G', r', hb.mono _ _ ρ1 (enL_le s) q⟩
  · cases c with
    | true => exact ha.mono _ _ ρ1 l q
    | false => exact hb.mono _ _ ρ1 l q
theorem ss_pass : SS R X (.Pass pos) wNx := ⟨fun B => PS.imp ps_pass fun D σ H ⟨ρ, G, r, q⟩ => q σ G H (Same.refl G) r, fun D D' ρ l h => l.nx ρ h⟩
def wBk : WS := fun D ρ => D.bk ρ
def wCt : WS := fun D ρ => D.ct ρ
theorem ss_break : SS R X (.Break pos) wBk := ⟨fun B => PS.imp ps_break fun D σ H ⟨ρ, G, r, q⟩ => q σ G H (Same.refl G) r, fun D D' ρ l h => l.bk ρ h⟩
theorem ss_continue : SS R X (.Continue pos) wCt := ⟨fun B => PS.imp ps_continue fun D σ H ⟨ρ, G, r, q⟩ => q σ G H (Same.refl G) r, fun D D' ρ l h => l.ct ρ h⟩
theorem ss_doc {x j pos pos'} : SS R X (.Expr (.Constant (.str x) j pos) pos') wNx := ⟨fun B => PS.imp ps_doc fun D σ H ⟨ρ, G, r, q⟩ => q σ G H (Same.refl G) r, fun D D' ρ l h => l.nx ρ h⟩
end
end DL
namespace DL
open PySem PySem.Spec L2
/-! ## what loops go through -/
structure ItD (K : PySem.W.Frag) (G : Hp) (J : It) (xs : List PyData) : Prop where
  go : ∀ i H, i < xs.length → Sub G H → J.go i H
  stop : ∀ H, Sub G H → J.stop xs.length H
  yld : ∀ (i : Nat) H v H' x, xs[i]? = some x → Sub G H → J.yld i H v H' → (H' = H ∧ Is K G v x) ∨ ∃ T vs ds, H T = none ∧ H' = upd H T (.tup vs) ∧ v = .ref T ∧ Iss K G vs ds ∧ x = .tuple ds
theorem ItD.mono {K : PySem.W.Frag} {G G' : Hp} {J : It} {xs : List PyData} (h : ItD K G J xs) (s : Sub G G') : ItD K G' J xs :=
  ⟨fun i H hi q => h.go i H hi (s.trans q), fun H q => h.stop H (s.trans q), fun i H v H' x e q y => (h.yld i H v H' x e (s.trans q) y).imp (fun ⟨a, b⟩ => ⟨a, b.mono s⟩) fun ⟨T, vs, ds, a, b, c, d, f⟩ => ⟨T, vs, ds, a, b, c, d.mono s, f⟩⟩
abbrev WI := Sls → (List PyData → Sls → Prop) → Prop
def liftI (R : Res) (K : PySem.W.Frag) (B : Bs) (w : WI) : TI := fun σ H q => ∃ ρ G, Rel R K B G ρ σ H ∧ w ρ fun xs ρ' => ∀ J G' H', Sub G G' → Rel R K B G' ρ' σ H' → ItD K G' J xs → q J H'
def MonoI (w : WI) : Prop := ∀ (ρ : Sls) (Q Q' : List PyData → Sls → Prop), (∀ d ρ', Q d ρ' → Q' d ρ') → w ρ Q → w ρ Q'
structure SI (R : Res) (X : Cx) (tg e : Expr) (w : WI) : Prop where
  pi : ∀ B, PI X tg e (liftI R X.K B w)
  mono : MonoI w
/-- signs of a text -/
def signs (z : Str) : List PyData := z.cps.toList.map fun c => .str ⟨#[c]⟩
@[simp] def seqD : PyData → Option (List PyData)
  | .list ds => some ds
  | .tuple ds => some ds
  | .str z => some (signs z)
  | _ => none
section
variable {R : Res} {X : Cx} {tg e : Expr}
theorem itd_list {K : PySem.W.Frag} {G : Hp} {a : Addr} {vs : List V} {ds : List PyData} (s : G a = some (.lst vs)) (h : Iss K G vs ds) : ItD K G (Itl K a) ds :=
  ⟨fun i H hi q => by
      obtain ⟨v, e, _⟩ := h.get (List.getElem?_eq_getElem hi)
      exact ⟨vs, v, .of (q _ _ s), e⟩,
    fun H q => ⟨vs, .of (q _ _ s), Nat.le_of_eq h.length⟩,
    fun i H v H' x e q y => by
      obtain ⟨u, e1, e2⟩ := h.get e
      have e3 := y.2 vs (.of (q _ _ s))
      rw [e1] at e3
      cases e3
      exact .inl ⟨y.1, e2⟩⟩
theorem itd_tup {K : PySem.W.Frag} {G : Hp} {a : Addr} {vs : List V} {ds : List PyData} (s : SqT K G a vs) (h : Iss K G vs ds) : ItD K G (Itt K a) ds :=
  ⟨fun i H hi q => by
      obtain ⟨v, e, _⟩ := h.get (List.getElem?_eq_getElem hi)
      exact ⟨vs, v, Sub.seqT q s, e⟩,
    fun H q => ⟨vs, Sub.seqT q s, Nat.le_of_eq h.length⟩,
    fun i H v H' x e q y => by
      obtain ⟨u, e1, e2⟩ := h.get e
      have e3 := y.2 vs (Sub.seqT q s)
      rw [e1] at e3
      cases e3
      exact .inl ⟨y.1, e2⟩⟩
theorem signs_length (z : Str) : (signs z).length = z.cps.size := by
  unfold signs
  rw [List.length_map, Array.length_toList]
theorem signs_get {z : Str} {i : Nat} {x : PyData} (h : (signs z)[i]? = some x) : ∃ c, z.cps[i]? = some c ∧ x = .str ⟨#[c]⟩ := by
  unfold signs at h
  rw [List.getElem?_map, Array.getElem?_toList] at h
  cases q : z.cps[i]? with
  | none => rw [q] at h; cases h
  | some c => rw [q] at h; cases h; exact ⟨c, rfl, rfl⟩
theorem itd_str {K : PySem.W.Frag} {G : Hp} {z : Str} : ItD K G (Its z) (signs z) :=
  ⟨fun i H hi q => by rw [signs_length] at hi; exact hi, fun H q => by rw [signs_length]; exact Nat.le_refl _, fun i H v H' x e q y => by
    obtain ⟨c, e1, rfl⟩ := signs_get e
    obtain ⟨y1, c', y2, rfl⟩ := y
    rw [e1] at y2
    cases y2
    exact .inl ⟨y1, .str _⟩⟩
@[simp] def wI (w : WE) : WI := fun ρ Q => w ρ fun d ρ' => ∃ xs, seqD d = some xs ∧ Q xs ρ'
/-- a list, a tuple, a text gone through -/
theorem si_seq {w : WE} (he : SE R X e w) : SI R X tg e (wI w) := by
  refine ⟨fun B => ⟨fun pins s σ H q I ⟨ρ, G, r, h⟩ => ?_⟩, fun ρ Q Q' hq => he.mono ρ _ _ fun d ρ' ⟨xs, e, q⟩ => ⟨xs, e, hq _ _ q⟩⟩
  have h' : liftE R X.K B w σ H fun v H1 => ∃ d xs ρ' G', Rel R X.K B G' ρ' σ H1 ∧ Is X.K G' v d ∧ seqD d = some xs ∧ ∀ J, ItD X.K G' J xs → q J H1 :=
    ⟨ρ, G, r, he.mono ρ _ _ (fun d ρ' ⟨xs, e, k⟩ v G' H' s r' i => ⟨d, xs, ρ', G', r', i, e, fun J j => k J G' H' s r' j⟩) h⟩
  refine thn ((he.pe B).run pins s σ H _ I h') fun v s1 ⟨x, H1, I1, r1, d, xs, ρ', G', rl, i, e, k⟩ => ?_
  have fresh : ∀ b ∈ [s1.heap.objs.size], FpOk X pins H1 b := fun b hb => by
    rw [List.mem_singleton.mp hb]
    exact I1.fpOk (Nat.le_refl _) (I1.hok.fresh (Nat.le_refl _))
  have keeps : ∀ o, Inv X pins σ H1 { s1 with heap := s1.heap.push o } := fun o => I1.kept (t' := s1.toks) fun b u q => Heap.get?_push_of_some _ q
  cases i with
  | lst sa ha =>
    cases e
    cases r1
    obtain ⟨its, rv, p, hz⟩ := I1.list (SqL.of (rl.sub _ _ sa))
    refine wpAny_pyIter_list p.isList ⟨_, _, _, _, H1, rfl, keeps _, turn_list _ _, ⟨_, Heap.get?_push_size _ rfl, rfl, rfl⟩, fresh, k _ (itd_list sa ha)⟩
  | tup sa ha =>
    cases e
    cases r1
    obtain ⟨its, rv, p, hz⟩ := I1.tuple (Sub.seqT rl.sub sa)
    refine wpAny_pyIter_tuple (show s1.heap.IsTuple _ its.toArray from p) ⟨_, _, _, _, H1, rfl, keeps _, turn_tuple _ _, ⟨_, Heap.get?_push_size _ rfl, rfl, rfl⟩, fresh, k _ (itd_tup sa ha)⟩
  | str z =>
    cases e
    obtain ⟨t, rfl⟩ := r1
    cases hz : z.cps.all (· < 128) with
    | false => exact wpAny_pyIter_wide hz ⟨_, _, _, _, H1, rfl, keeps _, turn_str _ z t "str_iterator" (.inr rfl), ⟨_, Heap.get?_push_size _ rfl, rfl, rfl⟩, fresh, k _ itd_str⟩
    | true => exact wpAny_pyIter_ascii hz ⟨_, _, _, _, H1, rfl, keeps _, turn_str _ z t "str_ascii_iterator" (.inl rfl), ⟨_, Heap.get?_push_size _ rfl, rfl, rfl⟩, fresh, k _ itd_str⟩
  | non => cases e
  | bl _ => cases e
  | int _ => cases e
  | dct _ _ => cases e
  | kdt _ _ => cases e
/-! ### ranges -/
def rngD (lo : Int) (n : Nat) : List PyData := (List.range n).map fun i => .int (lo + (i : Nat))
theorem rngD_length (lo : Int) (n : Nat) : (rngD lo n).length = n := by
  unfold rngD
  rw [List.length_map, List.length_range]
theorem itd_rng {K : PySem.W.Frag} {G : Hp} {lo : Int} {n : Nat} : ItD K G (Itr lo n) (rngD lo n) :=
  ⟨fun i H hi q => by rw [rngD_length] at hi; exact hi, fun H q => by rw [rngD_length]; exact Nat.le_refl _, fun i H v H' x e q y => by
    obtain ⟨y1, rfl⟩ := y
    unfold rngD at e
    rw [List.getElem?_map] at e
    cases z : (List.range n)[i]? with
    | none => rw [z] at e; cases e
    | some j =>
      rw [z] at e
      cases e
      have : j = i := by
        rw [List.getElem?_range] at z
        · cases z
          rfl
        · have := (List.getElem?_eq_some_iff.mp z).1
          rw [List.length_range] at this
          exact this
      subst this
      exact .inl ⟨y1, .int _⟩⟩
def Fit62 (i : Int) : Prop := -(2 ^ 62) ≤ i ∧ i < 2 ^ 62
@[simp] def wRng1 (w : WE) : WI := fun ρ Q => w ρ fun d ρ' => ∃ n, d = .int n ∧ Fit62 n ∧ Q (rngD 0 n.toNat) ρ'
@[simp] def wRng2 (w u : WE) : WI := fun ρ Q => w ρ fun d ρ1 => u ρ1 fun d' ρ' => ∃ n m, d = .int n ∧ d' = .int m ∧ Fit62 n ∧ Fit62 m ∧ Q (rngD n (m - n).toNat) ρ'
theorem Is.intV {K : PySem.W.Frag} {G : Hp} {v : V} {n : Int} (h : Is K G v (.int n)) : v = .int n := by cases h; rfl
theorem si_rng1 {w : WE} {p pos : Pos} (hg : Gl X "range") (hm : X.mg "range" = none) (he : SE R X e w) (hs : starEach [e] X.env = [(false, eval e X.env)] := by rfl) : SI R X tg (.Call (.Name "range" p) [e] [] pos) (wRng1 w) := by
  have h1 : SEs R X [e] [w] := ses_cons he ses_nil (by rw [hs]; rfl)
  refine ⟨fun B => ⟨fun pins s σ H q I ⟨ρ, G, r, h⟩ => (pi_range1 hg hm (h1.pa B) hs).run pins s σ H q I ?_⟩, fun ρ Q Q' hq => he.mono ρ _ _ fun d ρ' ⟨n, e, f, q⟩ => ⟨n, e, f, hq _ _ q⟩⟩
  refine ⟨ρ, G, r, he.mono ρ _ _ (fun d ρ' ⟨n, e, f, k⟩ => fun vs G' H' s r' i => ?_) h⟩
  subst e
  cases i with
  | cons i1 i2 =>
    cases i2
    cases i1
    exact ⟨n, rfl, f.1, f.2, k _ G' H' s r' itd_rng⟩
theorem si_rng2 {e2 : Expr} {w u : WE} {p pos : Pos} (hg : Gl X "range") (hm : X.mg "range" = none) (he : SE R X e w) (hu : SE R X e2 u) (hs : starEach [e, e2] X.env = [(false, eval e X.env), (false, eval e2 X.env)] := by rfl) (hs2 : starEach [e2] X.env = [(false, eval e2 X.env)] := by rfl) :
    SI R X tg (.Call (.Name "range" p) [e, e2] [] pos) (wRng2 w u) := by
  have h1 : SEs R X [e, e2] [w, u] := ses_cons he (ses_cons hu ses_nil (by rw [hs2]; rfl)) (by rw [hs, hs2])
  refine ⟨fun B => ⟨fun pins s σ H q I ⟨ρ, G, r, h⟩ => (pi_range2 hg hm (h1.pa B) hs hs2).run pins s σ H q I ?_⟩, fun ρ Q Q' hq => he.mono ρ _ _ fun d ρ1 => hu.mono ρ1 _ _ fun d' ρ' ⟨n, m, a, b, c, f, q⟩ => ⟨n, m, a, b, c, f, hq _ _ q⟩⟩
  refine ⟨ρ, G, r, he.mono ρ _ _ (fun d ρ1 => hu.mono ρ1 _ _ fun d' ρ' ⟨n, m, a, b, c, f, k⟩ => fun vs G' H' s r' i => ?_) h⟩
  subst a b
  cases i with
  | cons i1 i2 =>
    cases i2 with
    | cons i3 i4 =>
      cases i4
      cases i1
      cases i3
      exact ⟨n, m, rfl, ⟨c.1, c.2, f.1, f.2⟩, k _ G' H' s r' itd_rng⟩
end
/-! ## targets -/
abbrev WG := PyData → Sls → (Sls → Prop) → Prop
def MonoG (g : WG) : Prop := ∀ (d : PyData) (ρ : Sls) (Q Q' : Sls → Prop), (∀ ρ', Q ρ' → Q' ρ') → g d ρ Q → g d ρ Q'
/-- slots but these stand as they stood -/
def Off (is : List Nat) (σ σ' : L2.St) : Prop := σ'.length = σ.length ∧ ∀ i, i ∉ is → σ'[i]? = σ[i]?
theorem Off.refl (is : List Nat) (σ : L2.St) : Off is σ σ := ⟨rfl, fun _ _ => rfl⟩
theorem Off.trans {is js : List Nat} {a b c : L2.St} (h : Off is a b) (k : Off js b c) : Off (is ++ js) a c :=
  ⟨k.1.trans h.1, fun i n => by
    rw [List.mem_append, not_or] at n
    rw [k.2 i n.2, h.2 i n.1]⟩
/-- the reading of a target, of data that stays -/
structure SG (R : Res) (X : Cx) (tg : Expr) (t : TG) (g : WG) (is : List Nat) : Prop where
  pg : PG X tg t
  to : ∀ (B : Bs) (ρ : Sls) (G : Hp) (σ : L2.St) (H : Hp) (v : V) (d : PyData) (q : L2.St → Hp → Prop), Rel R X.K B G ρ σ H → Is X.K G v d → (g d ρ fun ρ' => ∀ σ' G' H', Off is σ σ' → Sub G G' → Rel R X.K B G' ρ' σ' H' → q σ' H') → t v σ H q
  mono : MonoG g
structure SGs (R : Res) (X : Cx) (ts : List Expr) (t : TGs) (g : List PyData → Sls → (Sls → Prop) → Prop) (is : List Nat) : Prop where
  pg : PGs X ts t
  to : ∀ (B : Bs) (ρ : Sls) (G : Hp) (σ : L2.St) (H : Hp) (vs : List V) (ds : List PyData) (q : L2.St → Hp → Prop), Rel R X.K B G ρ σ H → Iss X.K G vs ds → (g ds ρ fun ρ' => ∀ σ' G' H', Off is σ σ' → Sub G G' → Rel R X.K B G' ρ' σ' H' → q σ' H') → t vs σ H q
  mono : ∀ (d : List PyData) (ρ : Sls) (Q Q' : Sls → Prop), (∀ ρ', Q ρ' → Q' ρ') → g d ρ Q → g d ρ Q'
section
variable {R : Res} {X : Cx} {pos : Pos}
@[simp] def wgName (i : Nat) : WG := fun d ρ Q => Q (ρ.set i (.d d))
theorem sg_name {i : Nat} {x : Str} (h : PG X (.Name x pos) (gName i)) : SG R X (.Name x pos) (gName i) (wgName i) [i] :=
  ⟨h, fun B ρ G σ H v d q r i' k => k _ G H ⟨List.length_set, fun j n => set_get fun e => n (by simp [e])⟩ (Same.refl G) (r.setD i'), fun d ρ Q Q' h q => h _ q⟩
@[simp] def wgNil : List PyData → Sls → (Sls → Prop) → Prop := fun ds ρ Q => ds = [] ∧ Q ρ
@[simp] def wgCons (g : WG) (u : List PyData → Sls → (Sls → Prop) → Prop) : List PyData → Sls → (Sls → Prop) → Prop := fun ds ρ Q => ∃ d r, ds = d :: r ∧ g d ρ fun ρ' => u r ρ' Q
theorem sgs_nil : SGs R X [] gNil wgNil [] := ⟨pgs_nil, fun B ρ G σ H vs ds q r i ⟨e, k⟩ => by
  subst e
  cases i
  exact ⟨rfl, k σ G H (Off.refl _ σ) (Same.refl G) r⟩, fun d ρ Q Q' h ⟨e, q⟩ => ⟨e, h _ q⟩⟩
theorem sgs_cons {e : Expr} {es : List Expr} {t : TG} {u : TGs} {g : WG} {gs : List PyData → Sls → (Sls → Prop) → Prop} {is js : List Nat} (h1 : SG R X e t g is) (h2 : SGs R X es u gs js) (hs : (assignEach (e :: es) X.env).map (·.2) = assign e X.env :: (assignEach es X.env).map (·.2) := by rfl) :
    SGs R X (e :: es) (gCons t u) (wgCons g gs) (is ++ js) := by
  refine ⟨pgs_cons h1.pg h2.pg hs, fun B ρ G σ H vs ds q r i ⟨d, ds', e, k⟩ => ?_, fun ds ρ Q Q' hq ⟨d, r, e, q⟩ => ⟨d, r, e, h1.mono d ρ _ _ (fun ρ' q => h2.mono r ρ' _ _ hq q) q⟩⟩
  subst e
  cases i with
  | cons i1 i2 =>
    refine ⟨_, _, rfl, h1.to B ρ G σ H _ d _ r i1 (h1.mono d ρ _ _ (fun ρ' k σ' G' H' o s r' => ?_) k)⟩
    exact h2.to B ρ' G' σ' H' _ ds' q r' (i2.mono s) (h2.mono ds' ρ' _ _ (fun ρ2 k σ2 G2 H2 o2 s2 r2 => k σ2 G2 H2 (o.trans o2) (s.trans s2) r2) k)
@[simp] def wgTup (n : Nat) (g : List PyData → Sls → (Sls → Prop) → Prop) : WG := fun d ρ Q => ∃ ds, d = .tuple ds ∧ ds.length = n ∧ g ds ρ Q
theorem sg_tup {es : List Expr} {k : Nat} {t : TGs} {g : List PyData → Sls → (Sls → Prop) → Prop} {n : Nat} {is : List Nat} (hc : X.calm = true) (h : SGs R X es t g is) (hn : (assignEach es X.env).length = n := by rfl) (hst : (assignEach es X.env).findIdx? (·.1) = none := by rfl) :
    SG R X (.Tuple es k pos) (gTup X.K n t) (wgTup n g) is := by
  refine ⟨pg_tup hc h.pg hn hst, fun B ρ G σ H v d q r i ⟨ds, e, l, k⟩ => ?_, fun d ρ Q Q' hq ⟨ds, e, l, q⟩ => ⟨ds, e, l, h.mono ds ρ _ _ hq q⟩⟩
  subst e
  cases i with
  | tup sa ha => exact ⟨_, _, rfl, Sub.seqT r.sub sa, by rw [ha.length]; exact l, h.to B ρ G σ H _ ds q r ha k⟩
/-! ## for -/
def wLoop (g : WG) (b : WS) : List PyData → WS
  | [], D, ρ => D.nx ρ
  | x :: xs, D, ρ => g x ρ fun ρ1 => b { D with nx := wLoop g b xs D, ct := wLoop g b xs D, bk := D.nx } ρ1
theorem mono_loop {g : WG} {b : WS} (mg : MonoG g) (mb : MonoS b) : ∀ xs, MonoS (wLoop g b xs)
  | [], D, D', ρ, l, h => l.nx ρ h
  | x :: xs, D, D', ρ, l, h => mg x ρ _ _ (fun ρ1 q => mb { D with nx := wLoop g b xs D, ct := wLoop g b xs D, bk := D.nx } _ ρ1 ⟨fun ρ2 => mono_loop mg mb xs D D' ρ2 l, l.rt, l.nx, fun ρ2 => mono_loop mg mb xs D D' ρ2 l⟩ q) h
@[simp] def wFor (wi : WI) (g : WG) (b : WS) : WS := fun D ρ => wi ρ fun xs ρ1 => wLoop g b xs D ρ1
theorem ss_for {tg iter : Expr} {body : List Stmt} {wi : WI} {t : TG} {g : WG} {b : WS} (hp : PassesOwn (model X.prog X.w) X.A X.env X.xe) (hc : X.calm = true) (hi : SI R X tg iter wi) {is : List Nat} (hg : SG R X tg t g is) (hb : SSs R X body b)
    (hs : ∀ x, foldedSetIterable iter X.env x = pure x := by intro _; rfl) : SS R X (.For tg iter body [] pos) (wFor wi g b) := by
  refine ⟨fun B => PS.imp (ps_for hp hc (hi.pi B) hg.pg (hb.ps B) hs) fun D σ H ⟨ρ, G, r, q⟩ => ⟨ρ, G, r, hi.mono ρ _ _ (fun xs ρ1 q J G1 H1 s1 r1 j => ?_) q⟩, fun D D' ρ l => hi.mono ρ _ _ fun xs ρ1 q => mono_loop hg.mono hb.mono xs D D' ρ1 l q⟩
  refine ⟨fun i m σ' H' => m = xs.length - i ∧ i ≤ xs.length ∧ ∃ ρ' G', Sub G1 G' ∧ Rel R X.K B G' ρ' σ' H' ∧ wLoop g b (xs.drop i) (enL R X.K B G D) ρ', ⟨xs.length, rfl, Nat.zero_le _, ρ1, G1, Same.refl G1, r1, q⟩, ?_⟩
  rintro i m σ' H' ⟨rfl, hle, ρ', G', s', r', k⟩
  by_cases hlt : i < xs.length
  · refine .inr ⟨j.go i H' hlt (s'.trans r'.sub), fun σ2 H2 => ∃ ρ2 G2, Sub G1 G2 ∧ Rel R X.K B G2 ρ2 σ2 H2 ∧ wLoop g b (xs.drop (i + 1)) (enL R X.K B G D) ρ2, fun σ2 H2 n2 => ⟨xs.length - (i + 1), by omega, rfl, hlt, n2⟩, fun v H2 y => ?_⟩
    rw [List.drop_eq_getElem_cons hlt] at k
    have step : ∀ G2, Sub G' G2 → Rel R X.K B G2 ρ' σ' H2 → Is X.K G2 v xs[i] → t v σ' H2 fun σ3 H3 => liftS R X.K B b { D with nx := fun σ4 H4 => ∃ ρ4 G4, Sub G1 G4 ∧ Rel R X.K B G4 ρ4 σ4 H4 ∧ wLoop g b (xs.drop (i + 1)) (enL R X.K B G D) ρ4, ct := fun σ4 H4 => ∃ ρ4 G4, Sub G1 G4 ∧ Rel R X.K B G4 ρ4 σ4 H4 ∧ wLoop g b (xs.drop (i + 1)) (enL R X.K B G D) ρ4, bk := D.nx } σ3 H3 := fun G2 s2 r2 i2 => by
      refine hg.to B ρ' G2 σ' H2 v _ _ r2 i2 (hg.mono _ ρ' _ _ (fun ρ3 q3 σ3 G3 H3 _ s3 r3 => ⟨ρ3, G3, r3, hb.mono _ _ ρ3 ⟨fun ρ4 q4 σ4 G4 H4 s4 r4 => ⟨ρ4, G4, ((s'.trans s2).trans s3).trans s4, r4, q4⟩, fun d q4 => rtL_le (((s1.trans s').trans s2).trans s3) d q4, fun ρ4 q4 σ4 G4 H4 s4 r4 => ?_, fun ρ4 q4 σ4 G4 H4 s4 r4 => ⟨ρ4, G4, ((s'.trans s2).trans s3).trans s4, r4, q4⟩⟩ q3⟩) k)
      · exact q4 σ4 G4 H4 ((((s1.trans s').trans s2).trans s3).trans s4) r4
    rcases j.yld i H' v H2 xs[i] (List.getElem?_eq_getElem hlt) (s'.trans r'.sub) y with ⟨rfl, iv⟩ | ⟨T, vs, ds, nT, rfl, rfl, hv, ex⟩
    · exact step G' (Same.refl G') r' (iv.mono s')
    · have sg : Sub G' (upd G' T (.tup vs)) := upd_new (r'.sub.free nT)
      refine step _ sg (r'.laid nT) ?_
      rw [ex]
      exact .tup (.inl (.inl upd_same)) (hv.mono (s'.trans sg))
  · have e : i = xs.length := by omega
    subst e
    rw [List.drop_length] at k
    exact .inl ⟨j.stop H' (s'.trans r'.sub), k σ' G' H' (s1.trans s') r'⟩
end
end DL
namespace DL
open PySem PySem.Spec L2
/-! ## while -/
def wWhN (t : WT) (b : WS) : Nat → WS
  | 0, _, _ => False
  | n + 1, D, ρ => t ρ fun c ρ1 => if c = true then b { D with nx := wWhN t b n D, ct := wWhN t b n D, bk := D.nx } ρ1 else D.nx ρ1
def wWh (t : WT) (b : WS) : WS := fun D ρ => ∃ n, wWhN t b n D ρ
theorem mono_whN {t : WT} {b : WS} (mt : MonoT t) (mb : MonoS b) : ∀ n, MonoS (wWhN t b n)
  | 0, D, D', ρ, l, h => h
  | n + 1, D, D', ρ, l, h => mt ρ _ _ (fun c ρ1 q => by
    cases c with
    | true => exact mb { D with nx := wWhN t b n D, ct := wWhN t b n D, bk := D.nx } _ ρ1 ⟨fun ρ2 => mono_whN mt mb n D D' ρ2 l, l.rt, l.nx, fun ρ2 => mono_whN mt mb n D D' ρ2 l⟩ q
    | false => exact l.nx ρ1 q) h
section
variable {R : Res} {X : Cx} {pos : Pos}
theorem ss_while {c : Expr} {body : List Stmt} {t : WT} {b : WS} (hp : PassesOwn (model X.prog X.w) X.A X.env X.xe) (hc : ST R X c t) (hb : SSs R X body b) : SS R X (.While c body [] pos) (wWh t b) := by
  refine ⟨fun B => PS.imp (ps_while hp (hc.pt B) (hb.ps B)) fun D σ H ⟨ρ, G, r, n, q⟩ => ?_, fun D D' ρ l ⟨n, q⟩ => ⟨n, mono_whN hc.mono hb.mono n D D' ρ l q⟩⟩
  refine ⟨fun m σ' H' => ∃ ρ' G', Sub G G' ∧ Rel R X.K B G' ρ' σ' H' ∧ wWhN t b m (enL R X.K B G D) ρ', ⟨n, ρ, G, Same.refl G, r, q⟩, fun m σ1 H1 ⟨ρ1, G1, s1, r1, q1⟩ => ?_⟩
  cases m with
  | zero => exact q1.elim
  | succ m =>
    refine ⟨ρ1, G1, r1, hc.mono ρ1 _ _ (fun c ρ2 q2 G2 H2 s2 r2 => ?_) q1⟩
    cases c with
    | false => exact q2 σ1 G2 H2 (s1.trans s2) r2
    | true =>
      refine ⟨fun σ3 H3 => ∃ ρ3 G3, Sub G G3 ∧ Rel R X.K B G3 ρ3 σ3 H3 ∧ wWhN t b m (enL R X.K B G D) ρ3, fun σ3 H3 q3 => ⟨m, Nat.lt_succ_self m, q3⟩, ρ2, G2, r2, ?_⟩
      refine hb.mono { enL R X.K B G D with nx := wWhN t b m (enL R X.K B G D), ct := wWhN t b m (enL R X.K B G D), bk := (enL R X.K B G D).nx } _ ρ2 ⟨fun ρ3 q3 σ3 G3 H3 s3 r3 => ⟨ρ3, G3, (s1.trans s2).trans s3, r3, q3⟩, fun d q3 => rtL_le (s1.trans s2) d q3, fun ρ3 q3 σ3 G3 H3 s3 r3 => q3 σ3 G3 H3 ((s1.trans s2).trans s3) r3, fun ρ3 q3 σ3 G3 H3 s3 r3 => ⟨ρ3, G3, (s1.trans s2).trans s3, r3, q3⟩⟩ q2
end
/-! ## comprehensions -/
/-- the block's own slots -/
@[simp] def wipS (ρ : Sls) : List Nat → Sls
  | [] => ρ
  | v :: vs => (wipS ρ vs).set v .un
theorem wipS_length (ρ : Sls) : ∀ vs, (wipS ρ vs).length = ρ.length
  | [] => rfl
  | v :: vs => by
    unfold wipS
    rw [List.length_set, wipS_length ρ vs]
theorem wipS_get {ρ : Sls} {i : Nat} {s : Sl} : ∀ {vs : List Nat}, (wipS ρ vs)[i]? = some s → s = .un ∨ (i ∉ vs ∧ ρ[i]? = some s)
  | [], h => .inr ⟨by simp, h⟩
  | v :: vs, h => by
    unfold wipS at h
    rcases set_at h with ⟨_, z⟩ | ⟨n, z⟩
    · exact .inl z
    · rcases wipS_get z with q | ⟨q1, q2⟩
      · exact .inl q
      · exact .inr ⟨by simp only [List.mem_cons, not_or]; exact ⟨fun e => n e.symm, q1⟩, q2⟩
/-- behind the block: the own slots as they were (data), the others as the block leaves them -/
def backS (ρ ρ' : Sls) (vs : List Nat) : Sls := ρ'.mapIdx fun i s => if i ∈ vs then (match ρ[i]? with | some (.d x) => .d x | _ => .un) else s
def wLcL (g : WG) (tt : WT) (te : WE) (vs : List Nat) (ρ0 : Sls) : List PyData → List PyData → Sls → (List PyData → Sls → Prop) → Prop
  | [], acc, ρ, Q => Q acc (backS ρ0 ρ vs)
  | x :: xs, acc, ρ, Q => g x (wipS ρ vs) fun ρ1 => tt ρ1 fun c ρ2 => if c = true then te ρ2 fun d ρ3 => acc.length < sizeLine ∧ wLcL g tt te vs ρ0 xs (acc ++ [d]) ρ3 Q else wLcL g tt te vs ρ0 xs acc ρ2 Q
@[simp] def wLc (wi : WI) (g : WG) (tt : WT) (te : WE) (vs : List Nat) : WE := fun ρ Q => wi ρ fun xs ρ1 => wLcL g tt te vs ρ1 xs [] ρ1 fun ds ρ' => Q (.list ds) ρ'
theorem mono_lcL {g : WG} {tt : WT} {te : WE} {vs : List Nat} {ρ0 : Sls} (mg : MonoG g) (mt : MonoT tt) (me : MonoE te) : ∀ (xs acc : List PyData) (ρ : Sls) (Q Q' : List PyData → Sls → Prop), (∀ ds ρ', Q ds ρ' → Q' ds ρ') → wLcL g tt te vs ρ0 xs acc ρ Q → wLcL g tt te vs ρ0 xs acc ρ Q'
  | [], acc, ρ, Q, Q', h, q => h _ _ q
  | x :: xs, acc, ρ, Q, Q', h, q => mg x _ _ _ (fun ρ1 q => mt ρ1 _ _ (fun c ρ2 q => by
    cases c with
    | true => exact me ρ2 _ _ (fun d ρ3 ⟨z, q⟩ => ⟨z, mono_lcL mg mt me xs (acc ++ [d]) ρ3 Q Q' h q⟩) q
    | false => exact mono_lcL mg mt me xs acc ρ2 Q Q' h q) q) q
end DL
namespace DL
open PySem PySem.Spec L2
theorem wipe_in {σ : L2.St} {j : Nat} : ∀ {vs : List Nat}, j ∈ vs → (wipe σ vs)[j]? = σ[j]?.map fun _ => none
  | v :: vs, h => by
    unfold wipe
    by_cases e : v = j
    · subst e
      rw [List.getElem?_set]
      simp only [if_true]
      rw [wipe_length]
      by_cases hl : v < σ.length
      · rw [if_pos hl, List.getElem?_eq_getElem hl]
        rfl
      · rw [if_neg hl, List.getElem?_eq_none (by omega)]
        rfl
    · rw [List.getElem?_set_ne e]
      rcases List.mem_cons.mp h with z | z
      · exact absurd z.symm e
      · exact wipe_in z
theorem wipe_same {σ σ2 : L2.St} {is vs : List Nat} (h : Off is (wipe σ vs) σ2) (hs : ∀ i ∈ is, i ∈ vs) : wipe σ2 vs = wipe σ vs := by
  refine List.ext_getElem? fun j => ?_
  by_cases hj : j ∈ vs
  · rw [wipe_in hj, wipe_in hj]
    have hl : σ2.length = σ.length := by rw [h.1, wipe_length]
    by_cases q : j < σ.length
    · rw [List.getElem?_eq_getElem q, List.getElem?_eq_getElem (by omega)]
      rfl
    · rw [List.getElem?_eq_none (by omega), List.getElem?_eq_none (by omega)]
  · rw [wipe_out hj, h.2 j fun z => hj (hs j z)]
def Bs.wth (B : Bs) (D : Addr) (acc : List V) : Bs := { B with H0 := upd B.H0 D (.lst acc) }
section
variable {R : Res} {K : PySem.W.Frag} {B : Bs} {G : Hp} {ρ : Sls} {σ : L2.St} {H : Hp} {D : Addr} {acc : List V}
theorem Rel.wip (r : Rel R K B G ρ σ H) {vs : List Nat} : Rel R K B G (wipS ρ vs) (wipe σ vs) H :=
  r.weak (by rw [wipS_length, wipe_length]; exact r.len) fun i s e => by
    rcases wipS_get e with z | ⟨z1, z2⟩
    · exact .inl z
    · exact .inr ⟨z2, wipe_out z1⟩
/-- the new list of a comprehension, set apart -/
theorem Rel.begin (r : Rel R K B G ρ σ H) (n : H D = none) : Rel R K (B.wth D []) G ρ σ (upd H D (.lst [])) := by
  have u := r.up (o := .lst []) n
  have g0 : B.G0 D = none := by
    cases q : B.G0 D with
    | none => rfl
    | some o =>
      have := r.sub _ _ (r.g0 _ _ q)
      rw [n] at this
      cases this
  have h0 : B.H0 D = none := r.h0 n
  have nfp : ∀ b ∈ B.fp, b ≠ D := fun b hb z => (r.fp0 b hb).2.2 (by rw [z]; exact n)
  refine ⟨u.sub, u.len, u.g0, fun b h1 h2 => ?_, fun b o e hb => ?_, fun b hb => ?_, u.d, u.s, fun i x e => ?_, ?_⟩
  · by_cases hb : b = D
    · subst hb
      exact absurd (r.sub.free n) h2
    · rw [show (B.wth D []).H0 b = B.H0 b from upd_ne hb] at h1
      exact u.new b h1 h2
  · by_cases hb' : b = D
    · subst hb'
      rw [show (B.wth b []).H0 b = some (.lst []) from upd_same] at e
      cases e
      exact upd_same
    · rw [show (B.wth D []).H0 b = B.H0 b from upd_ne hb'] at e
      exact u.fr b o e hb
  · obtain ⟨z1, z2, z3⟩ := u.fp0 b hb
    exact ⟨z1, by rw [show (B.wth D []).H0 b = B.H0 b from upd_ne (nfp b hb)]; exact z2, z3⟩
  · obtain ⟨a, ho, e1, e2, e3, e4, e5, e6⟩ := u.o i x e
    have na : a ≠ D := fun z => by
      obtain ⟨a', ho', q1, _, _, q4, _⟩ := r.o i x e
      rw [e1] at q1
      cases q1
      rw [z, n] at q4
      cases q4
    exact ⟨a, ho, e1, e2, by rw [show (B.wth D []).H0 a = B.H0 a from upd_ne na]; exact e3, e4, e5, e6⟩
  · obtain ⟨la, fp, q⟩ := r.l
    have nb : ∀ b ∈ fp, b ≠ D := fun b hb z => (q.pf b hb).2.1 (by rw [z]; exact n)
    refine ⟨la, fp, q.pl, fun z => R.loc H _ la fp (fun b hb => upd_ne (nb b hb)) (q.ok z), fun b hb => ?_, q.tie⟩
    obtain ⟨z1, z0, z2, z3⟩ := q.pf b hb
    rw [upd_ne (nb b hb)]
    exact ⟨z1, z0, z2.imp (fun z => by rw [show (B.wth D []).H0 b = B.H0 b from upd_ne (nb b hb)]; exact z) id, z3⟩
/-- what is true of the cell set apart -/
theorem Rel.apart (r : Rel R K (B.wth D acc) G ρ σ H) (h0 : B.G0 D = none) (nf : D ∉ B.fp) : H D = some (.lst acc) ∧ G D = none := by
  refine ⟨r.fr D _ upd_same nf, ?_⟩
  cases q : G D with
  | none => rfl
  | some o => exact absurd h0 (r.new D (by rw [show (B.wth D acc).H0 D = some (.lst acc) from upd_same]; exact nofun) (by rw [q]; exact nofun))
theorem Rel.turn (r : Rel R K (B.wth D acc) G ρ σ H) (h0 : B.G0 D = none) (nf : D ∉ B.fp) (acc' : List V) : Rel R K (B.wth D acc') G ρ σ (upd H D (.lst acc')) := by
  obtain ⟨hD, gD⟩ := r.apart h0 nf
  have same : ∀ b, b ≠ D → (B.wth D acc').H0 b = (B.wth D acc).H0 b := fun b n => by
    rw [show (B.wth D acc').H0 b = B.H0 b from upd_ne n, show (B.wth D acc).H0 b = B.H0 b from upd_ne n]
  have wD : (B.wth D acc).H0 D = some (.lst acc) := upd_same
  refine ⟨r.sub.up gD, r.len, r.g0, fun b h1 h2 => ?_, fun b o e hb => ?_, fun b hb => ?_, r.d, r.s, fun i x e => ?_, ?_⟩
  · by_cases hb : b = D
    · subst hb
      exact absurd gD h2
    · rw [same b hb] at h1
      exact r.new b h1 h2
  · by_cases hb' : b = D
    · subst hb'
      rw [show (B.wth b acc').H0 b = some (.lst acc') from upd_same] at e
      cases e
      exact upd_same
    · rw [same b hb'] at e
      rw [upd_ne hb']
      exact r.fr b o e hb
  · have nb : b ≠ D := fun z => nf (z ▸ hb)
    rw [same b nb, upd_ne nb]
    exact r.fp0 b hb
  · obtain ⟨a, ho, e1, e2, e3, e4, e5, e6⟩ := r.o i x e
    have na : a ≠ D := fun z => by
      rw [z, wD] at e3
      cases e3
    exact ⟨a, ho, e1, e2, by rw [same a na]; exact e3, by rw [upd_ne na]; exact e4, e5, e6⟩
  · obtain ⟨la, fp, q⟩ := r.l
    have nb : ∀ b ∈ fp, b ≠ D := fun b hb z => by
      rcases (q.pf b hb).2.2.1 with y | y
      · rw [z, wD] at y
        cases y
      · exact nf (z ▸ y)
    refine ⟨la, fp, q.pl, fun z => R.loc H _ la fp (fun b hb => upd_ne (nb b hb)) (q.ok z), fun b hb => ?_, q.tie⟩
    rw [upd_ne (nb b hb), same b (nb b hb)]
    exact q.pf b hb
/-- the block is over -/
theorem Rel.over {ρ0 : Sls} {G0' : Hp} {H0' : Hp} {vs : List Nat} (r0 : Rel R K B G0' ρ0 σ H0') (sg : Sub G0' G) (n0 : H0' D = none) (r : Rel R K (B.wth D acc) G (wipS ρ vs) (wipe σ vs) H) {ds : List PyData} (ha : Iss K G acc ds) :
    Rel R K B G (backS ρ0 ρ vs) σ H ∧ IsNew R K B G σ (backS ρ0 ρ vs) H (.ref D) (.list ds) := by
  have h0 : B.H0 D = none := r0.h0 n0
  have g0 : B.G0 D = none := by
    cases q : B.G0 D with
    | none => rfl
    | some o =>
      have := r0.sub _ _ (r0.g0 _ _ q)
      rw [n0] at this
      cases this
  have nf : D ∉ B.fp := fun hb => (r0.fp0 D hb).2.2 n0
  obtain ⟨hD, gD⟩ := r.apart g0 nf
  have wD : (B.wth D acc).H0 D = some (.lst acc) := upd_same
  have back : ∀ (b : Addr), b ≠ D → (B.wth D acc).H0 b = B.H0 b := fun b n => upd_ne n
  have hlen : ρ.length = σ.length := by
    have := r.len
    rw [wipS_length, wipe_length] at this
    exact this
  have bget : ∀ (i : Nat) (s : Sl), (backS ρ0 ρ vs)[i]? = some s → (i ∈ vs ∧ (s = .un ∨ ∃ x, s = .d x ∧ ρ0[i]? = some (.d x))) ∨ (i ∉ vs ∧ ρ[i]? = some s) := fun i s e => by
    unfold backS at e
    rw [List.getElem?_mapIdx] at e
    cases q : ρ[i]? with
    | none => rw [q] at e; cases e
    | some s' =>
      rw [q] at e
      simp only [Option.map_some, Option.some.injEq] at e
      by_cases hi : i ∈ vs
      · rw [if_pos hi] at e
        refine .inl ⟨hi, ?_⟩
        split at e
        · rename_i x ex
          exact .inr ⟨x, e.symm, ex⟩
        · exact .inl e.symm
      · rw [if_neg hi] at e
        exact .inr ⟨hi, by rw [e]⟩
  have win : ∀ (i : Nat) (s : Sl), i ∉ vs → ρ[i]? = some s → (wipS ρ vs)[i]? = some s := fun i s hi e => by
    have hl : i < (wipS ρ vs).length := by
      rw [wipS_length]
      exact (List.getElem?_eq_some_iff.mp e).1
    have : ∀ (ws : List Nat), i ∉ ws → (wipS ρ ws)[i]? = ρ[i]? := fun ws => by
      induction ws with
      | nil => intro _; rfl
      | cons v ws ih =>
        intro h
        simp only [List.mem_cons, not_or] at h
        show ((wipS ρ ws).set v .un)[i]? = _
        rw [List.getElem?_set_ne (fun z => h.1 z.symm), ih h.2]
    rw [this vs hi, e]
  have own : ∀ (i : Nat) (x : PyData), (backS ρ0 ρ vs)[i]? = some (.own x) → i ∉ vs ∧ (wipS ρ vs)[i]? = some (.own x) := fun i x e => by
    rcases bget i _ e with ⟨_, z | ⟨y, z, _⟩⟩ | ⟨z1, z2⟩
    · cases z
    · cases z
    · exact ⟨z1, win i _ z1 z2⟩
  have lom : ∀ (i : Nat), (backS ρ0 ρ vs)[i]? = some .loom → i ∉ vs ∧ (wipS ρ vs)[i]? = some .loom := fun i e => by
    rcases bget i _ e with ⟨_, z | ⟨y, z, _⟩⟩ | ⟨z1, z2⟩
    · cases z
    · cases z
    · exact ⟨z1, win i _ z1 z2⟩
  have ol : ∀ b, (∀ (j : Nat) (y : PyData), (wipS ρ vs)[j]? = some (.own y) → (wipe σ vs)[j]? ≠ some (some (.ref b))) → ∀ (j : Nat) (y : PyData), (backS ρ0 ρ vs)[j]? = some (.own y) → σ[j]? ≠ some (some (.ref b)) := fun b h j y e => by
    obtain ⟨n, e'⟩ := own j y e
    have := h j y e'
    rw [wipe_out n] at this
    exact this
  obtain ⟨la, fp, q⟩ := r.l
  have fne : ∀ b ∈ fp, b ≠ D := fun b hb z => by
    rcases (q.pf b hb).2.2.1 with y | y
    · rw [z, wD] at y
      cases y
    · exact nf (z ▸ y)
  have lpart : LoomAt R B G (backS ρ0 ρ vs) σ H la fp := by
    refine ⟨fun i e => ?_, fun z => q.ok (z.imp (fun ⟨i, e⟩ => ⟨i, (lom i e).2⟩) id), fun b hb => ?_, q.tie⟩
    · obtain ⟨n, e'⟩ := lom i e
      have := q.pl i e'
      rw [wipe_out n] at this
      exact this
    · obtain ⟨z1, z0, z2, z3⟩ := q.pf b hb
      exact ⟨z1, z0, z2.imp (fun z => by rw [back b (fne b hb)] at z; exact z) id, ol b z3⟩
  refine ⟨⟨r.sub, by unfold backS; rw [List.length_mapIdx]; exact hlen, r.g0, fun b h1 h2 => ?_, fun b o e hb => ?_, fun b hb => ?_, fun i x e => ?_, fun i x e => ?_, fun i x e => ?_, la, fp, lpart⟩, ?_⟩
  · by_cases hb : b = D
    · subst hb
      exact absurd h0 h1
    · exact r.new b (by rw [back b hb]; exact h1) h2
  · have nb : b ≠ D := fun z => by
      rw [z, h0] at e
      cases e
    exact r.fr b o (by rw [back b nb]; exact e) hb
  · have nb : b ≠ D := fun z => nf (z ▸ hb)
    have := r.fp0 b hb
    rw [back b nb] at this
    exact this
  · rcases bget i _ e with ⟨z0, z | ⟨y, z, z'⟩⟩ | ⟨z1, z2⟩
    · cases z
    · cases z
      obtain ⟨v, e1, e2⟩ := r0.d i x z'
      exact ⟨v, e1, e2.mono sg⟩
    · obtain ⟨v, e1, e2⟩ := r.d i x (win i _ z1 z2)
      rw [wipe_out z1] at e1
      exact ⟨v, e1, e2⟩
  · rcases bget i _ e with ⟨z0, z | ⟨y, z, z'⟩⟩ | ⟨z1, z2⟩
    · cases z
    · cases z
    · obtain ⟨a, e1, e2⟩ := r.s i x (win i _ z1 z2)
      rw [wipe_out z1] at e1
      exact ⟨a, e1, e2⟩
  · obtain ⟨n, e'⟩ := own i x e
    obtain ⟨a, ho, e1, e2, e3, e4, e5, e6⟩ := r.o i x e'
    have na : a ≠ D := fun z => by
      rw [z, wD] at e3
      cases e3
    rw [wipe_out n] at e1
    refine ⟨a, ho, e1, e2, by rw [back a na] at e3; exact e3, e4, e5, fun j y h1 h2 => ?_⟩
    obtain ⟨nj, h1'⟩ := own j y h1
    exact e6 j y h1' (by rw [wipe_out nj]; exact h2)
  · refine ⟨D, _, rfl, gD, h0, hD, .lst ha, ol D fun j y e z => ?_, la, fp, lpart, fun z => fne D z rfl⟩
    obtain ⟨a, ho, e1, _, e3, _⟩ := r.o j y e
    rw [e1] at z
    cases z
    rw [wD] at e3
    cases e3
end
end DL
namespace DL
open PySem PySem.Spec L2
def sh0 : Shared := {}
structure STs (R : Res) (X : Cx) (ifs : List Expr) (w : WT) : Prop where
  pts : ∀ B, PTs X ifs (liftT R X.K B w)
  mono : MonoT w
@[simp] def wYes : WT := fun ρ Q => Q true ρ
section
variable {R : Res} {X : Cx} {pos : Pos}
theorem PTs.imp {X : Cx} {e : List Expr} {t t' : TT} (h : PTs X e t) (f : ∀ σ H Q, t' σ H Q → t σ H Q) : PTs X e t' :=
  ⟨fun pins s σ H Q I q => h.run pins s σ H Q I (f σ H Q q)⟩
theorem sts_nil : STs R X [] wYes := ⟨fun B => PTs.imp pts_nil fun σ H Q ⟨ρ, G, r, q⟩ => q G H (Same.refl G) r, fun ρ Q Q' h q => h _ _ q⟩
theorem sts_one {c : Expr} {t : WT} (h : ST R X c t) : STs R X [c] t := ⟨fun B => pts_one (h.pt B), h.mono⟩
/-- B left open -/
def anyE (R : Res) (K : PySem.W.Frag) (w : WE) : TE := fun σ H Q => ∃ B, liftE R K B w σ H Q
def anyT (R : Res) (K : PySem.W.Frag) (w : WT) : TT := fun σ H Q => ∃ B, liftT R K B w σ H Q
theorem SE.any {e : Expr} {w : WE} (h : SE R X e w) : PE X e (anyE R X.K w) := ⟨fun pins s σ H Q I ⟨B, q⟩ => (h.pe B).run pins s σ H Q I q⟩
theorem STs.any {ifs : List Expr} {w : WT} (h : STs R X ifs w) : PTs X ifs (anyT R X.K w) := ⟨fun pins s σ H Q I ⟨B, q⟩ => (h.pts B).run pins s σ H Q I q⟩
/-- what a comprehension's reading asks, from the data -/
theorem lc_lift {K : PySem.W.Frag} {B : Bs} {tg : Expr} {wi : WI} {t : TG} {g : WG} {tt : WT} {te : WE} {is vs : List Nat} {σ : L2.St} {H : Hp} {Q : VK} (mi : MonoI wi) (mt : MonoT tt) (me : MonoE te)
    (hg : ∀ (B : Bs) (ρ : Sls) (G : Hp) (σ : L2.St) (H : Hp) (v : V) (d : PyData) (q : L2.St → Hp → Prop), Rel R K B G ρ σ H → Is K G v d → (g d ρ fun ρ' => ∀ σ' G' H', Off is σ σ' → Sub G G' → Rel R K B G' ρ' σ' H' → q σ' H') → t v σ H q) (mg : MonoG g)
    (his : ∀ i ∈ is, i ∈ vs) (h : liftF R K B (wLc wi g tt te vs) σ H Q) : tLc (liftI R K B wi) t (anyT R K tt) (anyE R K te) vs σ H Q := by
  obtain ⟨ρ, G, r, h⟩ := h
  refine ⟨ρ, G, r, mi ρ _ _ (fun xs ρ1 q J G1 H1 s1 r1 j D nD => ?_) h⟩
  have g0 : B.G0 D = none := by
    cases z : B.G0 D with
    | none => rfl
    | some o =>
      have := r1.sub _ _ (r1.g0 _ _ z)
      rw [nD] at this
      cases this
  have nf : D ∉ B.fp := fun hb => (r1.fp0 D hb).2.2 nD
  let S : Nat → Hp → Prop := fun i H' => ∃ ρ' G' acc ds, Sub G1 G' ∧ Rel R K (B.wth D acc) G' (wipS ρ' vs) (wipe σ vs) H' ∧ Iss K G' acc ds ∧ wLcL g tt te vs ρ1 (xs.drop i) ds ρ' fun ds ρ' => ∀ v G' H', Sub G G' → Rel R K B G' ρ' σ H' → IsNew R K B G' σ ρ' H' v (.list ds) → Q v H'
  refine ⟨fun i m H' => m = xs.length - i ∧ i ≤ xs.length ∧ S i H', ⟨xs.length, rfl, Nat.zero_le _, ρ1, G1, [], [], Same.refl G1, (r1.begin nD).wip, .nil, q⟩, ?_⟩
  rintro i m H2 ⟨rfl, hle, ρ2, G2, acc, ds, s2, r2, ha, k⟩
  by_cases hlt : i < xs.length
  · refine .inr ⟨j.go i H2 hlt (s2.trans r2.sub), S (i + 1), fun H' n => ⟨xs.length - (i + 1), by omega, rfl, hlt, n⟩, fun v H3 y => ?_⟩
    rw [List.drop_eq_getElem_cons hlt] at k
    have step : ∀ G3, Sub G2 G3 → Rel R K (B.wth D acc) G3 (wipS ρ2 vs) (wipe σ vs) H3 → Is K G3 v xs[i] → t v (wipe σ vs) H3 fun σ2 H2 => wipe σ2 vs = wipe σ vs ∧ anyT R K tt σ2 H2 fun b H3 =>
        if b = true then anyE R K te σ2 H3 fun y H4 => ∃ acc, H4 D = some (.lst acc) ∧ acc.length < sizeLine ∧ S (i + 1) (upd H4 D (.lst (acc ++ [y]))) else S (i + 1) H3 := fun G3 s3 r3 i3 => by
      refine hg _ _ G3 _ H3 v _ _ r3 i3 (mg _ _ _ _ (fun ρ4 k4 σ4 G4 H4 off s4 r4 => ?_) k)
      have hw := wipe_same off his
      refine ⟨hw, B.wth D acc, ρ4, G4, r4, mt ρ4 _ _ (fun c ρ5 k5 G5 H5 s5 r5 => ?_) k4⟩
      have t5 : Sub G1 G5 := ((s2.trans s3).trans s4).trans s5
      cases c with
      | false =>
        refine ⟨ρ5, G5, acc, ds, t5, ?_, ha.mono ((s3.trans s4).trans s5), k5⟩
        have := r5.wip (vs := vs)
        rw [hw] at this
        exact this
      | true =>
        refine ⟨B.wth D acc, ρ5, G5, r5, me ρ5 _ _ (fun d ρ6 k6 u G6 H6 s6 r6 i6 => ?_) k5⟩
        obtain ⟨z, k6⟩ := k6
        obtain ⟨hD, gD⟩ := r6.apart g0 nf
        refine ⟨acc, hD, by rw [ha.length]; exact z, ρ6, G6, acc ++ [u], ds ++ [d], t5.trans s6, ?_, (ha.mono (((s3.trans s4).trans s5).trans s6)).append (.cons i6 .nil), k6⟩
        have := (r6.turn g0 nf (acc ++ [u])).wip (vs := vs)
        rw [hw] at this
        exact this
    rcases j.yld i H2 v H3 xs[i] (List.getElem?_eq_getElem hlt) (s2.trans r2.sub) y with ⟨rfl, iv⟩ | ⟨T, vs', ds', nT, rfl, rfl, hv, ex⟩
    · exact step G2 (Same.refl G2) r2 (iv.mono s2)
    · have sg : Sub G2 (upd G2 T (.tup vs')) := upd_new (r2.sub.free nT)
      refine step _ sg (r2.laid nT) ?_
      rw [ex]
      exact .tup (.inl (.inl upd_same)) (hv.mono (s2.trans sg))
  · have e : i = xs.length := by omega
    subst e
    rw [List.drop_length] at k
    obtain ⟨r3, n3⟩ := Rel.over r1 s2 nD r2 ha
    exact .inl ⟨j.stop H2 (s2.trans r2.sub), k _ G2 H2 (s1.trans s2) r3 n3⟩
theorem mono_lc {wi : WI} {g : WG} {tt : WT} {te : WE} {vs : List Nat} (mi : MonoI wi) (mg : MonoG g) (mt : MonoT tt) (me : MonoE te) : MonoE (wLc wi g tt te vs) :=
  fun ρ Q Q' h => mi ρ _ _ fun xs ρ1 q => mono_lcL mg mt me xs [] ρ1 _ _ (fun ds ρ' q => h _ _ q) q
section
variable {elt tg iter : Expr} {ifs : List Expr} {scope : Scope} {own : List (Str × Nat)} {wi : WI} {t : TG} {g : WG} {tt : WT} {te : WE} {is : List Nat}
/-- [elt for target in iter if ..] -/
theorem sf_lc (hc : X.calm = true) (hN : X.N.Nodup) (hi : SI R X tg iter wi) (ok : BlkOk X.N X.env.scope scope own)
    (hg : ∀ (s : Shared) (H : Hp) (C : Addr) (cl : List (Str × Addr)) (fp : List Addr), SG R (X.blk s H scope (compEnvC scope cl C X.env) fp) tg t g is) (his : ∀ i ∈ is, i ∈ own.map (·.2))
    (ht : ∀ (s : Shared) (H : Hp) (C : Addr) (cl : List (Str × Addr)) (fp : List Addr), STs R (X.blk s H scope (compEnvC scope cl C X.env) fp) ifs tt)
    (he : ∀ (s : Shared) (H : Hp) (C : Addr) (cl : List (Str × Addr)) (fp : List Addr), SE R (X.blk s H scope (compEnvC scope cl C X.env) fp) elt te) (hs : ∀ x, foldedSetIterable iter X.env x = pure x := by intro _; rfl) :
    SF R X (.ListComp elt [⟨tg, iter, ifs, 0⟩] scope pos) (wLc wi g tt te (own.map (·.2))) := by
  have mg := (hg sh0 (fun _ => none) 0 [] []).mono
  have mt := (ht sh0 (fun _ => none) 0 [] []).mono
  have me := (he sh0 (fun _ => none) 0 [] []).mono
  exact ⟨fun B => PE.imp (pe_lc hc hN (hi.pi B) ok (fun s H C cl fp => (hg s H C cl fp).pg) (fun s H C cl fp => (ht s H C cl fp).any) (fun s H C cl fp => (he s H C cl fp).any) hs)
    fun σ H Q h => lc_lift (tg := tg) hi.mono mt me (hg sh0 (fun _ => none) 0 [] []).to mg his h, mono_lc hi.mono mg mt me⟩
/-- name = [..] on one line -/
theorem ss_setLc {i : Nat} {y : Str} {py : Pos} {spos : Pos} (hc : X.calm = true) (hN : X.N.Nodup) (hy : X.N[i]? = some y) (hyl : X.env.scope.names.lookup y = some .local)
    (hsw : swapsWith (.ListComp elt [⟨tg, iter, ifs, 0⟩] scope pos) (some (.Name y py)) spos.line X.env = pure true) (hi : SI R X tg iter wi) (ok : BlkOk X.N X.env.scope scope own)
    (hg : ∀ (s : Shared) (H : Hp) (C : Addr) (cl : List (Str × Addr)) (fp : List Addr), SG R (X.blk s H scope (compEnvC scope cl C X.env) fp) tg t g is) (his : ∀ i ∈ is, i ∈ own.map (·.2))
    (ht : ∀ (s : Shared) (H : Hp) (C : Addr) (cl : List (Str × Addr)) (fp : List Addr), STs R (X.blk s H scope (compEnvC scope cl C X.env) fp) ifs tt)
    (he : ∀ (s : Shared) (H : Hp) (C : Addr) (cl : List (Str × Addr)) (fp : List Addr), SE R (X.blk s H scope (compEnvC scope cl C X.env) fp) elt te) (hs : ∀ x, foldedSetIterable iter X.env x = pure x := by intro _; rfl) :
    SS R X (.Assign [.Name y py] (.ListComp elt [⟨tg, iter, ifs, 0⟩] scope pos) spos) (wSetO i (wLc wi g tt te (own.map (·.2)))) := by
  have mg := (hg sh0 (fun _ => none) 0 [] []).mono
  have mt := (ht sh0 (fun _ => none) 0 [] []).mono
  have me := (he sh0 (fun _ => none) 0 [] []).mono
  have ml := mono_lc (vs := own.map (·.2)) hi.mono mg mt me
  exact ⟨fun B => PS.imp (ps_setLc hc hN hy hyl hsw (hi.pi B) ok (fun s H C cl fp => (hg s H C cl fp).pg) (fun s H C cl fp => (ht s H C cl fp).any) (fun s H C cl fp => (he s H C cl fp).any) hs)
    fun D σ H ⟨ρ, G, r, h⟩ => lc_lift (tg := tg) hi.mono mt me (hg sh0 (fun _ => none) 0 [] []).to mg his ⟨ρ, G, r, ml ρ _ _ (fun d ρ' q v G' H' s r' n => q _ G' H' s (r'.setO n)) h⟩, mono_setO ml⟩
end
/-- a fresh cell handed on -/
theorem Rel.shut {K : PySem.W.Frag} {B : Bs} {G : Hp} {ρ : Sls} {σ : L2.St} {H : Hp} {v : V} {d : PyData} (r : Rel R K B G ρ σ H) (n : IsNew R K B G σ ρ H v d) : ∃ G', Sub G G' ∧ Rel R K B G' ρ σ H ∧ Is K G' v d := by
  have hi : (ρ ++ [Sl.un])[ρ.length]? = some .un := by rw [List.getElem?_append_right (Nat.le_refl _), Nat.sub_self]; rfl
  have r1 : Rel R K B G (ρ ++ [.un]) (σ ++ [none]) H := by
    refine r.weak (by rw [List.length_append, List.length_append, r.len]; rfl) fun i s e => ?_
    by_cases q : i < ρ.length
    · rw [List.getElem?_append_left q] at e
      rw [List.getElem?_append_left (by rw [← r.len]; exact q)]
      exact .inr ⟨e, rfl⟩
    · by_cases z : i = ρ.length
      · subst z
        rw [hi] at e
        exact .inl (Option.some.inj e).symm
      · rw [List.getElem?_eq_none (by rw [List.length_append]; show ρ.length + 1 ≤ i; omega)] at e
        cases e
  have n1 : IsNew R K B G (σ ++ [none]) (ρ ++ [.un]) H v d := by
    obtain ⟨a, ho, e0, e1, e2, e3, e4, e5, la, fp, q, q2⟩ := n
    have lo : ∀ (j : Nat) (s : Sl), (ρ ++ [Sl.un])[j]? = some s → s ≠ .un → ρ[j]? = some s ∧ (σ ++ [none])[j]? = σ[j]? := fun j s e ns => by
      by_cases q : j < ρ.length
      · rw [List.getElem?_append_left q] at e
        exact ⟨e, List.getElem?_append_left (by rw [← r.len]; exact q)⟩
      · by_cases z : j = ρ.length
        · subst z
          rw [hi] at e
          exact absurd (Option.some.inj e).symm ns
        · rw [List.getElem?_eq_none (by rw [List.length_append]; show ρ.length + 1 ≤ j; omega)] at e
          cases e
    refine ⟨a, ho, e0, e1, e2, e3, e4, fun j y e => ?_, la, fp, ⟨fun i e => ?_, fun z => q.ok (z.imp (fun ⟨i, e⟩ => ⟨i, (lo i _ e nofun).1⟩) id), fun b hb => ?_, q.tie⟩, q2⟩
    · obtain ⟨h1, h2⟩ := lo j _ e nofun
      rw [h2]
      exact e5 j y h1
    · obtain ⟨h1, h2⟩ := lo i _ e nofun
      rw [h2]
      exact q.pl i h1
    · obtain ⟨z1, z0, z2, z3⟩ := q.pf b hb
      refine ⟨z1, z0, z2, fun j y e => ?_⟩
      obtain ⟨h1, h2⟩ := lo j _ e nofun
      rw [h2]
      exact z3 j y h1
  have r2 := r1.setO (i := ρ.length) n1
  have hset : ((ρ ++ [Sl.un]).set ρ.length (.own d))[ρ.length]? = some (.own d) := List.getElem?_set_self (by rw [List.length_append]; show ρ.length < ρ.length + 1; omega)
  obtain ⟨v', G', sg, e1, iv, r3⟩ := r2.freeze hset
  have ev : v' = v := by
    rw [r.len, List.getElem?_set_self (by rw [List.length_append]; show σ.length < σ.length + 1; omega)] at e1
    cases e1
    rfl
  subst ev
  refine ⟨G', sg, r3.weak r.len fun i s e => .inr ?_, iv⟩
  have hl : i < ρ.length := (List.getElem?_eq_some_iff.mp e).1
  have ni : ρ.length ≠ i := by omega
  refine ⟨?_, ?_⟩
  · rw [List.getElem?_set_ne ni, List.getElem?_set_ne ni, List.getElem?_append_left hl]
    exact e
  · rw [List.getElem?_set_ne ni, List.getElem?_append_left (by rw [← r.len]; exact hl)]
theorem SF.se {e : Expr} {w : WE} (h : SF R X e w) : SE R X e w :=
  ⟨fun B => PE.imp (h.pe B) fun σ H Q ⟨ρ, G, r, q⟩ => ⟨ρ, G, r, h.mono ρ _ _ (fun d ρ' q v G' H' s r' n => by
    obtain ⟨G2, s2, r2, i2⟩ := r'.shut n
    exact q v G2 H' (s.trans s2) r2 i2) q⟩, h.mono⟩
end
end DL
namespace DL
open PySem PySem.Spec PyProof.Rows L2
/-! ## what a def promises, where no text of a value is under way -/
structure GFn (P : Program) (w : World) (K : PySem.W.Frag) (mg : Str → Option Value) (base : Heap) (CX : CXT) (k : Nat) (f : Addr) (fd : FuncData) (ps : List Str) (sp : Sp) : Prop where
  ar : ∀ vs H Q E, sp vs H Q E → vs.length = ps.length
  go : ∀ (A : Around) (outer : List PySem.Env) (s : Shared) (H : Hp) (args : Args) (us : List Value) (vs : List V) (Q : VK) (E : XK),
    A.guards = some [] → Room k A → Env0 P w K mg base A outer s H → BindsTo s fd args (ps.zip us) → Vals vs us → sp vs H Q E →
    codeAny (model P w) A (.call (.ref f) args) (CR CX outer P w H s Q E) s
section
variable {P : Program} {w : World} {K : PySem.W.Frag} {mg : Str → Option Value} {base : Heap} {CX : CXT} {k : Nat} {f : Addr} {fd : FuncData} {ps : List Str} {sp sp' : Sp}
theorem GFn.of (F : FnOk P w K mg base CX k f fd ps sp) : GFn P w K mg base CX k f fd ps sp := ⟨F.len, fun A outer s H args us vs Q E _ hr e0 hb r h => F.run A outer s H args us vs Q E hr e0 hb r h⟩
theorem GFn.up (F : GFn P w K mg base CX k f fd ps sp) {j : Nat} (h : k ≤ j) : GFn P w K mg base CX j f fd ps sp := ⟨F.ar, fun A outer s H args us vs Q E g hr => F.go A outer s H args us vs Q E g (hr.mono h)⟩
theorem GFn.imp (F : GFn P w K mg base CX k f fd ps sp) (h : ∀ vs H Q E, sp' vs H Q E → sp vs H Q E) : GFn P w K mg base CX k f fd ps sp' :=
  ⟨fun vs H Q E q => F.ar vs H Q E (h _ _ _ _ q), fun A outer s H args us vs Q E g hr e0 hb r q => F.go A outer s H args us vs Q E g hr e0 hb r (h _ _ _ _ q)⟩
/-- a def by its body -/
theorem gfn_of {name qual : Str} {params : Arguments} {body : List Stmt} {scope : Scope} {dV kV doc pm cdv ct oc : Value} {an od : Option Addr} {osl : Array (Option Value)} {N : List Str}
    (lk : K.lookup f = some ⟨oc, od, .func (PySem.W.fnOf name qual params body scope dV kV doc pm an cdv ct), osl⟩) (hcd : PySem.W.codeIn K cdv qual = true) (S : FnScope N ps scope)
    (ar : ∀ vs H Q E, sp vs H Q E → vs.length = ps.length)
    (hb : ∀ (A : Around) (outer : List PySem.Env) (s : Shared) (H : Hp) (vs : List V) (Q : VK) (E : XK), (A.deeper (envOfC qual scope s.heap.objs.size f cdv)).guards = some [] → Room k (A.deeper (envOfC qual scope s.heap.objs.size f cdv)) → sp vs H Q E →
      ∃ t, PSs (cxOf CX P w K mg base N qual scope f cdv A outer s H E) body t ∧ t ⟨fun _ H' => Q .non H', Q, fun _ _ => False, fun _ _ => False⟩ (start N vs) H) :
    GFn P w K mg base CX (k + 1) f (PySem.W.fnOf name qual params body scope dV kV doc pm an cdv ct) ps sp := by
  refine ⟨ar, fun A outer s H args us vs Q E g hr e0 hbd r hsp => ?_⟩
  have hlen := ar _ _ _ _ hsp
  have kin : K.In s.heap := e0.mod.kin.keeps fun b o q => (e0.bs b o q).1
  have nol : s.heap.NoLimit := e0.mod.nolimit.keeps fun b o q => (e0.bs b o q).1
  have kinds : ∀ y ∈ ps.zip us, scope.names.lookup y.1 = some .local ∨ (scope.names.lookup y.1 = some .cell ∧ ((cellsFrom (s.heap.objs.size + 1) scope.names []).lookup y.1).isSome = true) := by
    rintro ⟨n, v⟩ hy
    exact (S.par n (List.of_mem_zip hy).1).imp id fun q => ⟨q, PySem.W.cellsFrom_some _ _ _ (.inl q)⟩
  refine codeAny_call_function hr.depth (kin _ _ lk) rfl S.co S.gen rfl (PySem.W.codeRec_of kin hcd) (hbd _ _ _ _ ?_)
  refine wpAny_newFunctionEnv_cells S.kind kinds fun env henv s1 x => ?_
  cases henv
  refine ⟨nol.keeps x.toInCall.keep, codeAny_func ?_⟩
  obtain ⟨t, ht, q⟩ := hb A outer s H vs Q E g (hr.deeper _) hsp
  have J := inv_start (CX := CX) (E := E) S hr.hd e0 hlen r x
  refine wpAny_mono (ht.run [] s1 _ H _ J q) ?_ fun _ _ z => z
  intro fl s' z
  cases fl with
  | next =>
    obtain ⟨σ', H', I, q⟩ := z
    exact ⟨.non, H', I.os, I.bare, I.base, I.hok, rfl, q⟩
  | ret u =>
    obtain ⟨v, σ', H', I, rv, q⟩ := z
    exact ⟨v, H', I.os, I.bare, I.base, I.hok, rv, q⟩
  | brk =>
    obtain ⟨_, _, _, q⟩ := z
    exact q.elim
  | cont =>
    obtain ⟨_, _, _, q⟩ := z
    exact q.elim
end
section
variable {X : Cx} {CX : CXT} {k : Nat} {f : Addr} {fd : FuncData} {ps ks : List Str} {sp : Sp} {E : XK} {x : Str} {p pos : Pos} {e : Expr} {es : List Expr} {kws : List Keyword} {t tk : TA}
theorem gfn_run {pins : List (Addr × Obj)} {σ : L2.St} {H : Hp} {s : Shared} {Q : VK} {args : Args} {us : List Value} {vs : List V} (F : GFn X.prog X.w X.K X.mg X.base CX k f fd ps sp) (hg : X.A.guards = some []) (hr : Room k X.A)
    (hb : BindsTo s fd args (ps.zip us)) (hx : Passes CX X E) (I : Inv X pins σ H s) (r : Vals vs us) (h : sp vs H Q E) : wpAny (model X.prog X.w) X.A (call (.ref f) args.pos args.kw) (EP X pins σ Q) X.xe s := by
  refine wpAny_call (codeAny_mono (F.go X.A X.stack s H args us vs Q E hg hr I.env0 hb r h) ?_)
  intro res s' q
  match res, q with
  | .error e, q => exact hx pins σ H s e s' I q
  | .ok (.ret u), q => exact I.after q
/-- f(a, ..), every argument by place -/
theorem ge_call (F : GFn X.prog X.w X.K X.mg X.base CX k f fd ps sp) (hgd : X.A.guards = some []) (hr : Room k X.A) (hg : Gl X x) (hm : X.mg x = some (.ref f)) (hk : PySem.W.keepIn X.K (.ref f) = true) (hb : Binds X.K fd ps []) (hx : Passes CX X E)
    (ha : PA X (e :: es) t) (hdb : (x == ("__debug__" : Str)) = false := by decide) (he : starEach (e :: es) X.env = (false, eval e X.env) :: starEach es X.env := by rfl) (hpl : (backTo pos (starEach es X.env)).any (·.1) = false := by rfl) :
    PE X (.Call (.Name x p) (e :: es) [] pos) (tCall sp [] E t) := by
  refine ⟨fun pins s σ H Q I h => wpAny_Call_Name_kw (ld_glob I hg hm ?_ hdb)⟩
  refine PySem.W.callWith_K (h₀ := X.base) I.ok.mod.kin hk (thn (ha.run pos pins s σ H _ I h) fun us s1 z => ?_) he hpl
  obtain ⟨vs, H1, I1, r, q⟩ := z
  rw [List.append_nil] at q
  have hl : (us ++ []).length = ps.length := by rw [List.append_nil, ← r.length]; exact F.ar _ _ _ _ q
  have hbt := hb s1 us I1.kIn hl
  rw [List.append_nil] at hbt
  exact ⟨I1.kIn, gfn_run (args := ⟨us, []⟩) F hgd hr hbt hx I1 r q⟩
/-- f(a, .., n=b, ..) -/
theorem ge_callK {g : List Value → List Value → List Value} {gV : List V → List V → List V} (F : GFn X.prog X.w X.K X.mg X.base CX k f fd ps sp) (hgd : X.A.guards = some []) (hr : Room k X.A) (hg : Gl X x) (hm : X.mg x = some (.ref f)) (hk : PySem.W.keepIn X.K (.ref f) = true)
    (hb : KBinds X.K fd ps ks g gV) (hx : Passes CX X E) (ha : PA X (e :: es) t) (hkw : PK X kws tk) (hall : (backToKw pos (keywordEach kws X.env)).all (·.1.isSome) = true := by rfl) (hks : (backToKw pos (keywordEach kws X.env)).filterMap (·.1) = ks := by rfl)
    (hdb : (x == ("__debug__" : Str)) = false := by decide) (he : starEach (e :: es) X.env = (false, eval e X.env) :: starEach es X.env := by rfl)
    (hpl : ((backTo pos (starEach (e :: es) X.env)).any (·.1) || (backToKw pos (keywordEach kws X.env)).any (·.1.isNone)) = false := by rfl) : PE X (.Call (.Name x p) (e :: es) kws pos) (tCallK sp gV E t tk) := by
  refine ⟨fun pins s σ H Q I h => wpAny_Call_Name_kw (ld_glob I hg hm ?_ hdb)⟩
  refine PySem.W.callWith_KW (h₀ := X.base) I.ok.mod.kin hk hall (thn (ha.run pos pins s σ H _ I h) fun us s1 z => ?_) hpl he
  obtain ⟨vs, H1, I1, r, q⟩ := z
  refine thn (hkw.run pos pins s1 σ H1 _ I1 q) fun ws s2 z => ?_
  obtain ⟨zs, H2, I2, rz, q⟩ := z
  rw [hks]
  have hl : (g us ws).length = ps.length := by rw [← (hb.rel r rz).length]; exact F.ar _ _ _ _ q
  exact ⟨I2.kIn, gfn_run (args := ⟨us, ks.zip ws⟩) F hgd hr (hb.to s2 us ws I2.kIn hl) hx I2 (hb.rel r rz) q⟩
/-- f(n=b, ..) -/
theorem ge_callK0 {g : List Value → List Value → List Value} {gV : List V → List V → List V} (F : GFn X.prog X.w X.K X.mg X.base CX k f fd ps sp) (hgd : X.A.guards = some []) (hr : Room k X.A) (hg : Gl X x) (hm : X.mg x = some (.ref f)) (hk : PySem.W.keepIn X.K (.ref f) = true)
    (hb : KBinds X.K fd ps ks g gV) (hx : Passes CX X E) (hkw : PK X kws tk) (hall : (backToKw pos (keywordEach kws X.env)).all (·.1.isSome) = true := by rfl) (hks : (backToKw pos (keywordEach kws X.env)).filterMap (·.1) = ks := by rfl)
    (hdb : (x == ("__debug__" : Str)) = false := by decide) (hpl : ((backTo pos (starEach [] X.env)).any (·.1) || (backToKw pos (keywordEach kws X.env)).any (·.1.isNone)) = false := by rfl) : PE X (.Call (.Name x p) [] kws pos) (tCallK sp gV E tNil tk) := by
  refine ⟨fun pins s σ H Q I h => wpAny_Call_Name_kw (ld_glob I hg hm ?_ hdb)⟩
  refine PySem.W.callWith_KW0 (h₀ := X.base) I.ok.mod.kin hk hall (thn (hkw.run pos pins s σ H _ I h) fun ws s2 z => ?_) hpl
  obtain ⟨zs, H2, I2, rz, q⟩ := z
  rw [hks]
  have hl : (g [] ws).length = ps.length := by rw [← (hb.rel .nil rz).length]; exact F.ar _ _ _ _ q
  exact ⟨I2.kIn, gfn_run (args := ⟨[], ks.zip ws⟩) F hgd hr (hb.to s2 [] ws I2.kIn hl) hx I2 (hb.rel .nil rz) q⟩
end
end DL
namespace DL
open PySem PySem.Spec PyProof.Rows L2
/-! ## promises over data -/
abbrev Sd := List Sl → (PyData → Prop) → Prop
def MonoD (S : Sd) : Prop := ∀ (as : List Sl) (q q' : PyData → Prop), (∀ d, q d → q' d) → S as q → S as q'
def Arg1 (K : PySem.W.Frag) (G : Hp) (la : Addr) (v : V) : Sl → Prop
  | .d x => Is K G v x
  | .loom => v = .ref la
  | .scr x => ∃ a, v = .ref a ∧ ScOk K G a x
  | _ => False
abbrev ArgR (K : PySem.W.Frag) (G : Hp) (la : Addr) : List V → List Sl → Prop := Paired fun v s => Arg1 K G la v s
@[simp] def hasL : List Sl → Bool
  | [] => false
  | .loom :: _ => true
  | _ :: r => hasL r
theorem hasL_of : ∀ {as : List Sl} {i : Nat}, as[i]? = some .loom → hasL as = true
  | .loom :: _, _, _ => rfl
  | .un :: r, i + 1, h => hasL_of (as := r) (i := i) (by simpa using h)
  | .d _ :: r, i + 1, h => hasL_of (as := r) (i := i) (by simpa using h)
  | .own _ :: r, i + 1, h => hasL_of (as := r) (i := i) (by simpa using h)
  | .scr _ :: r, i + 1, h => hasL_of (as := r) (i := i) (by simpa using h)
  | .un :: r, 0, h => by simp at h
  | .d _ :: r, 0, h => by simp at h
  | .own _ :: r, 0, h => by simp at h
  | .scr _ :: r, 0, h => by simp at h
  | [], i, h => by simp at h
/-- what a call leaves -/
structure Left (R : Res) (K : PySem.W.Frag) (G H : Hp) (la : Addr) (fp : List Addr) (l : Bool) (G' H' : Hp) : Prop where
  g : Sub G G'
  h : Sub G' H'
  new : ∀ b, H b ≠ none → G' b ≠ none → G b ≠ none
  fr : ∀ b o, H b = some o → b ∉ fp → H' b = some o
  pf : ∀ b ∈ fp, H' b ≠ none
  lm : l = true → R.ok H' la fp
def spD (R : Res) (K : PySem.W.Frag) (n : Nat) (S : Sd) : Sp := fun vs H Q _ => vs.length = n ∧ ∃ (G : Hp) (as : List Sl) (la : Addr) (fp : List Addr), Sub G H ∧ ArgR K G la vs as ∧ (∀ b ∈ fp, G b = none ∧ H b ≠ none) ∧ (hasL as = true → R.ok H la fp) ∧
  S as fun d => ∀ v G' H', Left R K G H la fp (hasL as) G' H' → Is K G' v d → Q v H'
section
variable {P : Program} {w : World} {K : PySem.W.Frag} {mg : Str → Option Value} {base : Heap} {k : Nat} {R : Res} {S : Sd}
theorem Arg1.noOwn {G : Hp} {la : Addr} {v : V} {x : PyData} (h : Arg1 K G la v (.own x)) : False := h
theorem paired_get {α β : Type} {F : α → β → Prop} : ∀ {xs : List α} {ys : List β} {i : Nat} {y : β}, Paired F xs ys → ys[i]? = some y → ∃ x, xs[i]? = some x ∧ F x y
  | _, _, _, _, .nil, e => by simp at e
  | _, _, 0, _, .cons h _, e => by simp at e; subst e; exact ⟨_, rfl, h⟩
  | _, _, i + 1, _, .cons _ t, e => by
    obtain ⟨x, h1, h2⟩ := paired_get (i := i) t (by simpa using e)
    exact ⟨x, by simpa using h1, h2⟩
theorem start_get {N : List Str} {vs : List V} {i : Nat} {v : V} (h : vs[i]? = some v) : (L2.start N vs)[i]? = some (some v) := by
  unfold L2.start
  rw [List.getElem?_append_left (by rw [List.length_map]; exact (List.getElem?_eq_some_iff.mp h).1), List.getElem?_map, h]
  rfl
/-- the slots at a def's entry -/
def entry (N : List Str) (as : List Sl) : Sls := as ++ List.replicate (N.length - as.length) .un
theorem entry_get {N : List Str} {as : List Sl} {i : Nat} {s : Sl} (h : (entry N as)[i]? = some s) : s = .un ∨ as[i]? = some s := by
  unfold entry at h
  by_cases q : i < as.length
  · rw [List.getElem?_append_left q] at h
    exact .inr h
  · rw [List.getElem?_append_right (by omega), List.getElem?_replicate] at h
    split at h
    · cases h
      exact .inl rfl
    · cases h
theorem Rel.entry {N : List Str} {vs : List V} {as : List Sl} {G H : Hp} {la : Addr} {fp : List Addr} (sg : Sub G H) (ra : ArgR K G la vs as) (hf : ∀ b ∈ fp, G b = none ∧ H b ≠ none) (hl : hasL as = true → R.ok H la fp) :
    Rel R K ⟨H, G, fp, la, hasL as⟩ G (entry N as) (L2.start N vs) H := by
  have len : vs.length = as.length := Paired.length ra
  refine ⟨sg, ?_, Same.refl G, fun b _ h => h, fun b o e _ => e, fun b hb => ⟨(hf b hb).1, (hf b hb).2, (hf b hb).2⟩, fun i x e => ?_, fun i x e => ?_, fun i x e => ?_, la, fp, fun i e => ?_, fun z => hl ?_, fun b hb => ⟨(hf b hb).1, (hf b hb).2, .inr hb, fun j y e => ?_⟩, fun _ => ⟨rfl, rfl⟩⟩
  · unfold DL.entry L2.start
    rw [List.length_append, List.length_append, List.length_replicate, List.length_replicate, List.length_map, len]
  · rcases entry_get e with z | z
    · cases z
    · obtain ⟨v, e1, e2⟩ := paired_get ra z
      exact ⟨v, start_get e1, e2⟩
  · rcases entry_get e with z | z
    · cases z
    · obtain ⟨v, e1, a, rfl, e2⟩ := paired_get ra z
      exact ⟨a, start_get e1, e2⟩
  · rcases entry_get e with z | z
    · cases z
    · obtain ⟨v, _, e2⟩ := paired_get ra z
      exact e2.noOwn.elim
  · rcases entry_get e with z | z
    · cases z
    · obtain ⟨v, e1, e2⟩ := paired_get ra z
      have e2 : v = .ref la := e2
      subst e2
      exact start_get e1
  · rcases z with ⟨i, e⟩ | z
    · rcases entry_get e with z | z
      · cases z
      · exact hasL_of z
    · exact z
  · rcases entry_get e with z | z
    · cases z
    · obtain ⟨v, _, e2⟩ := paired_get ra z
      exact e2.noOwn.elim
/-- the ends of a def's body -/
@[simp] def enD (q : PyData → Prop) : En := ⟨fun _ => q .none, q, fun _ => False, fun _ => False⟩
/-- THE RULE for a def from which no exception leaves -/
theorem gd_of [Plain R] {x qual : Str} {st : Stmt} {f : Addr} {fd : FuncData} {N ps : List Str} (F : Fun K x qual st f fd) (Sc : FnScope N ps (defScope st))
    (hb : ∀ (cdv : Value) (A : Around) (outer : List PySem.Env) (s : Shared) (H : Hp) (E : XK), (A.deeper (envOfC qual (defScope st) s.heap.objs.size f cdv)).guards = some [] → Room k (A.deeper (envOfC qual (defScope st) s.heap.objs.size f cdv)) →
      ∃ ws, SSs R (cxOf CX0 P w K mg base N qual (defScope st) f cdv A outer s H E).nox (defBody st) ws ∧ ∀ as q, as.length = ps.length → S as q → ws (enD q) (entry N as)) :
    GFn P w K mg base CX0 (k + 1) f fd ps (spD R K ps.length S) := by
  obtain ⟨oc, od, kV, doc, pm, an, cdv, ct, osl, rfl, lk, hcd⟩ := F.ex
  refine gfn_of lk hcd Sc (fun vs H Q E h => h.1) fun A outer s H vs Q E hg hr h => ?_
  obtain ⟨ws, hws, hq⟩ := hb cdv A outer s H E hg hr
  obtain ⟨hn, G, as, la, fp, sg, ra, hf, hl, h⟩ := h
  have left : ∀ {ρ' : Sls} {σ' : L2.St} {G' H' : Hp}, Sub G G' → Rel R K ⟨H, G, fp, la, hasL as⟩ G' ρ' σ' H' → Left R K G H la fp (hasL as) G' H' := fun s r =>
    ⟨s, r.sub, fun b h1 h2 => r.new b h1 h2, fun b o e hb => r.fr b o e hb, fun b hb => (r.fp0 b hb).2.2, fun hl => by
      obtain ⟨la', fp', q⟩ := r.l
      have z := q.ok (.inr hl)
      rw [(q.tie hl).1, (q.tie hl).2] at z
      exact z⟩
  refine ⟨_, (hws.ps ⟨H, G, fp, la, hasL as⟩).nox, entry N as, G, Rel.entry sg ra hf hl, ?_⟩
  refine hws.mono (enD fun d => ∀ v G' H', Left R K G H la fp (hasL as) G' H' → Is K G' v d → Q v H') _ _ ⟨fun ρ' q σ' G' H' s r => ?_, fun d q => ⟨fun v ρ' σ' G' H' s r i => ?_, fun _ _ _ _ _ _ _ _ _ _ _ => Plain.xw _ _ _ _⟩, fun _ q => False.elim q, fun _ q => False.elim q⟩ (hq as _ (by rw [← Paired.length ra]; exact hn) h)
  · exact q _ G' H' (left s r) .non
  · exact q v G' H' (left s r) i
end
/-! ## calls -/
@[simp] def okL : List Ag → Sls → Prop
  | [], _ => True
  | .loom i :: r, ρ => ρ[i]? = some .loom ∧ okL r ρ
  | .scr _ :: r, ρ => okL r ρ
  | .e _ :: r, ρ => okL r ρ
theorem ArgsV.mono {K : PySem.W.Frag} {G G' : Hp} {σ : L2.St} (s : Sub G G') : ∀ {gs : List Ag} {vs : List V} {as : List Sl}, ArgsV K G σ gs vs as → ArgsV K G' σ gs vs as
  | [], _, _, h => h
  | .loom i :: r, _, _, h => by
    obtain ⟨v, vs', as', e1, e2, e3, t⟩ := h
    exact ⟨v, vs', as', e1, e2, e3, ArgsV.mono s t⟩
  | .scr i :: r, _, _, h => by
    obtain ⟨v, vs', as', ns, a, e1, e2, e3, e4, t⟩ := h
    exact ⟨v, vs', as', ns, a, e1, e2, e3, e4.mono s, ArgsV.mono s t⟩
  | .e w :: r, _, _, h => by
    obtain ⟨v, vs', as', d, e1, e2, e3, t⟩ := h
    exact ⟨v, vs', as', d, e1, e2, e3.mono s, ArgsV.mono s t⟩
theorem ArgsV.rel {R : Res} {B : Bs} {ρ : Sls} {H : Hp} {la : Addr} {fp : List Addr} {K : PySem.W.Frag} {G : Hp} {σ : L2.St} (q : LoomAt R B G ρ σ H la fp) : ∀ {gs : List Ag} {vs : List V} {as : List Sl}, ArgsV K G σ gs vs as → okL gs ρ → ArgR K G la vs as
  | [], _, _, h, _ => by
    obtain ⟨rfl, rfl⟩ := h
    exact .nil
  | .loom i :: r, _, _, h, k => by
    obtain ⟨v, vs', as', rfl, rfl, e3, t⟩ := h
    have z := q.pl i k.1
    rw [e3] at z
    cases z
    exact .cons (show V.ref la = V.ref la from rfl) (ArgsV.rel q t k.2)
  | .scr i :: r, _, _, h, k => by
    obtain ⟨v, vs', as', ns, a, rfl, rfl, e3, e4, t⟩ := h
    exact .cons (show ∃ a, v = V.ref a ∧ ScOk K G a ns from ⟨a, e3, e4⟩) (ArgsV.rel q t k)
  | .e w :: r, _, _, h, k => by
    obtain ⟨v, vs', as', d, rfl, rfl, e3, t⟩ := h
    exact .cons (show Is K G v d from e3) (ArgsV.rel q t k)
theorem okL_any : ∀ {gs : List Ag} {ρ : Sls} {K : PySem.W.Frag} {G : Hp} {σ : L2.St} {vs : List V} {as : List Sl}, ArgsV K G σ gs vs as → okL gs ρ → hasL as = true → ∃ i : Nat, ρ[i]? = some .loom
  | [], _, _, _, _, _, _, h, _, z => by
    obtain ⟨rfl, rfl⟩ := h
    cases z
  | .loom i :: r, _, _, _, _, _, _, h, k, z => ⟨i, k.1⟩
  | .scr i :: r, _, _, _, _, _, _, h, k, z => by
    obtain ⟨v, vs', as', ns, a, rfl, rfl, e3, e4, t⟩ := h
    exact okL_any t k z
  | .e w :: r, _, _, _, _, _, _, h, k, z => by
    obtain ⟨v, vs', as', d, rfl, rfl, e3, t⟩ := h
    exact okL_any t k z
section
variable {R : Res} {K : PySem.W.Frag} {B : Bs} {G H G' H' : Hp} {ρ : Sls} {σ : L2.St} {la : Addr} {fp : List Addr}
/-- the caller's slots behind a call -/
theorem Rel.after (r : Rel R K B G ρ σ H) (q : LoomAt R B G ρ σ H la fp) {l : Bool} (hl : l = true → ∃ i : Nat, ρ[i]? = some .loom) {fp' : List Addr} (hf : fp' = if l = true then fp else []) (z : Left R K G H la fp' l G' H') : Rel R K B G' ρ σ H' := by
  have gone : ∀ b, H b ≠ none → G b = none → G' b = none := fun b h1 h2 => by
    cases e : G' b with
    | none => rfl
    | some o => exact absurd h2 (z.new b h1 (by rw [e]; exact nofun))
  have sub' : ∀ b, b ∈ fp' → b ∈ fp := fun b hb => by
    subst hf
    split at hb
    · exact hb
    · exact absurd hb (by simp)
  have keep : ∀ b o, H b = some o → b ∉ fp → H' b = some o := fun b o e n => z.fr b o e fun hb => n (sub' b hb)
  refine ⟨z.h, r.len, r.g0.trans z.g, fun b h1 h2 => ?_, fun b o e hb => ?_, fun b hb => ?_, fun i x e => ?_, fun i x e => ?_, fun i x e => ?_, la, fp, q.pl, fun y => ?_, fun b hb => ?_, q.tie⟩
  · cases e : H b with
    | none =>
      have := r.h0 e
      exact absurd this h1
    | some o => exact r.new b h1 (z.new b (by rw [e]; exact nofun) h2)
  · refine keep b o (r.fr b o e hb) fun hf => ?_
    rcases (q.pf b hf).2.2.1 with y | y
    · rw [e] at y
      cases y
    · exact hb y
  · obtain ⟨z1, z2, z3⟩ := r.fp0 b hb
    refine ⟨gone b z3 z1, z2, ?_⟩
    by_cases hbf : b ∈ fp'
    · exact z.pf b hbf
    · cases e : H b with
      | none => exact absurd e z3
      | some o => rw [z.fr b o e hbf]; exact nofun
  · obtain ⟨v, e1, e2⟩ := r.d i x e
    exact ⟨v, e1, e2.mono z.g⟩
  · obtain ⟨a, e1, e2⟩ := r.s i x e
    exact ⟨a, e1, e2.mono z.g⟩
  · obtain ⟨a, ho, e1, e2, e3, e4, e5, e6⟩ := r.o i x e
    exact ⟨a, ho, e1, gone a (by rw [e4]; exact nofun) e2, e3, keep a ho e4 fun hb => (q.pf a hb).2.2.2 i x e e1, e5.mono z.g, e6⟩
  · cases l with
    | true => 
      rw [if_pos rfl] at hf
      subst hf
      exact z.lm rfl
    | false =>
      rw [if_neg Bool.false_ne_true] at hf
      subst hf
      refine R.loc H H' la fp (fun b hb => ?_) (q.ok y)
      cases e : H b with
      | none => exact absurd e (q.pf b hb).2.1
      | some o => exact z.fr b o e (by simp)
  · obtain ⟨z1, z0, z2, z3⟩ := q.pf b hb
    refine ⟨gone b z0 z1, ?_, z2, z3⟩
    by_cases hbf : b ∈ fp'
    · exact z.pf b hbf
    · cases e : H b with
      | none => exact absurd e z0
      | some o => rw [z.fr b o e hbf]; exact nofun
/-- what a callee asks, from the caller's slots -/
theorem spD_of {S : Sd} (mS : MonoD S) {n : Nat} {Q : VK} {E : XK} {vs : List V} {as : List Sl} (r : Rel R K B G ρ σ H) (q : LoomAt R B G ρ σ H la fp) (ra : ArgR K G la vs as) (hn : vs.length = n) (hl : hasL as = true → ∃ i : Nat, ρ[i]? = some .loom)
    (h : S as fun d => ∀ v G' H', Sub G G' → Rel R K B G' ρ σ H' → Is K G' v d → Q v H') : spD R K n S vs H Q E := by
  refine ⟨hn, G, as, la, if hasL as = true then fp else [], r.sub, ra, fun b hb => ?_, fun z => ?_, mS as _ _ (fun d k v G' H' z i => k v G' H' z.g (r.after q hl rfl z) i) h⟩
  · split at hb
    · exact ⟨(q.pf b hb).1, (q.pf b hb).2.1⟩
    · exact absurd hb (by simp)
  · rw [if_pos z]
    exact q.ok (.inl (hl z))
end
@[simp] def wCall (S : Sd) (gs : List Ag) : WE := fun ρ Q => wAgs gs ρ fun as ρ' => okL gs ρ' ∧ S as fun d => Q d ρ'
theorem mono_call {S : Sd} {gs : List Ag} (mS : MonoD S) (mg : MonoA gs) : MonoE (wCall S gs) := fun ρ Q Q' h => mg.run fun as ρ' ⟨k, q⟩ => ⟨k, mS as _ _ (fun d q => h d ρ' q) q⟩
theorem ArgsV.len {K : PySem.W.Frag} {G : Hp} {σ : L2.St} : ∀ {gs : List Ag} {vs : List V} {as : List Sl}, ArgsV K G σ gs vs as → vs.length = gs.length
  | [], _, _, h => congrArg List.length h.1
  | .loom i :: r, _, _, h => by
    obtain ⟨v, vs', as', rfl, _, _, t⟩ := h
    exact congrArg (· + 1) (ArgsV.len t)
  | .scr i :: r, _, _, h => by
    obtain ⟨v, vs', as', _, _, rfl, _, _, _, t⟩ := h
    exact congrArg (· + 1) (ArgsV.len t)
  | .e w :: r, _, _, h => by
    obtain ⟨v, vs', as', _, rfl, _, _, t⟩ := h
    exact congrArg (· + 1) (ArgsV.len t)
section
variable {R : Res} {X : Cx} {k n : Nat} {f : Addr} {fd : FuncData} {ps : List Str} {S : Sd} {x : Str} {p pos : Pos} {e : Expr} {es : List Expr} {gs : List Ag}
/-- f(a, ..) over data -/
theorem se_call (mS : MonoD S) (F : GFn X.prog X.w X.K X.mg X.base CX0 k f fd ps (spD R X.K n S)) (hn : gs.length = n) (hgd : X.A.guards = some []) (hr : Room k X.A) (hg : Gl X x) (hm : X.mg x = some (.ref f)) (hk : PySem.W.keepIn X.K (.ref f) = true) (hb : Binds X.K fd ps [])
    (ha : SA R X (e :: es) gs) (hdb : (x == ("__debug__" : Str)) = false := by decide) (he : starEach (e :: es) X.env = (false, eval e X.env) :: starEach es X.env := by rfl) (hpl : (backTo pos (starEach es X.env)).any (·.1) = false := by rfl) :
    SE R X (.Call (.Name x p) (e :: es) [] pos) (wCall S gs) := by
  refine ⟨fun B => PE.imp (ge_call F hgd hr hg hm hk hb pass0 (ha.pa B) hdb he hpl) fun σ H Q ⟨ρ, G, r, q⟩ => ?_, mono_call mS ha.mono⟩
  refine ⟨ρ, G, r, ha.mono.run (fun as ρ' ⟨ok, q⟩ vs G' H' s r' i => ?_) q⟩
  obtain ⟨la, fp, ql⟩ := r'.l
  rw [List.append_nil]
  exact spD_of mS r' ql (i.rel ql ok) (i.len.trans hn) (fun z => okL_any i ok z) (mS as _ _ (fun d q v G2 H2 s2 r2 i2 => q v G2 H2 (s.trans s2) r2 i2) q)
end
end DL
namespace DL
open PySem PySem.Spec PyProof.Rows L2
/-! ## calls by names -/
def pick {α : Type} (l : List α) : List Nat → Option (List α)
  | [] => some []
  | i :: r => match l[i]?, pick l r with
    | some a, some b => some (a :: b)
    | _, _ => none
/-- how many stand by place, how many by name, and which of all goes where -/
abbrev Perm := Nat × Nat × List Nat
def perm {α : Type} (is : Perm) (us ws : List α) : List α := if us.length = is.1 ∧ ws.length = is.2.1 then (pick (us ++ ws) is.2.2).getD [] else []
theorem pick_rel {α β : Type} {F : α → β → Prop} {xs : List α} {ys : List β} (h : Paired F xs ys) : ∀ is : List Nat, (pick xs is = none ∧ pick ys is = none) ∨ ∃ a b, pick xs is = some a ∧ pick ys is = some b ∧ Paired F a b
  | [] => .inr ⟨[], [], rfl, rfl, .nil⟩
  | i :: r => by
    have len := Paired.length h
    unfold pick
    rcases pick_rel h r with ⟨e1, e2⟩ | ⟨a, b, e1, e2, k⟩
    · rw [e1, e2]
      refine .inl ⟨?_, ?_⟩
      · cases xs[i]? <;> rfl
      · cases ys[i]? <;> rfl
    · rw [e1, e2]
      by_cases q : i < ys.length
      · obtain ⟨x, h1, h2⟩ := paired_get h (List.getElem?_eq_getElem q)
        rw [h1, List.getElem?_eq_getElem q]
        exact .inr ⟨_, _, rfl, rfl, .cons h2 k⟩
      · rw [List.getElem?_eq_none (by omega), List.getElem?_eq_none (by omega)]
        exact .inl ⟨rfl, rfl⟩
theorem paired_app {α β : Type} {F : α → β → Prop} : ∀ {xs xs' : List α} {ys ys' : List β}, Paired F xs ys → Paired F xs' ys' → Paired F (xs ++ xs') (ys ++ ys')
  | _, _, _, _, .nil, h => h
  | _, _, _, _, .cons h t, k => .cons h (paired_app t k)
theorem perm_rel {α β : Type} {F : α → β → Prop} {xs xs' : List α} {ys ys' : List β} (h : Paired F xs ys) (h' : Paired F xs' ys') (is : Perm) : Paired F (perm is xs xs') (perm is ys ys') := by
  unfold perm
  rw [Paired.length h, Paired.length h']
  split
  · rcases pick_rel (paired_app h h') is.2.2 with ⟨e1, e2⟩ | ⟨a, b, e1, e2, k⟩
    · rw [e1, e2]
      exact .nil
    · rw [e1, e2]
      exact k
  · exact .nil
/-- how names bind: b by rfl -/
theorem kb_of {K : PySem.W.Frag} {x qual : Str} {st : Stmt} {f : Addr} {fd : FuncData} {ps ks : List Str} {is : Perm} (F : Fun K x qual st f fd) (h0 : ps.length ≠ 0)
    (h : ∀ (kV doc pm : Value) (an : Option Addr) (cdv ct : Value) (us ws : List Value), us.length = is.1 → ws.length = is.2.1 → bindArgs (PySem.W.fnOf x qual (defArgs st) (defBody st) (defScope st) .none kV doc pm an cdv ct) ⟨us, ks.zip ws⟩ = pure (ps.zip (perm is us ws))) :
    KBinds K fd ps ks (perm is) (perm is) := by
  obtain ⟨oc, od, kV, doc, pm, an, cdv, ct, osl, rfl, lk, hcd⟩ := F.ex
  refine ⟨fun s us ws _ hl => ?_, fun r1 r2 => perm_rel r1 r2 is⟩
  by_cases hp : us.length = is.1 ∧ ws.length = is.2.1
  · exact .of_eq (h kV doc pm an cdv ct us ws hp.1 hp.2)
  · rw [show perm is us ws = [] from if_neg hp] at hl
    exact absurd hl.symm h0
structure SK (R : Res) (X : Cx) (kws : List Keyword) (gs : List Ag) : Prop where
  pk : ∀ B, PK X kws (liftA R X.K B gs)
  mono : MonoA gs
section
variable {R : Res} {X : Cx} {nm : Option Str} {kpos : Pos} {e : Expr} {kws : List Keyword} {gs : List Ag} {w : WE}
theorem PK.imp {kws : List Keyword} {t t' : TA} (h : PK X kws t) (f : ∀ σ H Q, t' σ H Q → t σ H Q) : PK X kws t' :=
  ⟨fun pos pins s σ H Q I q => h.run pos pins s σ H Q I (f σ H Q q)⟩
theorem sk_nil : SK R X [] [] := ⟨fun B => PK.imp pk_nil fun σ H Q ⟨ρ, G, r, q⟩ => q [] G H (Same.refl G) r ⟨rfl, rfl⟩, trivial⟩
theorem sk_cons (h : SE R X e w) (ht : SK R X kws gs) : SK R X (⟨nm, e, kpos⟩ :: kws) (.e w :: gs) := by
  refine ⟨fun B => PK.imp (pk_cons (h.pe B) (ht.pk B)) fun σ H Q ⟨ρ, G, r, q⟩ => ?_, ⟨h.mono, ht.mono⟩⟩
  refine ⟨ρ, G, r, h.mono ρ _ _ (fun d ρ1 q v G1 H1 s1 r1 i1 => ?_) q⟩
  refine ⟨ρ1, G1, r1, ht.mono.run (fun as ρ2 q vs G2 H2 s2 r2 i2 => ?_) q⟩
  exact q (v :: vs) G2 H2 (s1.trans s2) r2 ⟨v, vs, as, d, rfl, rfl, i1.mono s2, i2⟩
theorem sk_loom {i : Nat} {x : Str} {p : Pos} (h : PE X (.Name x p) (tVar i)) (ht : SK R X kws gs) : SK R X (⟨nm, .Name x p, kpos⟩ :: kws) (.loom i :: gs) := by
  refine ⟨fun B => PK.imp (pk_cons h (ht.pk B)) fun σ H Q ⟨ρ, G, r, q⟩ => ?_, ht.mono⟩
  obtain ⟨e, q⟩ := q
  obtain ⟨la, fp, q1⟩ := r.l
  have e1 := q1.pl i e
  refine ⟨_, e1, ρ, G, r, ht.mono.run (fun as ρ2 q vs G2 H2 s2 r2 i2 => ?_) q⟩
  exact q (_ :: vs) G2 H2 s2 r2 ⟨_, vs, as, rfl, rfl, e1, i2⟩
end
@[simp] def wCallK (S : Sd) (is : Perm) (gs ks : List Ag) : WE := fun ρ Q => wAgs gs ρ fun as ρ1 => wAgs ks ρ1 fun bs ρ' => okL gs ρ' ∧ okL ks ρ' ∧ S (perm is as bs) fun d => Q d ρ'
theorem mono_callK {S : Sd} {is : Perm} {gs ks : List Ag} (mS : MonoD S) (mg : MonoA gs) (mk : MonoA ks) : MonoE (wCallK S is gs ks) := fun ρ Q Q' h => mg.run fun as ρ1 q => mk.run (fun bs ρ' ⟨a, b, q⟩ => ⟨a, b, mS _ _ _ (fun d q => h d ρ' q) q⟩) q
theorem hasL_iff : ∀ {as : List Sl}, hasL as = true → ∃ i : Nat, as[i]? = some .loom
  | .loom :: _, _ => ⟨0, rfl⟩
  | .un :: r, h => by
    obtain ⟨i, e⟩ := hasL_iff (as := r) h
    exact ⟨i + 1, by simpa using e⟩
  | .d _ :: r, h => by
    obtain ⟨i, e⟩ := hasL_iff (as := r) h
    exact ⟨i + 1, by simpa using e⟩
  | .own _ :: r, h => by
    obtain ⟨i, e⟩ := hasL_iff (as := r) h
    exact ⟨i + 1, by simpa using e⟩
  | .scr _ :: r, h => by
    obtain ⟨i, e⟩ := hasL_iff (as := r) h
    exact ⟨i + 1, by simpa using e⟩
theorem pick_mem {α : Type} {l : List α} : ∀ {is : List Nat} {r : List α} {i : Nat} {x : α}, pick l is = some r → r[i]? = some x → ∃ j : Nat, l[j]? = some x
  | [], r, i, x, h, e => by
    cases h
    simp at e
  | j :: js, r, i, x, h, e => by
    unfold pick at h
    split at h
    · rename_i a b ha hb
      cases h
      cases i with
      | zero =>
        simp at e
        subst e
        exact ⟨j, ha⟩
      | succ i => exact pick_mem hb (by simpa using e)
    · cases h
theorem hasL_perm {is : Perm} {as bs : List Sl} (h : hasL (perm is as bs) = true) : hasL as = true ∨ hasL bs = true := by
  obtain ⟨i, e⟩ := hasL_iff h
  unfold perm at e
  split at e
  case isFalse => simp at e
  cases q : pick (as ++ bs) is.2.2 with
  | none => rw [q] at e; simp at e
  | some r =>
    rw [q] at e
    obtain ⟨j, e'⟩ := pick_mem q e
    by_cases z : j < as.length
    · rw [List.getElem?_append_left z] at e'
      exact .inl (hasL_of e')
    · rw [List.getElem?_append_right (by omega)] at e'
      exact .inr (hasL_of e')
section
variable {R : Res} {X : Cx} {k n : Nat} {f : Addr} {fd : FuncData} {ps ks : List Str} {S : Sd} {x : Str} {p pos : Pos} {e : Expr} {es : List Expr} {gs hs : List Ag} {kws : List Keyword} {is : Perm}
theorem callK_lift {K : PySem.W.Frag} {B : Bs} {σ : L2.St} {H : Hp} {Q : VK} (mS : MonoD S) (mg : MonoA gs) (mh : MonoA hs) (hn : ∀ as bs : List V, as.length = gs.length → bs.length = hs.length → (perm is as bs).length = n)
    (h : liftE R K B (wCallK S is gs hs) σ H Q) : tCallK (spD R K n S) (perm is) E0 (liftA R K B gs) (liftA R K B hs) σ H Q := by
  obtain ⟨ρ, G, r, q⟩ := h
  refine ⟨ρ, G, r, mg.run (fun as ρ1 q vs G1 H1 s1 r1 i1 => ?_) q⟩
  refine ⟨ρ1, G1, r1, mh.run (fun bs ρ2 q zs G2 H2 s2 r2 i2 => ?_) q⟩
  obtain ⟨o1, o2, q⟩ := q
  obtain ⟨la, fp, ql⟩ := r2.l
  have i1 := i1.mono s2
  exact spD_of mS r2 ql (perm_rel (i1.rel ql o1) (i2.rel ql o2) is) (hn vs zs i1.len i2.len) (fun z => (hasL_perm z).elim (okL_any i1 o1) (okL_any i2 o2)) (mS _ _ _ (fun d q v G3 H3 s3 r3 i3 => q v G3 H3 ((s1.trans s2).trans s3) r3 i3) q)
theorem se_callK (mS : MonoD S) (F : GFn X.prog X.w X.K X.mg X.base CX0 k f fd ps (spD R X.K n S)) (hn : ∀ as bs : List V, as.length = gs.length → bs.length = hs.length → (perm is as bs).length = n) (hgd : X.A.guards = some []) (hr : Room k X.A) (hg : Gl X x) (hm : X.mg x = some (.ref f)) (hk : PySem.W.keepIn X.K (.ref f) = true)
    (hb : KBinds X.K fd ps ks (perm is) (perm is)) (ha : SA R X (e :: es) gs) (hkw : SK R X kws hs) (hall : (backToKw pos (keywordEach kws X.env)).all (·.1.isSome) = true := by rfl) (hks : (backToKw pos (keywordEach kws X.env)).filterMap (·.1) = ks := by rfl)
    (hdb : (x == ("__debug__" : Str)) = false := by decide) (he : starEach (e :: es) X.env = (false, eval e X.env) :: starEach es X.env := by rfl) (hpl : ((backTo pos (starEach (e :: es) X.env)).any (·.1) || (backToKw pos (keywordEach kws X.env)).any (·.1.isNone)) = false := by rfl) :
    SE R X (.Call (.Name x p) (e :: es) kws pos) (wCallK S is gs hs) :=
  ⟨fun B => PE.imp (ge_callK F hgd hr hg hm hk hb pass0 (ha.pa B) (hkw.pk B) hall hks hdb he hpl) fun σ H Q h => callK_lift mS ha.mono hkw.mono hn h, mono_callK mS ha.mono hkw.mono⟩
theorem se_callK0 (mS : MonoD S) (F : GFn X.prog X.w X.K X.mg X.base CX0 k f fd ps (spD R X.K n S)) (hn : ∀ as bs : List V, as.length = ([] : List Ag).length → bs.length = hs.length → (perm is as bs).length = n) (hgd : X.A.guards = some []) (hr : Room k X.A) (hg : Gl X x) (hm : X.mg x = some (.ref f)) (hk : PySem.W.keepIn X.K (.ref f) = true)
    (hb : KBinds X.K fd ps ks (perm is) (perm is)) (hkw : SK R X kws hs) (hall : (backToKw pos (keywordEach kws X.env)).all (·.1.isSome) = true := by rfl) (hks : (backToKw pos (keywordEach kws X.env)).filterMap (·.1) = ks := by rfl)
    (hdb : (x == ("__debug__" : Str)) = false := by decide) (hpl : ((backTo pos (starEach [] X.env)).any (·.1) || (backToKw pos (keywordEach kws X.env)).any (·.1.isNone)) = false := by rfl) :
    SE R X (.Call (.Name x p) [] kws pos) (wCallK S is [] hs) := by
  refine ⟨fun B => PE.imp (ge_callK0 F hgd hr hg hm hk hb pass0 (hkw.pk B) hall hks hdb hpl) fun σ H Q h => ?_, mono_callK mS trivial hkw.mono⟩
  have z := callK_lift (gs := []) mS trivial hkw.mono hn h
  obtain ⟨ρ, G, r, q⟩ := z
  exact q [] G H (Same.refl G) r ⟨rfl, rfl⟩
end
/-! ## making the resource -/
def spMk (R : Res) (K : PySem.W.Frag) : Sp := fun vs H Q _ => ∃ (a : Addr) (ns : List Int), vs = [.ref a] ∧ SqL K H a (ns.map V.int) ∧ ns.length ≤ 63 ∧ ∀ la fp H', Sub H H' → R.ok H' la fp → (∀ b ∈ fp, H b = none) → Q (.ref la) H'
theorem Rel.mkL {R : Res} {K : PySem.W.Frag} {B : Bs} {G H H' : Hp} {ρ : Sls} {σ : L2.St} (r : Rel R K B G ρ σ H) (nl : hasL ρ = false) (nh : B.has = false) {la : Addr} {fp : List Addr} (s : Sub H H') (ok : R.ok H' la fp) (new : ∀ b ∈ fp, H b = none) (i : Nat) :
    Rel R K B G (ρ.set i .loom) (σ.set i (some (.ref la))) H' := by
  have nol : ∀ j : Nat, ρ[j]? ≠ some .loom := fun j e => by
    rw [hasL_of e] at nl
    cases nl
  refine ⟨r.sub.trans s, by rw [List.length_set, List.length_set]; exact r.len, r.g0, r.new, fun b o e hb => s _ _ (r.fr b o e hb), fun b hb => ?_, fun j y e => ?_, fun j y e => ?_, fun j y e => ?_, la, fp, fun j e => ?_, fun _ => ok, fun b hb => ?_, fun z => by rw [nh] at z; cases z⟩
  · obtain ⟨z1, z2, z3⟩ := r.fp0 b hb
    refine ⟨z1, z2, ?_⟩
    cases e : H b with
    | none => exact absurd e z3
    | some o => rw [s b o e]; exact nofun
  · rcases set_at e with ⟨_, z⟩ | ⟨z1, z2⟩
    · cases z
    · rw [set_get z1]
      exact r.d j y z2
  · rcases set_at e with ⟨_, z⟩ | ⟨z1, z2⟩
    · cases z
    · rw [set_get z1]
      exact r.s j y z2
  · rcases set_at e with ⟨_, z⟩ | ⟨z1, z2⟩
    · cases z
    · obtain ⟨a, ho, e1, e2, e3, e4, e5, e6⟩ := r.o j y z2
      rw [set_get z1]
      refine ⟨a, ho, e1, e2, e3, s _ _ e4, e5, fun l z h1 h2 => ?_⟩
      rcases set_at h1 with ⟨_, q⟩ | ⟨q1, q2⟩
      · cases q
      · rw [set_get q1] at h2
        exact e6 l z q2 h2
  · rcases set_at e with ⟨z1, _⟩ | ⟨_, z2⟩
    · subst z1
      have hi : i < σ.length := by
        have := (List.getElem?_eq_some_iff.mp e).1
        rw [List.length_set, r.len] at this
        exact this
      rw [List.getElem?_set_self hi]
    · exact absurd z2 (nol j)
  · have nb := new b hb
    refine ⟨r.sub.free nb, R.there H' la fp ok b hb, .inl (r.h0 nb), fun j y e z => ?_⟩
    rcases set_at e with ⟨_, q⟩ | ⟨q1, q2⟩
    · cases q
    · rw [set_get q1] at z
      obtain ⟨a, ho, e1, _, _, e4, _⟩ := r.o j y q2
      rw [e1] at z
      cases z
      rw [nb] at e4
      cases e4
/-- statements where no resource has been handed in -/
structure SS0 (R : Res) (X : Cx) (st : Stmt) (w : WS) : Prop where
  ps : ∀ B : Bs, B.has = false → PS X st (liftS R X.K B w)
  mono : MonoS w
structure SSs0 (R : Res) (X : Cx) (st : List Stmt) (w : WS) : Prop where
  ps : ∀ B : Bs, B.has = false → PSs X st (liftS R X.K B w)
  mono : MonoS w
@[simp] def wMk (i j : Nat) : WS := fun D ρ => (∃ ns : List Int, ρ[j]? = some (.scr ns) ∧ ns.length ≤ 63) ∧ hasL ρ = false ∧ D.nx (ρ.set i .loom)
section
variable {R : Res} {X : Cx} {st : Stmt} {sts : List Stmt} {ws wt : WS} {pos : Pos}
theorem sss0_cons (h : SS0 R X st ws) (t : SSs R X sts wt) : SSs0 R X (st :: sts) (wSeq ws wt) := by
  refine ⟨fun B nh => PSs.imp (pss_cons (h.ps B nh) (t.ps B)) fun D σ H ⟨ρ, G, r, q⟩ => ⟨ρ, G, r, h.mono { enL R X.K B G D with nx := wt (enL R X.K B G D) } _ ρ ⟨fun ρ1 q σ' G' H' s r' => ⟨ρ1, G', r', t.mono _ _ ρ1 (enL_le s) q⟩, fun _ h => h, fun _ h => h, fun _ h => h⟩ q⟩, fun D D' ρ l => h.mono _ _ ρ ⟨fun ρ1 q => t.mono _ _ ρ1 l q, l.rt, l.bk, l.ct⟩⟩
theorem ss0_mk {k : Nat} {f : Addr} {fd : FuncData} {ps : List Str} {x y : Str} {i j : Nat} {p p' p'' cpos : Pos} (hN : X.N.Nodup) (hi : X.N[i]? = some x) (hx : Loc X.env.scope x) (F : GFn X.prog X.w X.K X.mg X.base CX0 k f fd ps (spMk R X.K)) (hgd : X.A.guards = some []) (hr : Room k X.A) {fn : Str} (hg : Gl X fn) (hm : X.mg fn = some (.ref f)) (hk : PySem.W.keepIn X.K (.ref f) = true) (hb : Binds X.K fd ps [])
    (ha : PE X (.Name y p) (tVar j)) (hdb : (fn == ("__debug__" : Str)) = false := by decide) (he : starEach [.Name y p] X.env = [(false, eval (.Name y p) X.env)] := by rfl) (hpl : (backTo cpos (starEach [] X.env)).any (·.1) = false := by rfl)
    (hs : swapsWith (.Call (.Name fn p') [.Name y p] [] cpos) (some (.Name x p'')) pos.line X.env = pure false := by rfl) (hf : X.fn x = true ∨ X.env.scope.names.lookup x = some .local := by first | exact .inl rfl | exact .inr rfl | assumption) :
    SS0 R X (.Assign [.Name x p''] (.Call (.Name fn p') [.Name y p] [] cpos) pos) (wMk i j) := by
  refine ⟨fun B nh => PS.imp (ps_set hN hi hx (ge_call F hgd hr hg hm hk hb pass0 (pa_cons ha pa_nil (by rw [he]; rfl)) hdb (by rw [he]; rfl) hpl) hs hf) fun D σ H ⟨ρ, G, r, ⟨ns, e, hl⟩, nl, q⟩ => ?_, fun D D' ρ l ⟨a, b, q⟩ => ⟨a, b, l.nx _ q⟩⟩
  obtain ⟨a, e1, e2⟩ := r.s j _ e
  refine ⟨_, e1, a, ns, rfl, Same.seq r.sub e2, hl, fun la fp H' s ok new => ?_⟩
  exact q _ G H' (Same.refl G) (r.mkL nl nh s ok new i)
end
/-- the law's own promise -/
def spLaw (K : PySem.W.Frag) : Sp := fun vs H Q _ => ∃ (a : Addr) (ns : List Int), vs = [.ref a] ∧ SqL K H a (ns.map V.int) ∧ ns.length ≤ 63 ∧ ∀ H', Q (.bl true) H'
section
variable {P : Program} {w : World} {K : PySem.W.Frag} {mg : Str → Option Value} {base : Heap} {k : Nat} {R : Res}
theorem law_gd [Plain R] {x qual p : Str} {st : Stmt} {f : Addr} {fd : FuncData} {N : List Str} (F : Fun K x qual st f fd) (Sc : FnScope N [p] (defScope st))
    (hb : ∀ (cdv : Value) (A : Around) (outer : List PySem.Env) (s : Shared) (H : Hp) (E : XK), (A.deeper (envOfC qual (defScope st) s.heap.objs.size f cdv)).guards = some [] → Room k (A.deeper (envOfC qual (defScope st) s.heap.objs.size f cdv)) →
      ∃ ws, SSs0 R (cxOf CX0 P w K mg base N qual (defScope st) f cdv A outer s H E).nox (defBody st) ws ∧ ∀ ns : List Int, ns.length ≤ 63 → ws (enD (· = .bool true)) (entry N [.scr ns])) :
    GFn P w K mg base CX0 (k + 1) f fd [p] (spLaw K) := by
  obtain ⟨oc, od, kV, doc, pm, an, cdv, ct, osl, rfl, lk, hcd⟩ := F.ex
  refine gfn_of lk hcd Sc (fun vs H Q E h => ?_) fun A outer s H vs Q E hg hr h => ?_
  · obtain ⟨a, ns, rfl, _⟩ := h
    rfl
  obtain ⟨ws, hws, hq⟩ := hb cdv A outer s H E hg hr
  obtain ⟨a, ns, rfl, hS, hl, q⟩ := h
  have hr0 : Rel R K ⟨H, H, [], 0, false⟩ H (entry N [.scr ns]) (L2.start N [.ref a]) H :=
    
    Rel.entry (la := 0) (fp := []) (as := [.scr ns]) (Same.refl H) (.cons (show Arg1 K H 0 (.ref a) (.scr ns) from ⟨a, rfl, hS⟩) .nil) (fun b hb => absurd hb (by simp)) (fun z => absurd z Bool.false_ne_true)
  refine ⟨_, (hws.ps ⟨H, H, [], 0, false⟩ rfl).nox, _, H, hr0, hws.mono (enD (· = .bool true)) _ _ ⟨fun ρ' z => (nomatch (show PyData.none = PyData.bool true from z)), fun d z => ⟨fun v ρ' σ' G' H' s r i => ?_, fun _ _ _ _ _ _ _ _ _ _ _ => Plain.xw _ _ _ _⟩, fun _ z => False.elim z, fun _ z => False.elim z⟩ (hq ns hl)⟩
  have z : d = .bool true := z
  subst z
  rw [i.bool]
  exact q H'
end
/-! ## the end of a law -/
/-- the module sys.modules is an object that nobody has made here -/
def SysIn (base : Heap) : Prop := ∃ o, base.get? sysModules = some o
theorem law_call {P : Program} {w : World} {K : PySem.W.Frag} {mg mb : Str → Option Value} {k : Nat} {fa a : Addr} {fd : FuncData} {x : Str} {s₁ : Shared} {vs : List Value} {ns : List Int}
    (KX : K.In s₁.heap) (hns : s₁.heap.Ns mainGlobals mg) (hb : s₁.heap.Ns builtinsNs mb) (hbb : ∀ x : Str, x ≠ "__name__" → mb x = bootBuiltins x) (hlim : s₁.heap.NoLimit) (hg : s₁.gens = #[]) (hsys : ∃ mm, s₁.heap.Ns sysModules mm)
    (ha : s₁.heap.get? a = some { cls := .type "list", data := .seq vs.toArray }) (hi : IntsAre vs ns) (hl : ns.length ≤ 63) (hr : Room k callerA)
    (F : ∀ base : Heap, K.In base → base.Ns mainGlobals mg → SysIn base → GFn P w K mg base CX0 k fa fd [x] (spLaw K)) (hbind : ∀ (s : Shared) (u : Value), BindsTo s fd ⟨[u], []⟩ [(x, u)]) :
    codeAny (model P w) callerA (.call (.ref fa) ⟨[.ref a], []⟩) (fun r s' => r = .ok (.ret (.bool true)) ∧ OldK s₁.heap s'.heap ∧ s'.os = s₁.os ∧ AllBare s'.gens) s₁ := by
  have rv := vals_ints hi
  have lenV := hi.length
  have big : ns.length ≤ sizeLine := Nat.le_trans hl (by decide)
  let O : Obj := { cls := .type "list", data := .seq vs.toArray }
  let H : Hp := fun b => if b = a ∧ K.lookup a = none then some (.frz O (.lst (ns.map V.int))) else none
  have Hn : ∀ b, b ≠ a → H b = none := fun b h => if_neg fun z => h z.1
  have Hs : ∀ b o, H b = some o → b = a ∧ K.lookup a = none ∧ o = .frz O (.lst (ns.map V.int)) := fun b o e => by
    by_cases z : b = a ∧ K.lookup a = none
    · have e' := (show H b = _ from if_pos z).symm.trans e
      exact ⟨z.1, z.2, (Option.some.inj e').symm⟩
    · have e' := (show H b = none from if_neg z).symm.trans e
      cases e'
  have hok : HOk P w H s₁.heap := fun b o e => by
    obtain ⟨rfl, _, rfl⟩ := Hs b o e
    exact ⟨ha, by rw [List.length_map]; exact big, vs, _, rv, ha⟩
  have hS : SqL K H a (ns.map V.int) := by
    cases q : K.lookup a with
    | none => exact .inl (.inr ⟨O, if_pos ⟨rfl, q⟩⟩)
    | some o =>
      have e := KX a o q
      rw [ha] at e
      cases e
      exact .inr ⟨_, vs.toArray, _, q, rfl, rfl, rfl, by rw [List.size_toArray, lenV]; exact big, by simpa using rv⟩
  have dictN : ∀ {b : Addr} {o : Obj} {es : Array DictEntry} {ep : Nat}, s₁.heap.get? b = some o → o.data = .dict es ep → H b = none := fun {b o es ep} e d => by
    by_cases z : b = a
    · subst z
      rw [ha] at e
      cases e
      exact nomatch (show Data.seq vs.toArray _ = Data.dict es ep from d)
    · exact Hn b z
  have nsH : ∀ {b : Addr} {m : Str → Option Value}, s₁.heap.Ns b m → (hidT s₁.heap H).Ns b m := fun {b m} ⟨o, es, ep, e, d, r⟩ => ⟨o, es, ep, hidT_get e (dictN e d), d, r⟩
  have kinH : K.In (hidT s₁.heap H) := fun b o e => hidT_get (KX b o e) (by
    cases q : H b with
    | none => rfl
    | some u =>
      obtain ⟨rfl, h1, _⟩ := Hs b u q
      rw [h1] at e
      cases e)
  have md : Mod K mg (hidT s₁.heap H) := by
    obtain ⟨mc, l1, l2⟩ := hlim
    exact ⟨kinH, nsH hns, ⟨mb, nsH hb, hbb⟩, ⟨mc, nsH l1, l2⟩⟩
  have e0 : Env0 P w K mg (hidT s₁.heap H) callerA [] s₁ H :=
    ⟨rfl, md, fun b o e => of_hidT e, Nat.le_of_eq (hidT_size _ _), trivial, (fun b z => nomatch z), hok, .of_eq hg⟩
  refine codeAny_mono ((F _ kinH (nsH hns) (let ⟨_, h⟩ := hsys; let ⟨o, _, _, e, _⟩ := nsH h; ⟨o, e⟩)).go callerA [] s₁ H ⟨[.ref a], []⟩ [.ref a] [.ref a] (fun v _ => v = .bl true) (fun _ _ _ => False) rfl hr e0 (hbind s₁ (.ref a)) (.cons rfl .nil) ⟨a, ns, rfl, hS, hl, fun _ => rfl⟩) ?_
  intro r s' h
  match r, h with
  | .error e, h => exact False.elim h
  | .ok (.ret u), h =>
    obtain ⟨v, H', os, bare, un, hok', r', q⟩ := h
    have q : v = .bl true := q
    subst q
    obtain rfl : u = Value.bool true := r'
    refine ⟨rfl, OldK.of_keep fun b o e => ?_, os, bare⟩
    cases q : H b with
    | none => exact un.keep b o e q (List.not_mem_nil) (List.not_mem_nil)
    | some u =>
      obtain ⟨rfl, _, rfl⟩ := Hs b u q
      rw [ha] at e
      cases e
      obtain ⟨e2, _⟩ := hok' b _ (un.frzs b _ _ q)
      exact e2
theorem law_end {l : PySem.W.OpenLaw} {k : Nat} {q : Program} {loose : List Str} {XP : (Str → Option Value) → Heap → Prop} {YP : World → Heap → Prop} {d : DefRec} {K : Params → PySem.W.Frag} {x : Str}
    (hn : l.most = some 63) (hi : importsNone q = true) (hdf : d.params.defaults = []) (hr : Room k callerA) (hY : ∀ (w : World) (h : Heap), YP w h → (K w.params).In h)
    (F : ∀ (w : World) (mg : Str → Option Value) (fa : Addr) (h : Heap), (K w.params).In h → h.Ns mainGlobals mg → mg d.name = some (.ref fa) →
      ∃ fd : FuncData, (∀ (s : Shared) (u : Value), BindsTo s fd ⟨[u], []⟩ [(x, u)]) ∧ ∀ base : Heap, (K w.params).In base → base.Ns mainGlobals mg → SysIn base → GFn l.prog w (K w.params) mg base CX0 k fa fd [x] (spLaw (K w.params))) :
    PySem.W.WalkO q loose XP YP l.row.toRowW d [] (fun f vs => PySem.call f vs) := by
  refine Att.attach_call hn hdf ?_
  intro w s₀ s₁ mg mb fa o pm cd doc a vs ns G Y _ _ _ hmg hobj hints hlen hg
  have KX := hY w _ Y
  obtain ⟨fd, hb, hF⟩ := F w mg fa _ KX G.T.g hmg
  exact law_call KX G.T.g G.T.b G.T.builtins G.T.nolimit hg (let ⟨mm, h, _⟩ := (G.T.seer hi).mods; ⟨mm, h⟩) hobj hints hlen hr hF hb
end DL
namespace DL
open PySem PySem.Spec PyProof.Rows L2
/-! ## the operations of the language, over data -/
section
variable {R : Res} {K : PySem.W.Frag}
theorem aft {B : Bs} {G : Hp} {ρ : Sls} {σ : L2.St} {H : Hp} {Q : VK} {z : PyData} {v : V} (q : Aft R K B G ρ σ Q z) (r : Rel R K B G ρ σ H) (i : Is K G v z) : Q v H := q v G H (Same.refl G) r i
theorem aftN {B : Bs} {G : Hp} {ρ : Sls} {σ : L2.St} {H : Hp} {Q : VK} {z : PyData} {p : Addr} {o : HO} (q : Aft R K B G ρ σ Q z) (r : Rel R K B G ρ σ H) (n : H p = none) (i : Is K (upd G p o) (.ref p) z) : Q (.ref p) (upd H p o) :=
  q _ _ _ (upd_new (r.sub.free n)) (r.laid n) i
theorem isTup {G H : Hp} {p : Addr} {vs : List V} {ds : List PyData} (n : G p = none) (h : Iss K G vs ds) : Is K (upd G p (.tup vs)) (.ref p) (.tuple ds) := .tup (.inl (.inl upd_same)) (h.mono (upd_new n))
theorem isLst {G H : Hp} {p : Addr} {vs : List V} {ds : List PyData} (n : G p = none) (h : Iss K G vs ds) : Is K (upd G p (.lst vs)) (.ref p) (.list ds) := .lst upd_same (h.mono (upd_new n))
@[simp] def addD : D2
  | .int i, .int j, q => q (.int (i + j))
  | .int i, .bool c, q => q (.int (i + b2i c))
  | .str a, .str b, q => a.length + b.length ≤ sizeLine ∧ q (.str (a ++ b))
  | .tuple a, .tuple b, q => a.length + b.length ≤ sizeLine ∧ q (.tuple (a ++ b))
  | .list a, .list b, q => a.length + b.length ≤ sizeLine ∧ q (.list (a ++ b))
  | _, _, _ => False
def rAddD (K : PySem.W.Frag) : R2 := fun x y H Q => ((((rI0 (fun i j => .int (i + j)) x y H Q) ∨ (∃ i k, x = .int i ∧ y = .bl k ∧ Q (.int (i + b2i k)) H)) ∨ (∃ i j, x = .str i ∧ y = .str j ∧ i.length + j.length ≤ sizeLine ∧ Q (.str (i ++ j)) H)) ∨ rCatA K x y H Q) ∨ rCat x y H Q
theorem op_addD {X : Cx} : OpR X (binaryOp .Add) (rAddD X.K) := (((op_add.or op_add_ib).or op_add_str).or op_catA).or op_cat
theorem Iss.nil_iff {G : Hp} {vs : List V} {ds : List PyData} (h : Iss K G vs ds) : vs = [] ↔ ds = [] := by
  cases h <;> simp
theorem lk_add : Lk2 R K (rAddD K) addD := by
  refine ⟨fun B G ρ σ H v u x y Q r hx hy h => ?_, fun x y q q' hq h => ?_⟩
  · cases hx <;> cases hy <;> first
      | exact h.elim
      | exact .inl (.inl (.inl (.inl ⟨_, _, rfl, rfl, aft h r (.int _)⟩)))
      | exact .inl (.inl (.inl (.inr ⟨_, _, rfl, rfl, aft h r (.int _)⟩)))
      | exact .inl (.inl (.inr ⟨_, _, rfl, rfl, h.1, aft h.2 r (.str _)⟩))
      | skip
    · rename_i a vs ds sa ha b us es sb hb
      refine .inr ⟨a, b, vs, us, rfl, rfl, sa, sb, by rw [ha.length, hb.length]; exact h.1, fun p np => aftN h.2 r np (isLst (H := H) (r.sub.free np) (ha.append hb))⟩
    · rename_i a vs ds sa ha b us es sb hb
      refine .inl (.inr ⟨a, b, vs, us, rfl, rfl, Sub.seqT r.sub sa, Sub.seqT r.sub sb, by rw [ha.length, hb.length]; exact h.1, fun e => ?_, fun e1 e2 => ?_, fun e1 e2 p np => aftN h.2 r np (isTup (H := H) (r.sub.free np) (ha.append hb))⟩)
      · have e' := ha.nil_iff.mp e
        subst e'
        exact aft h.2 r (.tup sb hb)
      · have e' := hb.nil_iff.mp e2
        subst e'
        have q := aft h.2 r (.tup (ds := ds ++ []) sa (by rw [List.append_nil]; exact ha))
        exact q
  · unfold addD at h ⊢
    split at h <;> first
      | exact hq _ h
      | exact ⟨h.1, hq _ h.2⟩
      | exact h.elim
end
end DL
namespace DL
open PySem PySem.Spec PyProof.Rows L2
section
variable {R : Res} {K : PySem.W.Frag}
/-- two ints -/
@[simp] def intD (C : Int → Int → Prop) (g : Int → Int → PyData) : D2
  | .int i, .int j, q => C i j ∧ q (g i j)
  | _, _, _ => False
theorem lk_int {C : Int → Int → Prop} {g : Int → Int → V} {gd : Int → Int → PyData} (hg : ∀ i j G, Is K G (g i j) (gd i j)) : Lk2 R K (rI C g) (intD C gd) := by
  refine ⟨fun B G ρ σ H v u x y Q r hx hy h => ?_, fun x y q q' hq h => ?_⟩
  · cases hx <;> cases hy <;> first
      | exact h.elim
      | exact ⟨_, _, rfl, rfl, h.1, aft h.2 r (hg _ _ _)⟩
  · unfold intD at h ⊢
    split at h
    · exact ⟨h.1, hq _ h.2⟩
    · exact h.elim
@[simp] def intD0 (g : Int → Int → PyData) : D2
  | .int i, .int j, q => q (g i j)
  | _, _, _ => False
theorem lk_int0 {g : Int → Int → V} {gd : Int → Int → PyData} (hg : ∀ i j G, Is K G (g i j) (gd i j)) : Lk2 R K (rI0 g) (intD0 gd) := by
  refine ⟨fun B G ρ σ H v u x y Q r hx hy h => ?_, fun x y q q' hq h => ?_⟩
  · cases hx <;> cases hy <;> first
      | exact h.elim
      | exact ⟨_, _, rfl, rfl, aft h r (hg _ _ _)⟩
  · unfold intD0 at h ⊢
    split at h
    · exact hq _ h
    · exact h.elim
@[simp] abbrev subD : D2 := intD0 fun i j => .int (i - j)
theorem lk_sub : Lk2 R K (rI0 fun i j => .int (i - j)) subD := lk_int0 fun _ _ _ => .int _
@[simp] abbrev mulD : D2 := intD CMul fun i j => .int (i * j)
theorem lk_mul : Lk2 R K (rI CMul fun i j => .int (i * j)) mulD := lk_int fun _ _ _ => .int _
@[simp] abbrev fdivD : D2 := intD CDiv fun i j => .int (i / j)
theorem lk_fdiv : Lk2 R K (rI CDiv fun i j => .int (i / j)) fdivD := lk_int fun _ _ _ => .int _
@[simp] abbrev modD : D2 := intD (fun _ j => 0 < j) fun i j => .int (i % j)
theorem lk_mod : Lk2 R K (rI (fun _ j => 0 < j) fun i j => .int (i % j)) modD := lk_int fun _ _ _ => .int _
@[simp] abbrev powD : D2 := intD CPow fun i j => .int (i ^ j.toNat)
theorem lk_pow : Lk2 R K (rI CPow fun i j => .int (i ^ j.toNat)) powD := lk_int fun _ _ _ => .int _
@[simp] abbrev ltD : D2 := intD0 fun i j => .bool (decide (i < j))
@[simp] abbrev leD : D2 := intD0 fun i j => .bool (decide (i ≤ j))
@[simp] abbrev gtD : D2 := intD0 fun i j => .bool (decide (j < i))
@[simp] abbrev geD : D2 := intD0 fun i j => .bool (decide (j ≤ i))
theorem lk_lt : Lk2 R K (rI0 fun i j => .bl (decide (i < j))) ltD := lk_int0 fun _ _ _ => .bl _
theorem lk_le : Lk2 R K (rI0 fun i j => .bl (decide (i ≤ j))) leD := lk_int0 fun _ _ _ => .bl _
theorem lk_gt : Lk2 R K (rI0 fun i j => .bl (decide (j < i))) gtD := lk_int0 fun _ _ _ => .bl _
theorem lk_ge : Lk2 R K (rI0 fun i j => .bl (decide (j ≤ i))) geD := lk_int0 fun _ _ _ => .bl _
@[simp] def negD : D1
  | .int i, q => q (.int (-i))
  | _, _ => False
theorem lk_neg : Lk1 R K (rU fun i => .int (-i)) negD := by
  refine ⟨fun B G ρ σ H v x Q r hx h => ?_, fun x q q' hq h => ?_⟩
  · cases hx <;> first
      | exact h.elim
      | exact ⟨_, rfl, aft h r (.int _)⟩
  · unfold negD at h ⊢
    split at h
    · exact hq _ h
    · exact h.elim
/-! ### equality -/
def noDct : PyData → Bool
  | .dict _ => false
  | _ => true
mutual
theorem Iss.dp {G H : Hp} (s : Sub G H) : ∀ {vs : List V} {ds : List PyData}, PyData.canLayAll0 ds = true → Iss K G vs ds → DpAll K H vs ds
  | _, _, _, .nil => .nil
  | _, _, c, .cons h t => by
    simp only [PyData.canLayAll0, Bool.and_eq_true] at c
    exact .cons (Is.dp s c.1 h) (Iss.dp s c.2 t)
theorem Is.dp {G H : Hp} (s : Sub G H) : ∀ {v : V} {d : PyData}, d.canLay0 = true → Is K G v d → Dp K H v d
  | _, _, _, .non => .non
  | _, _, _, .bl b => .bl b
  | _, _, _, .int i => .int i
  | _, _, _, .str x => .str x
  | _, _, c, .lst sa ha => .lst (.of (s _ _ sa)) (Iss.dp s (by simpa [PyData.canLay0] using c) ha)
  | _, _, c, .tup sa ha => .tup (Sub.seqT s sa) (Iss.dp s (by simpa [PyData.canLay0] using c) ha)
  | _, _, c, .dct sa ha => by simp [PyData.canLay0] at c
  | _, _, c, .kdt sa ha => by simp [PyData.canLay0] at c
end
theorem IsH.dp {G H : Hp} (s : Sub G H) {v : V} {d : PyData} (c : d.canLay0 = true) : IsH K G H v d → Dp K H v d
  | .non => .non
  | .bl b => .bl b
  | .int i => .int i
  | .str x => .str x
  | .lst sa ha => .lst (.of sa) (ha.dp s (by simpa [PyData.canLay0] using c))
  | .tup sa ha => .tup (Sub.seqT s sa) (ha.dp s (by simpa [PyData.canLay0] using c))
  | .dct sa ha => by simp [PyData.canLay0] at c
  | .kdt sa ha => by simp [PyData.canLay0] at c
@[simp] def eqD : D2 := fun x y q => SeqAt.shaped x = true ∧ SeqAt.shaped y = true ∧ q (.bool (PyData.eqv x y))
@[simp] def neD : D2 := fun x y q => SeqAt.shaped x = true ∧ SeqAt.shaped y = true ∧ q (.bool (!PyData.eqv x y))
theorem lk_eq : Lk2 R K (rEqD K) eqD := by
  refine ⟨fun B G ρ σ H v u x y Q r hx hy h => ?_, fun x y q q' hq h => ⟨h.1, h.2.1, hq _ h.2.2⟩⟩
  exact ⟨x, y, hx.dp r.sub (SeqAt.canLay_of_shaped h.1), hy.dp r.sub (SeqAt.canLay_of_shaped h.2.1), h.1, h.2.1, aft h.2.2 r (.bl _)⟩
theorem lk_ne : Lk2 R K (rNeD K) neD := by
  refine ⟨fun B G ρ σ H v u x y Q r hx hy h => ?_, fun x y q q' hq h => ⟨h.1, h.2.1, hq _ h.2.2⟩⟩
  exact ⟨x, y, hx.dp r.sub (SeqAt.canLay_of_shaped h.1), hy.dp r.sub (SeqAt.canLay_of_shaped h.2.1), h.1, h.2.1, aft h.2.2 r (.bl _)⟩
/-! ### is None -/
def isND (neg : Bool) : D2 := fun x y q => y = .none ∧ q (.bool (match x with | .none => !neg | _ => neg))
section
variable {neg : Bool} {q : PyData → Prop}
@[simp] theorem isND_non : isND neg .none .none q = q (.bool (!neg)) := by simp [isND]
@[simp] theorem isND_int {i : Int} : isND neg (.int i) .none q = q (.bool neg) := by simp [isND]
@[simp] theorem isND_bl {i : Bool} : isND neg (.bool i) .none q = q (.bool neg) := by simp [isND]
@[simp] theorem isND_str {i : Str} : isND neg (.str i) .none q = q (.bool neg) := by simp [isND]
@[simp] theorem isND_lst {i : List PyData} : isND neg (.list i) .none q = q (.bool neg) := by simp [isND]
@[simp] theorem isND_tup {i : List PyData} : isND neg (.tuple i) .none q = q (.bool neg) := by simp [isND]
@[simp] theorem isND_dct {i : List (PyData × PyData)} : isND neg (.dict i) .none q = q (.bool neg) := by simp [isND]
end
theorem lk_isN : Lk2 R K (fun x y H Q => y = .non ∧ Q (.bl (decide (x = .non))) H) (isND false) := by
  refine ⟨fun B G ρ σ H v u x y Q r hx hy h => ?_, fun x y q q' hq h => ⟨h.1, hq _ h.2⟩⟩
  obtain ⟨rfl, h⟩ := h
  cases hy
  refine ⟨rfl, ?_⟩
  cases hx <;> exact aft h r (.bl _)
theorem lk_notN : Lk2 R K (fun x y H Q => y = .non ∧ Q (.bl (!decide (x = .non))) H) (isND true) := by
  refine ⟨fun B G ρ σ H v u x y Q r hx hy h => ?_, fun x y q q' hq h => ⟨h.1, hq _ h.2⟩⟩
  obtain ⟨rfl, h⟩ := h
  cases hy
  refine ⟨rfl, ?_⟩
  cases hx <;> exact aft h r (.bl _)
/-! ### subscripts -/
def ixD : D2
  | .list ds, .int i, q => ∃ d, atI ds i = some d ∧ q d
  | .tuple ds, .int i, q => ∃ d, atI ds i = some d ∧ q d
  | .str z, .int i, q => z.length ≤ sizeLine ∧ ∃ c, atI z.cps.toList i = some c ∧ q (.str ⟨#[c]⟩)
  | _, _, _ => False
@[simp] theorem ixD_lst {ds : List PyData} {i : Int} {q : PyData → Prop} : ixD (.list ds) (.int i) q = ∃ d, atI ds i = some d ∧ q d := rfl
@[simp] theorem ixD_tup {ds : List PyData} {i : Int} {q : PyData → Prop} : ixD (.tuple ds) (.int i) q = ∃ d, atI ds i = some d ∧ q d := rfl
@[simp] theorem ixD_str {z : Str} {i : Int} {q : PyData → Prop} : ixD (.str z) (.int i) q = (z.length ≤ sizeLine ∧ ∃ c, atI z.cps.toList i = some c ∧ q (.str ⟨#[c]⟩)) := rfl
theorem Iss.atI {G : Hp} {vs : List V} {ds : List PyData} (h : Iss K G vs ds) {i : Int} {d : PyData} (e : L2.atI ds i = some d) : ∃ v, L2.atI vs i = some v ∧ Is K G v d := by
  unfold L2.atI at e ⊢
  rw [h.length]
  cases q : ixN ds.length i with
  | none => rw [q] at e; cases e
  | some j =>
    rw [q] at e
    exact h.get e
theorem lk_ix : Lk2 R K (rIx K) ixD := by
  refine ⟨fun B G ρ σ H v u x y Q r hx hy h => ?_, fun x y q q' hq h => ?_⟩
  · cases hx <;> cases hy <;> first
      | exact h.elim
      | skip
    · obtain ⟨z, c, e, q⟩ := h
      exact .inr (.inr ⟨_, _, c, rfl, rfl, z, e, aft q r (.str _)⟩)
    · rename_i sa ha i
      obtain ⟨d, e, q⟩ := h
      obtain ⟨w, e1, i1⟩ := ha.atI e
      exact .inl ⟨_, _, _, w, rfl, rfl, .of sa, e1, aft q r i1⟩
    · rename_i sa ha i
      obtain ⟨d, e, q⟩ := h
      obtain ⟨w, e1, i1⟩ := ha.atI e
      exact .inr (.inl ⟨_, _, _, w, rfl, rfl, Sub.seqT r.sub sa, e1, aft q r i1⟩)
  · unfold ixD at h ⊢
    split at h
    · exact ⟨h.choose, h.choose_spec.1, hq _ h.choose_spec.2⟩
    · exact ⟨h.choose, h.choose_spec.1, hq _ h.choose_spec.2⟩
    · exact ⟨h.1, h.2.choose, h.2.choose_spec.1, hq _ h.2.choose_spec.2⟩
    · exact h.elim
end
/-! ### slices -/
structure LkS (R : Res) (K : PySem.W.Frag) (r : V → Option Int → Option Int → Hp → VK → Prop) (f : PyData → Option Int → Option Int → (PyData → Prop) → Prop) : Prop where
  to : ∀ (B : Bs) (G : Hp) (ρ : Sls) (σ : L2.St) (H : Hp) (v : V) (x : PyData) (lo hi : Option Int) (Q : VK), Rel R K B G ρ σ H → IsH K G H v x → f x lo hi (Aft R K B G ρ σ Q) → r v lo hi H Q
  mono : ∀ x lo hi (q q' : PyData → Prop), (∀ z, q z → q' z) → f x lo hi q → f x lo hi q'
/-- a part of a slice -/
inductive Pt where
  | no
  | e (w : WE)
@[simp] def Pt.run : Pt → Sls → (Option Int → Sls → Prop) → Prop
  | .no, ρ, Q => Q none ρ
  | .e w, ρ, Q => w ρ fun d ρ' => ∃ i, d = .int i ∧ Q (some i) ρ'
def Pt.Mono : Pt → Prop
  | .no => True
  | .e w => MonoE w
theorem Pt.Mono.run {p : Pt} (m : p.Mono) {ρ : Sls} {Q Q' : Option Int → Sls → Prop} (h : ∀ o ρ', Q o ρ' → Q' o ρ') (q : p.run ρ Q) : p.run ρ Q' := by
  cases p with
  | no => exact h _ _ q
  | e w => exact m ρ _ _ (fun d ρ' ⟨i, hi, q⟩ => ⟨i, hi, h _ _ q⟩) q
def liftP (R : Res) (K : PySem.W.Frag) (B : Bs) (p : Pt) : TO := fun σ H Q => ∃ ρ G, Rel R K B G ρ σ H ∧ p.run ρ fun o ρ' => ∀ G' H', Sub G G' → Rel R K B G' ρ' σ H' → Q o H'
structure SP' (R : Res) (X : Cx) (e : Option Expr) (p : Pt) : Prop where
  po : ∀ B, PO X e (liftP R X.K B p)
  mono : p.Mono
@[simp] def wSl (f : PyData → Option Int → Option Int → (PyData → Prop) → Prop) (a : Od) (lo hi : Pt) : WE := fun ρ Q => a.run ρ fun ga ρ1 => lo.run ρ1 fun l ρ2 => hi.run ρ2 fun u ρ3 => ∃ x, ga ρ3 = some x ∧ f x l u fun z => Q z ρ3
section
variable {R : Res} {X : Cx} {e : Expr} {w : WE} {a : Od} {lo hi : Option Expr} {pl ph : Pt} {pos p2 : Pos}
theorem PO.imp {e : Option Expr} {t t' : TO} (h : PO X e t) (f : ∀ σ H Q, t' σ H Q → t σ H Q) : PO X e t' := ⟨fun pins s σ H Q I q => h.run pins s σ H Q I (f σ H Q q)⟩
theorem sp_no : SP' R X none .no := ⟨fun B => PO.imp po_none fun σ H Q ⟨ρ, G, r, q⟩ => q G H (Same.refl G) r, trivial⟩
theorem sp_e (h : SE R X e w) : SP' R X (some e) (.e w) := ⟨fun B => PO.imp (po_some (h.pe B)) fun σ H Q ⟨ρ, G, r, q⟩ => ⟨ρ, G, r, h.mono ρ _ _ (fun d ρ' ⟨i, e, q⟩ v G' H' s r' iv => by
  subst e
  exact ⟨i, iv.intV, q G' H' s r'⟩) q⟩, h.mono⟩
theorem se_slice {r : V → Option Int → Option Int → Hp → VK → Prop} {f : PyData → Option Int → Option Int → (PyData → Prop) → Prop} (hr : SlR X r) (L : LkS R X.K r f) (ha : SO R X e a) (hl : SP' R X lo pl) (hh : SP' R X hi ph) : SE R X (.Subscript e (.Slice lo hi none p2) pos) (wSl f a pl ph) := by
  refine ⟨fun B => PE.imp (pe_slice hr (ha.pe B) (hl.po B) (hh.po B)) fun σ H Q ⟨ρ, G, rl, h⟩ => ?_, fun ρ Q Q' h => ha.mono.run fun _ _ q => hl.mono.run (fun _ _ q => hh.mono.run (fun _ _ ⟨x, e, q⟩ => ⟨x, e, L.mono _ _ _ _ _ (fun z q => h z _ q) q⟩) q) q⟩
  refine od_step ha.mono rl h fun ga ρ1 v G1 H1 s1 r1 i1 h1 => ?_
  refine ⟨ρ1, G1, r1, hl.mono.run (fun l ρ2 h2 G2 H2 s2 r2 => ?_) h1⟩
  refine ⟨ρ2, G2, r2, hh.mono.run (fun u ρ3 h3 G3 H3 s3 r3 => ?_) h2⟩
  obtain ⟨x, e, q⟩ := h3
  exact L.to B G3 ρ3 σ H3 v x l u Q r3 ((i1.mono (s2.trans s3)).at r3 e) (L.mono _ _ _ _ _ (fun z q v' G' H' s r' i => q v' G' H' (((s1.trans s2).trans s3).trans s) r' i) q)
end
def cutD (xs : List PyData) (lo hi : Option Int) : List PyData := (xs.drop (HT.sIx xs.length 0 lo)).take (HT.sIx xs.length xs.length hi - HT.sIx xs.length 0 lo)
@[simp] def slD : PyData → Option Int → Option Int → (PyData → Prop) → Prop
  | .list ds, lo, hi, q => q (.list (cutD ds lo hi))
  | .tuple ds, lo, hi, q => q (.tuple (cutD ds lo hi))
  | .str z, lo, hi, q => z.length ≤ sizeLine ∧ q (.str (cutS z lo hi))
  | _, _, _, _ => False
def rSlD (K : PySem.W.Frag) : V → Option Int → Option Int → Hp → VK → Prop := fun x lo hi H Q => (rSlL K x lo hi H Q ∨ rSlA K x lo hi H Q) ∨ (∃ z, x = .str z ∧ z.length ≤ sizeLine ∧ Q (.str (cutS z lo hi)) H)
theorem Iss.cut {K : PySem.W.Frag} {G : Hp} {vs : List V} {ds : List PyData} (h : Iss K G vs ds) (lo hi : Option Int) : Iss K G (cutV vs lo hi) (cutD ds lo hi) := by
  unfold cutV cutD
  rw [h.length]
  exact (h.drop _).take _
theorem cut_whole {α : Type} {xs : List α} {lo hi : Option Int} (h : HT.sIx xs.length 0 lo = 0 ∧ HT.sIx xs.length xs.length hi = xs.length) : (xs.drop (HT.sIx xs.length 0 lo)).take (HT.sIx xs.length xs.length hi - HT.sIx xs.length 0 lo) = xs := by
  rw [h.1, h.2]
  simp
theorem lk_sl {R : Res} {K : PySem.W.Frag} : LkS R K (rSlD K) slD := by
  refine ⟨fun B G ρ σ H v x lo hi Q r hx h => ?_, fun x lo hi q q' hq h => ?_⟩
  · cases hx <;> first
      | exact h.elim
      | skip
    · exact .inr ⟨_, rfl, h.1, aft h.2 r (.str _)⟩
    · rename_i a vs ds sa ha
      exact .inl (.inl ⟨_, _, rfl, .of sa, fun p np => aftN h r np (isLst (H := H) (r.sub.free np) (ha.cut lo hi))⟩)
    · rename_i a vs ds sa ha
      refine .inl (.inr ⟨_, _, rfl, Sub.seqT r.sub sa, fun hw => ?_, fun hw p np => aftN h r np (isTup (H := H) (r.sub.free np) (ha.cut lo hi))⟩)
      have : cutD ds lo hi = ds := cut_whole (by rw [← ha.length]; exact hw)
      have h : Aft R K B G ρ σ Q (.tuple (cutD ds lo hi)) := h
      rw [this] at h
      exact aft h r (.tup sa ha)
  · unfold slD at h ⊢
    split at h
    · exact hq _ h
    · exact hq _ h
    · exact ⟨h.1, hq _ h.2⟩
    · exact h.elim
theorem sl_D {X : Cx} : SlR X (rSlD X.K) := (sl_list.or sl_tupA).or (fun pins s σ H x v vl vu lo hi sl Q I rx hs pl pu h => sl_str pins s σ H x v vl vu lo hi sl Q I rx hs pl pu h)
end DL
namespace DL
open PySem PySem.Spec PyProof.Rows L2
/-! ## the text of a value -/
section
variable {X : Cx} {pins : List (Addr × Obj)} {σ : L2.St} {H : Hp} {s : Shared}
def Trk (H : Hp) (as : List Addr) : Prop := ∀ b ∈ as, ∃ o, H b = some o
theorem Trk.nil {H : Hp} : Trk H [] := fun _ h => absurd h List.not_mem_nil
theorem Trk.app {H : Hp} {as bs : List Addr} (h : Trk H as) (k : Trk H bs) : Trk H (as ++ bs) := fun b hb => (List.mem_append.mp hb).elim (h b) (k b)
theorem key_reads {h : Heap} {k : Key} {v : Value} (e : keyIs k v = true) : Reads h v (kD k) [] := by
  rcases keyIs_shape e with ⟨i, t, rfl, rfl⟩ | ⟨x, t, rfl, rfl⟩
  · exact .int i t
  · exact .str x t
mutual
theorem Is.reads (I : Inv X pins σ H s) : ∀ {d : PyData} {v : V} {u : Value}, d.showable = true ∨ d.canLay0 = true → Is X.K H v d → RelV v u → ∃ as, Reads s.heap u d as ∧ Trk H as
  | .none, _, _, _, h, r => by
    cases h
    cases r
    exact ⟨_, .none, .nil⟩
  | .bool b, _, _, _, h, r => by
    cases h
    cases r
    exact ⟨_, .bool b, .nil⟩
  | .int i, _, _, _, h, r => by
    cases h
    obtain ⟨t, rfl⟩ := r
    exact ⟨_, .int i t, .nil⟩
  | .str x, _, _, _, h, r => by
    cases h
    obtain ⟨t, rfl⟩ := r
    exact ⟨_, .str x t, .nil⟩
  | .list ds, _, _, c, h, r => by
    cases h with
    | lst sa ha =>
      cases r
      obtain ⟨its, rv, ⟨o, n, ho, hc, _, hd⟩, _⟩ := I.list (SqL.of sa)
      obtain ⟨as, q, t⟩ := Iss.reads I (c.imp (fun c => by simpa [PyData.showable] using c) fun c => by simpa [PyData.canLay0] using c) ha rv
      refine ⟨_, .list ho hc hd q, fun b hb => ?_⟩
      rcases List.mem_cons.mp hb with rfl | hb
      · exact ⟨_, sa⟩
      · exact t b hb
  | .tuple ds, _, _, c, h, r => by
    cases h with
    | tup sa ha =>
      cases r
      obtain ⟨its, rv, ⟨o, ho, hc, n, hd⟩, _⟩ := I.tuple sa
      obtain ⟨as, q, t⟩ := Iss.reads I (c.imp (fun c => by simpa [PyData.showable] using c) fun c => by simpa [PyData.canLay0] using c) ha rv
      exact ⟨_, .tuple ho hc hd q, t⟩
  | .dict ps, _, _, c, h, r => by
    cases h with
    | kdt sa ha =>
      rw [PyData.showable, PyData.showableKv, kmark_show] at c
      simp [PyData.canLay0] at c
    | dct sa ha =>
      cases r
      rename_i a kvs
      obtain ⟨_, _, vs, kv, o, es, ep, ho, hx, hd, _, hp, _⟩ := I.hok a _ sa
      obtain ⟨as, q1, q2, t⟩ := Isd.reads I (c.elim (fun c => by simpa [PyData.showable] using c) fun c => by simp [PyData.canLay0] at c) ha kv hp
      refine ⟨_, .dict ho hx.1 hd q1 q2, fun b hb => ?_⟩
      have hb : b ∈ a :: ([] ++ as) := hb
      rcases List.mem_cons.mp hb with rfl | hb
      · exact ⟨_, sa⟩
      · exact t b (by simpa using hb)
theorem Iss.reads (I : Inv X pins σ H s) : ∀ {ds : List PyData} {vs : List V} {us : List Value}, PyData.showableAll ds = true ∨ PyData.canLayAll0 ds = true → Iss X.K H vs ds → Vals vs us → ∃ as, ReadsAll s.heap us ds as ∧ Trk H as
  | [], _, _, _, h, r => by
    cases h
    cases r
    exact ⟨_, .nil, .nil⟩
  | d :: ds, _, _, c, h, r => by
    rw [PyData.showableAll, Bool.and_eq_true, PyData.canLayAll0, Bool.and_eq_true] at c
    cases h with
    | cons h1 h2 =>
      cases r with
      | cons r1 r2 =>
        obtain ⟨as, q1, t1⟩ := Is.reads I (c.imp And.left And.left) h1 r1
        obtain ⟨bs, q2, t2⟩ := Iss.reads I (c.imp And.right And.right) h2 r2
        exact ⟨_, .cons q1 q2, t1.app t2⟩
theorem Isd.reads (I : Inv X pins σ H s) : ∀ {ps : List (PyData × PyData)} {kvs : List (Key × V)} {us : List (Key × Value)} {es : List DictEntry}, PyData.showableKv ps = true → Isd X.K H kvs ps → KV kvs us → Pairs (mixKind X.prog X.w) es us →
    ∃ as, ReadsAll s.heap (es.map (·.key)) (ps.map (·.1)) [] ∧ ReadsAll s.heap (es.map (·.val)) (ps.map (·.2)) as ∧ Trk H as
  | [], _, _, _, _, h, r, p => by
    cases h
    cases r
    cases p
    exact ⟨_, .nil, .nil, .nil⟩
  | (k, d) :: ps, _, _, _, c, h, r, p => by
    rw [PyData.showableKv, Bool.and_eq_true, Bool.and_eq_true] at c
    cases h with
    | cons h1 h2 =>
      cases r with
      | cons r1 r2 =>
        cases p with
        | cons p1 p2 p3 =>
          rename_i k' v kvs kv us e es
          obtain ⟨kk, u⟩ := kv
          obtain ⟨e1, rv⟩ := r1
          have e1 : k' = kk := e1
          subst e1
          obtain ⟨as, q1, t1⟩ := Is.reads I (.inl c.1.2) h1 (show RelV v e.val by rw [p2]; exact rv)
          obtain ⟨bs, q2, q3, t2⟩ := Isd.reads I c.2 h2 r2 p3
          refine ⟨as ++ bs, ?_, .cons q1 q3, t1.app t2⟩
          have z := ReadsAll.cons (key_reads (h := s.heap) (show keyIs k' e.key = true from p1)) q2
          exact z
end
end
@[simp] def shownD : D1 := fun x q => x.showable = true ∧ x.depth ≤ 60 ∧ x.shown.length ≤ sizeLine ∧ q (.str x.shown)
def rShown (K : PySem.W.Frag) : V → Hp → VK → Prop := fun v H Q => ∃ d, Is K H v d ∧ d.showable = true ∧ d.depth ≤ 60 ∧ d.shown.length ≤ sizeLine ∧ Q (.str d.shown) H
theorem call_shown {X : Cx} {k : Nat} (hg : X.A.guards = some []) (hr : Room k X.A) (hs : SysIn X.base) : CallR X (.builtin "repr") (fun xs H Q => ∃ v, xs = [v] ∧ rShown X.K v H Q) := by
  intro pins s σ H xs us Q I rx h
  obtain ⟨v, rfl, d, hi, h1, h2, h3, q⟩ := h
  obtain ⟨u, rfl, ru⟩ := vals1 rx
  obtain ⟨as, rd, tk⟩ := hi.reads I (.inl h1) ru
  have hu := hr.units
  have nsys : sysModules ∉ as := fun hm => by
    obtain ⟨o, e⟩ := tk _ hm
    obtain ⟨o', e'⟩ := hs
    rw [(I.bs _ _ e').2] at e
    cases e
  have fin : ∀ (h' : Heap) (t tk' : Nat), (∀ b o, s.heap.get? b = some o → h'.get? b = some o) → EP X pins σ Q (.str d.shown t) { s with heap := h', toks := tk' } :=
    fun h' t tk' keep => ⟨.str d.shown, H, I.kept keep, ⟨t, rfl⟩, q⟩
  cases hi with
  | non =>
    cases ru
    exact PySem.P.repr_of_none (fin s.heap _ _ fun _ _ e => e)
  | bl b =>
    cases ru
    exact PySem.P.repr_of_bool (by
      have := fin s.heap s.toks (s.toks + 1) fun _ _ e => e
      cases b <;> exact this)
  | int i =>
    obtain ⟨t, rfl⟩ := ru
    exact PySem.P.repr_of_int (by simpa [PyData.showable] using h1) (fin s.heap _ _ fun _ _ e => e)
  | str x =>
    obtain ⟨t, rfl⟩ := ru
    exact PySem.P.repr_of_str (by
      have := fin s.heap s.toks (s.toks + 1) fun _ _ e => e
      simpa only [PyData.shown] using this) (by simpa only [PyData.shown] using h3)
  | lst _ _ =>
    cases ru
    exact repr_of_reads' rd h1 (fun _ => nsys) hg (by omega) (fun _ _ e => e) (fun h' t tk' keep => fin h' t tk' keep) h3
  | tup _ _ =>
    cases ru
    exact repr_of_reads' rd h1 (fun _ => nsys) hg (by omega) (fun _ _ e => e) (fun h' t tk' keep => fin h' t tk' keep) h3
  | kdt _ _ =>
    rw [PyData.showable, PyData.showableKv, kmark_show] at h1
    simp at h1
  | dct _ _ =>
    cases ru
    exact repr_of_reads' rd h1 (fun _ => nsys) hg (by omega) (fun _ _ e => e) (fun h' t tk' keep => fin h' t tk' keep) h3
theorem IsH.full {K : PySem.W.Frag} {G H : Hp} (s : Sub G H) {v : V} {d : PyData} : IsH K G H v d → Is K H v d
  | .non => .non
  | .bl b => .bl b
  | .int i => .int i
  | .str x => .str x
  | .lst sa ha => .lst sa (ha.mono s)
  | .tup sa ha => .tup (Sub.seqT s sa) (ha.mono s)
  | .dct sa ha => .dct sa (ha.mono s)
  | .kdt sa ha => .kdt sa (ha.mono s)
section
variable {R : Res} {K : PySem.W.Frag}
theorem lk_shown : Lk1 R K (rShown K) shownD :=
  ⟨fun B G ρ σ H v x Q r hx h => ⟨x, hx.full r.sub, h.1, h.2.1, h.2.2.1, aft h.2.2.2 r (.str _)⟩, fun x q q' hq h => ⟨h.1, h.2.1, h.2.2.1, hq _ h.2.2.2⟩⟩
end
/-! ## calls of built-ins -/
section
variable {R : Res} {X : Cx} {id T : String} {x : Str} {p pos : Pos} {e e2 : Expr} {a b : Od}
theorem se_b1 {r : List V → Hp → VK → Prop} {f : D1} (hc : CallR X (.builtin id) r) (L : Lk1 R X.K (fun v H Q => r [v] H Q) f) (hg : Gl X x) (hm : X.mg x = none) (hv : bootBuiltins x = some (.builtin id)) (ha : SO R X e a) (hn : x ≠ "__name__" := by decide) (hdb : (x == ("__debug__" : Str)) = false := by decide)
    (he : starEach [e] X.env = (false, eval e X.env) :: starEach [] X.env := by rfl) (hpl : (backTo pos (starEach [] X.env)).any (·.1) = false := by rfl) : SE R X (.Call (.Name x p) [e] [] pos) (wOp1 f a) :=
  ⟨fun B => PE.imp (pe_callB hc hg hm hv (pa_cons (ha.pe B) pa_nil he) hn hdb he hpl) fun σ H Q h => op1 L ha.mono h, mono_op1 L.mono ha.mono⟩
theorem se_t1 {r : List V → Hp → VK → Prop} {f : D1} (hc : CallR X (.type T) r) (L : Lk1 R X.K (fun v H Q => r [v] H Q) f) (hg : Gl X x) (hm : X.mg x = none) (hv : bootBuiltins x = some (.type T)) (ha : SO R X e a) (hn : x ≠ "__name__" := by decide) (hdb : (x == ("__debug__" : Str)) = false := by decide)
    (he : starEach [e] X.env = (false, eval e X.env) :: starEach [] X.env := by rfl) (hpl : (backTo pos (starEach [] X.env)).any (·.1) = false := by rfl) : SE R X (.Call (.Name x p) [e] [] pos) (wOp1 f a) :=
  ⟨fun B => PE.imp (pe_callTy hc hg hm hv (pa_cons (ha.pe B) pa_nil he) hn hdb he hpl) fun σ H Q h => op1 L ha.mono h, mono_op1 L.mono ha.mono⟩
theorem se_b2 {r : List V → Hp → VK → Prop} {f : D2} (hc : CallR X (.builtin id) r) (L : Lk2 R X.K (fun v u H Q => r [v, u] H Q) f) (hg : Gl X x) (hm : X.mg x = none) (hv : bootBuiltins x = some (.builtin id)) (ha : SO R X e a) (hb : SO R X e2 b) (hn : x ≠ "__name__" := by decide) (hdb : (x == ("__debug__" : Str)) = false := by decide)
    (he : starEach [e, e2] X.env = (false, eval e X.env) :: starEach [e2] X.env := by rfl) (he2 : starEach [e2] X.env = (false, eval e2 X.env) :: starEach [] X.env := by rfl) (hpl : (backTo pos (starEach [e2] X.env)).any (·.1) = false := by rfl) : SE R X (.Call (.Name x p) [e, e2] [] pos) (wOp2 f a b) :=
  ⟨fun B => PE.imp (pe_callB hc hg hm hv (pa_cons (ha.pe B) (pa_cons (hb.pe B) pa_nil he2) he) hn hdb he hpl) fun σ H Q h => op2 L ha.mono hb.mono h, mono_op2 L.mono ha.mono hb.mono⟩
/-! ### len -/
@[simp] def lenD : D1
  | .list ds, q => q (.int ds.length)
  | .tuple ds, q => q (.int ds.length)
  | .str z, q => z.length ≤ sizeLine ∧ q (.int z.length)
  | _, _ => False
theorem lk_len {K : PySem.W.Frag} : Lk1 R K (fun v H Q => (fun xs H Q => ∃ x n, xs = [x] ∧ LenV K x H n ∧ Q (.int n) H) [v] H Q) lenD := by
  refine ⟨fun B G ρ σ H v x Q r hx h => ?_, fun x q q' hq h => ?_⟩
  · cases hx <;> first
      | exact h.elim
      | skip
    · exact ⟨_, _, rfl, ⟨h.1, rfl⟩, aft h.2 r (.int _)⟩
    · rename_i sa ha
      exact ⟨_, _, rfl, .inl ⟨_, .of sa, rfl⟩, by rw [ha.length]; exact aft h r (.int _)⟩
    · rename_i sa ha
      exact ⟨_, _, rfl, .inr ⟨_, Sub.seqT r.sub sa, rfl⟩, by rw [ha.length]; exact aft h r (.int _)⟩
  · unfold lenD at h ⊢
    split at h
    · exact hq _ h
    · exact hq _ h
    · exact ⟨h.1, hq _ h.2⟩
    · exact h.elim
/-! ### isinstance of a built-in class -/
@[simp] def tyN : PyData → String
  | .none => "NoneType"
  | .bool _ => "bool"
  | .int _ => "int"
  | .str _ => "str"
  | .list _ => "list"
  | .tuple _ => "tuple"
  | .dict _ => "dict"
@[simp] def isiD (t : String → Bool) : D1 := fun x q => q (.bool (t (tyN x)))
@[simp] def isInt (n : String) : Bool := n == "int" || n == "bool"
def TyY (K : PySem.W.Frag) (H : Hp) (x : V) (t : Value) : Prop := TyX K H x t ∨ ∃ a es ob, x = .ref a ∧ H a = some (KD a es ob) ∧ t = .type "dict"
def rIsiN (K : PySem.W.Frag) : List V → Hp → VK → Prop := fun xs H Q => ∃ (x c : V) (t u : Value) (b : Bool), xs = [x, c] ∧ ClsV c u ∧ TyY K H x t ∧ PySem.W.kitOne K t u = some b ∧ Q (.bl b) H
theorem call_isiN {X : Cx} : CallR X (.builtin "isinstance") (rIsiN X.K) := by
  intro pins s σ H xs us Q I r h
  obtain ⟨x, c, t, u, b, rfl, k, ty, e, q⟩ := h
  obtain ⟨u1, u2, rfl, r1, r2⟩ := vals2 r
  have e2 := k.eq r2
  subst e2
  rcases ty with ty | ⟨a, es, o, rfl, ha, rfl⟩
  · obtain ⟨P, Z, p, hx⟩ := kit_of I r1 ty
    exact PySem.W.kia_one Z I.kIn p e hx fun tk => ⟨.bl b, H, I.tok tk, rfl, q⟩
  · cases (show u1 = Value.ref a from r1)
    obtain ⟨⟨_, _, _, _, _, _, h1, h2, _⟩, _⟩ := (show ObjOk X.prog X.w H s.heap a (KD a es o) from I.hok a _ ha)
    exact PySem.W.kia_one PySem.W.kitx_dict I.kIn ⟨o, h1, h2.1⟩ e (fun z => nomatch z) fun tk => ⟨.bl b, H, I.tok tk, rfl, q⟩
theorem IsH.ty {K : PySem.W.Frag} {G H : Hp} (s : Sub G H) {v : V} {d : PyData} : IsH K G H v d → TyX K H v (.type (tyN d)) ∨ ∃ a es ob, v = .ref a ∧ H a = some (KD a es ob) ∧ Value.type (tyN d) = .type "dict"
  | .non => .inl (.base .non)
  | .bl b => .inl (.base (.bl b))
  | .int i => .inl (.base (.int i))
  | .str x => .inl (.base (.str x))
  | .lst sa ha => .inl (.base (.lst sa))
  | .tup sa ha => by
    rcases Sub.seqT s sa with (q | ⟨o, q⟩) | ⟨o, its, n, q1, q2, _⟩
    · exact .inl (.base (.tup q))
    · exact .inl (.fTuple q)
    · exact .inl (.kTuple q1 q2)
  | .dct sa ha => .inl (.base (.dK sa))
  | .kdt sa ha => .inr ⟨_, _, _, rfl, sa, rfl⟩
theorem lk_isi {K : PySem.W.Frag} {T : String} {t : String → Bool} (h : ∀ n ∈ ["NoneType", "bool", "int", "str", "list", "tuple", "dict"], kitB n T = some (t n)) : Lk1 R K (fun v H Q => rIsiN K [v, .ty T] H Q) (isiD t) :=
  ⟨fun B G ρ σ H v x Q r hx q => ⟨v, .ty T, _, _, _, rfl, .ty T, hx.ty r.sub, kit_ty (h (tyN x) (by cases x <;> simp [tyN])), aft q r (.bl _)⟩, fun x q q' hq h => hq _ h⟩
theorem se_isi {t : String → Bool} {y : Str} {p2 : Pos} (h : ∀ n ∈ ["NoneType", "bool", "int", "str", "list", "tuple", "dict"], kitB n T = some (t n)) (hg : Gl X "isinstance") (hm : X.mg "isinstance" = none) (hy : PE X (.Name y p2) (tC (.ty T))) (ha : SO R X e a)
    (he : starEach [e, .Name y p2] X.env = (false, eval e X.env) :: starEach [.Name y p2] X.env := by rfl) (he2 : starEach [.Name y p2] X.env = (false, eval (.Name y p2) X.env) :: starEach [] X.env := by rfl) (hpl : (backTo pos (starEach [.Name y p2] X.env)).any (·.1) = false := by rfl) :
    SE R X (.Call (.Name "isinstance" p) [e, .Name y p2] [] pos) (wOp1 (isiD t) a) :=
  ⟨fun B => PE.imp (pe_callB call_isiN hg hm (by decide +kernel) (pa_cons (ha.pe B) (pa_cons hy pa_nil he2) he) (by decide) (by decide) he hpl) fun σ H Q q => op1 (lk_isi h) ha.mono q, mono_op1 (fun x q q' hq h => hq _ h) ha.mono⟩
theorem kit_int : ∀ n ∈ ["NoneType", "bool", "int", "str", "list", "tuple", "dict"], kitB n "int" = some (isInt n) := by decide +kernel
theorem kit_bool : ∀ n ∈ ["NoneType", "bool", "int", "str", "list", "tuple", "dict"], kitB n "bool" = some (n == "bool") := by decide +kernel
theorem kit_tuple : ∀ n ∈ ["NoneType", "bool", "int", "str", "list", "tuple", "dict"], kitB n "tuple" = some (n == "tuple") := by decide +kernel
theorem kit_str : ∀ n ∈ ["NoneType", "bool", "int", "str", "list", "tuple", "dict"], kitB n "str" = some (n == "str") := by decide +kernel
theorem kit_list : ∀ n ∈ ["NoneType", "bool", "int", "str", "list", "tuple", "dict"], kitB n "list" = some (n == "list") := by decide +kernel
theorem kit_dict : ∀ n ∈ ["NoneType", "bool", "int", "str", "list", "tuple", "dict"], kitB n "dict" = some (n == "dict") := by decide +kernel
end
end DL
namespace DL
open PySem PySem.Spec PyProof.Rows L2
/-! ## t[::-1] -/
section
variable {prog : Program} {w : World} {A : Around} {E : Value → Shared → Prop} {s : Shared}
theorem adjust_rev (n : Nat) : Builtin.Slice.sliceAdjust none none (-1) (n : Int) = ((n : Int) - 1, -1) := by
  unfold Builtin.Slice.sliceAdjust
  simp
theorem places_rev (n : Nat) : Builtin.Slice.slicePlaces ((n : Int) - 1) (-1) (-1) = n := by
  unfold Builtin.Slice.slicePlaces
  simp
  split <;> omega
theorem sliceApplied_rev {sl : Addr} {t : Tok} {n : Nat} {Q : Int × Int × Nat → Shared → Prop} (hs : s.heap.IsSliceOf sl .none .none (.int (-1) t))
    (h : Q ((n : Int) - 1, -1, n) s) : wpAny (model prog w) A (Builtin.Slice.sliceApplied (.ref sl) (pure (n : Int))) Q E s := by
  obtain ⟨os, hos, hcs, hds⟩ := id hs
  unfold Builtin.Slice.sliceApplied Builtin.Slice.sliceFields
  refine wpAny_bind (wpAny_bind (wpAny_field hos hds (x := .none) rfl (wpAny_bind (wpAny_field hos hds (x := .none) rfl (wpAny_bind (wpAny_field hos hds (x := .int (-1) t) rfl (wpAny_pure ?_)))))))
  refine wpAny_bind (slicePart_int ?_)
  show wpAny _ _ (if ((-1 : Int) == 0) = true then _ else _) _ _ s
  rw [if_neg (by decide)]
  refine wpAny_bind (slicePart_none (wpAny_bind (slicePart_none (wpAny_bind (wpAny_pure ?_)))))
  show wpAny _ _ (match Builtin.Slice.sliceAdjust none none (-1) (n : Int) with | (lo, hi) => pure (lo, (-1 : Int), Builtin.Slice.slicePlaces lo hi (-1))) _ _ s
  rw [adjust_rev n]
  show wpAny _ _ (pure ((n : Int) - 1, (-1 : Int), Builtin.Slice.slicePlaces ((n : Int) - 1) (-1) (-1))) _ _ s
  rw [places_rev]
  exact wpAny_pure h
theorem fm_congr {α β : Type} {f g : α → Option β} : ∀ {l : List α}, (∀ m ∈ l, f m = g m) → l.filterMap f = l.filterMap g
  | [], _ => rfl
  | a :: l, h => by
    rw [List.filterMap_cons, List.filterMap_cons, h a List.mem_cons_self, fm_congr fun m hm => h m (List.mem_cons_of_mem _ hm)]
theorem fm_get {α : Type} (l : List α) : ∀ k, k ≤ l.length → (List.range k).filterMap (fun m => l[m]?) = l.take k := by
  intro k
  induction k with
  | zero => intro _; simp
  | succ k ih =>
    intro h
    rw [List.range_succ, List.filterMap_append, ih (by omega)]
    rw [List.filterMap_cons_some (b := l[k]) (List.getElem?_eq_getElem (by omega))]
    rw [List.filterMap_nil, List.take_add_one, List.getElem?_eq_getElem (by omega)]
    rfl
theorem pick_rev (xs : Array Value) : ((List.range xs.size).filterMap fun (m : Nat) => xs[(((xs.size : Int) - 1) + (m : Int) * -1).toNat]?).toArray = xs.toList.reverse.toArray := by
  have e : (List.range xs.size).filterMap (fun (m : Nat) => xs[(((xs.size : Int) - 1) + (m : Int) * -1).toNat]?) = (List.range xs.size).filterMap (fun m => xs.toList.reverse[m]?) := by
    refine fm_congr fun m hm => ?_
    have hm : m < xs.size := List.mem_range.mp hm
    rw [List.getElem?_reverse (by simpa using hm)]
    have : (((xs.size : Int) - 1) + (m : Int) * -1).toNat = xs.toList.length - 1 - m := by
      rw [Array.length_toList]
      omega
    rw [this, Array.getElem?_toList]
  rw [e, fm_get _ _ (by simp)]
  rw [List.take_of_length_le (by simp)]
theorem getItem_tuple_rev {t sl : Addr} {items : Array Value} {tk : Tok} {Q : Value → Shared → Prop} (ht : IsTup s.heap t items) (hs : s.heap.IsSliceOf sl .none .none (.int (-1) tk))
    (h : Q (.ref s.heap.objs.size) { s with heap := s.heap.push { cls := .type "tuple", data := .seq items.toList.reverse.toArray } })
    (hsz : items.size ≤ sizeLine) : wpAny (model prog w) A (getItem (.ref t) (.ref sl)) Q E s := by
  have htake : sizeOk (.seq items.toList.reverse.toArray) := by
    show items.toList.reverse.toArray.size ≤ sizeLine
    simpa using hsz
  obtain ⟨os, hos, hcs, hds⟩ := id hs
  have hTs : s.TypeIs (.ref sl) "slice" := ⟨os, hos, hcs⟩
  unfold getItem
  try with_reducible refine wpAny_holding ?_
  first | refine wpAny_bind (wpAny_pure ?_) | skip
  refine wpAny_bind (wpAny_sequenceKey ht.typeIs (by decide) ?_)
  refine wpAny_bind (wpAny_callSpecial?_slot (name := Str.ofString "__getitem__") ht.typeIs PyProof.Rows.slot_tuple_getitem
    (wpAny_call_entry PyProof.Rows.slot_tuple_getitem ht.typeIs entry_tuple_getitem ?_ (args_tuple_getitem _ _)))
  show wpAny _ _ (Builtin.Tuple.tupleItemsOf (.ref t) >>= _) _ _ s
  refine wpAny_bind (tupleItemsOf_ ht ?_)
  refine wpAny_bind (wpAny_typeOf hTs ?_)
  rw [if_pos (by decide)]
  refine wpAny_bind (sliceApplied_rev hs ?_)
  have hno : ¬ ((((items.size : Int) - 1) == 0 && (-1 : Int) == 1 && items.size == items.size) = true) := by
    intro q
    rw [Bool.and_eq_true, Bool.and_eq_true] at q
    exact absurd q.1.2 (by decide)
  show wpAny _ _ (if (((items.size : Int) - 1) == 0 && (-1 : Int) == 1 && items.size == items.size) = true then _ else _) _ _ s
  rw [if_neg hno, pick_rev]
  first
    | exact wpAny_bind (m := Builtin.Tuple.tupleExact _) (wpAny_newObj_type (wpAny_pure ⟨_, rfl, wpAny_pure h⟩) htake)
    | exact wpAny_bind (m := Builtin.Tuple.tupleExact _) (wpAny_newObj_type (wpAny_bind (wpAny_pure (wpAny_pure ⟨_, rfl, wpAny_pure h⟩))) htake)
    | exact wpAny_bind (wpAny_bind (m := Builtin.Tuple.tupleExact _) (wpAny_newObj_type (wpAny_pure (wpAny_pure ⟨_, rfl, wpAny_pure h⟩)) htake))
    | exact wpAny_bind (wpAny_bind (m := Builtin.Tuple.tupleExact _) (wpAny_newObj_type (wpAny_pure ⟨_, rfl, wpAny_pure h⟩) htake))
end
section
variable {X : Cx} {e st : Expr} {te : TE} {pos p2 : Pos}
/-- a[::-1] of a tuple -/
def tRevT (K : PySem.W.Frag) (te : TE) : TE := fun σ H Q => te σ H fun x H1 => ∃ a xs, x = .ref a ∧ SqT K H1 a xs ∧ ∀ p, H1 p = none → Q (.ref p) (upd H1 p (.tup xs.reverse))
theorem vals_rev {xs : List V} {us : List Value} (r : Vals xs us) : Vals xs.reverse us.reverse := by
  induction r with
  | nil => exact .nil
  | cons h t ih =>
    rw [List.reverse_cons, List.reverse_cons]
    exact Vals.append ih (.cons h .nil)
theorem pe_revT (he : PE X e te) (hs : PE X st (tC (.int (-1)))) : PE X (.Subscript e (.Slice none none (some st) p2) pos) (tRevT X.K te) := by
  refine ⟨fun pins s σ H Q I h => ?_⟩
  refine Subscript_ (thn (he.run pins s σ H _ I h) fun v s1 ⟨x, H1, I1, r1, a, xs, ex, hx, q⟩ => ?_)
  subst ex
  obtain rfl : v = Value.ref a := r1
  refine wpAny_Slice ?_
  rw [evalPart_none]
  refine wpAny_pure ?_
  refine wpAny_pure ?_
  rw [evalPart_some]
  refine thn (hs.run pins s1 σ H1 (fun y H2 => H2 = H1 ∧ y = .int (-1)) I1 ⟨rfl, rfl⟩) fun u s2 ⟨y, H2, I2, r2, e1, e2⟩ => ?_
  subst e1 e2
  obtain ⟨t, rfl⟩ := r2
  obtain ⟨its, r, ht, hz⟩ := I2.tuple hx
  have hlen : its.toArray.size = xs.length := by rw [List.size_toArray]; exact r.length.symm
  have up : ∀ b ob, s2.heap.get? b = some ob → (s2.heap.push { cls := .type "slice", data := .fields #[.none, .none, .int (-1) t] }).get? b = some ob := fun b ob q => Heap.get?_push_of_some _ q
  have I4 : Inv X pins σ H2 { s2 with heap := s2.heap.push { cls := .type "slice", data := .fields #[.none, .none, .int (-1) t] } } := I2.kept (t' := s2.toks) up
  obtain ⟨its2, r2, ht2, hz2⟩ := I4.tuple hx
  have hlen2 : its2.toArray.size = xs.length := by rw [List.size_toArray]; exact r2.length.symm
  show wpAny (model X.prog X.w) X.A (subscriptTail e (.Slice none none (some st) p2) (.ref a) (.ref s2.heap.objs.size)) (EP X pins σ Q) X.xe { s2 with heap := s2.heap.push { cls := .type "slice", data := .fields #[.none, .none, .int (-1) t] } }
  refine tail_any (ops := [.ref a, .ref s2.heap.objs.size]) ht2.typeIs PyProof.Rows.slot_tuple_getitem.lookup ?_ (by with_unfolding_all rfl)
  refine getItem_tuple_rev ht2 (Heap.IsSliceOf.new ..) ?_ (by rw [hlen2]; exact hz2)
  refine ⟨.ref _, _, I4.laid (t' := s2.toks) (o := .tup xs.reverse) (fun b ob q => Heap.get?_push_of_some _ q) (Nat.le_refl _) ?_, rfl, q _ (I4.hok.fresh (Nat.le_refl _))⟩
  exact ⟨by rw [List.length_reverse]; exact hz2, _, vals_rev r2, IsTup.new _ _⟩
end
@[simp] def wRev (a : Od) : WE := fun ρ Q => a.run ρ fun ga ρ1 => ∃ ds, ga ρ1 = some (.tuple ds) ∧ Q (.tuple ds.reverse) ρ1
theorem Iss.rev {K : PySem.W.Frag} {G : Hp} {vs : List V} {ds : List PyData} (h : Iss K G vs ds) : Iss K G vs.reverse ds.reverse := by
  induction ds generalizing vs with
  | nil => cases h; exact .nil
  | cons d ds ih =>
    cases h with
    | cons h1 h2 =>
      rw [List.reverse_cons, List.reverse_cons]
      exact (ih h2).append (.cons h1 .nil)
theorem se_rev {R : Res} {X : Cx} {e st : Expr} {a : Od} {pos p2 : Pos} (ha : SO R X e a) (hs : PE X st (tC (.int (-1)))) : SE R X (.Subscript e (.Slice none none (some st) p2) pos) (wRev a) := by
  refine ⟨fun B => PE.imp (pe_revT (ha.pe B) hs) fun σ H Q ⟨ρ, G, rl, h⟩ => ?_, fun ρ Q Q' h => ha.mono.run fun _ _ ⟨ds, e, q⟩ => ⟨ds, e, h _ _ q⟩⟩
  refine od_step ha.mono rl h fun ga ρ1 v G1 H1 s1 r1 i1 h1 => ?_
  obtain ⟨ds, e, q⟩ := h1
  have i2 := i1.at r1 e
  cases i2 with
  | tup sa ha' => exact ⟨_, _, rfl, Sub.seqT r1.sub sa, fun p np => q _ _ _ (s1.trans (upd_new (r1.sub.free np))) (r1.laid np) (isTup (H := H1) (r1.sub.free np) ha'.rev)⟩
end DL
namespace DL
open PySem PySem.Spec PyProof.Rows L2
/-! ## tuple * int, of any tuple -/
theorem tuple_mul_same (l : Addr) (items : Array Value) (n : Nat) (dd : Option Addr) (sl : Array (Option Value)) (x : Int) (u : Tok) (c0 : (decide (x < -(2 ^ 63)) || decide (x ≥ 2 ^ 63)) = false) (c1 : (items.isEmpty || x == 1) = true) :
    Meets (Builtin.«tuple.__mul__» ⟨[.ref l, .int x u], []⟩) (fun _ R s => s.heap.get? l = some { cls := .type "tuple", dict := dd, data := .seq items n, slots := sl } ∧ R (.ok (.ret (Value.ref l))) s) :=
  .of_wp fun prog w A R s h => by
    obtain ⟨hp, g, d, tk, os⟩ := s
    obtain ⟨hl, h⟩ := h
    have f1 := AutoSeq1.idx_int
    wp_walk using wpAny_loadPart' hl
    repeat (first
      | (refine wpAny_ite_false (decide_eq_false (by rw [c0]; exact Bool.false_ne_true)) ?_; wp_walk using wpAny_loadPart' hl)
      | (refine wpAny_ite_true (decide_eq_true c1) ?_; wp_walk using wpAny_loadPart' hl))
    exact ⟨_, rfl, h⟩
theorem tuple_mul_none (l : Addr) (items : Array Value) (n : Nat) (dd : Option Addr) (sl : Array (Option Value)) (x : Int) (u : Tok) (c0 : (decide (x < -(2 ^ 63)) || decide (x ≥ 2 ^ 63)) = false) (c1 : (items.isEmpty || x == 1) = false) (c2 : (decide (x ≤ 0) || items.isEmpty) = true) :
    Meets (Builtin.«tuple.__mul__» ⟨[.ref l, .int x u], []⟩) (fun _ R s => s.heap.get? l = some { cls := .type "tuple", dict := dd, data := .seq items n, slots := sl } ∧
      R (.ok (.ret (Value.ref s.heap.objs.size))) { s with heap := s.heap.push { cls := Value.type "tuple", data := Data.seq #[] } }) :=
  .of_wp fun prog w A R s h => by
    obtain ⟨hp, g, d, tk, os⟩ := s
    obtain ⟨hl, h⟩ := h
    have f1 := AutoSeq1.idx_int
    wp_walk using wpAny_loadPart' hl
    repeat (first
      | (refine wpAny_ite_false (decide_eq_false (by rw [c0]; exact Bool.false_ne_true)) ?_; wp_walk using wpAny_loadPart' hl)
      | (refine wpAny_ite_false (decide_eq_false (by rw [c1]; exact Bool.false_ne_true)) ?_; wp_walk using wpAny_loadPart' hl)
      | (refine wpAny_ite_true (decide_eq_true c2) ?_; wp_walk using wpAny_loadPart' hl))
    exact ⟨_, rfl, h⟩
def rMulT (K : PySem.W.Frag) : R2 := fun x y H Q => ∃ l k xs, x = .ref l ∧ y = .int k ∧ SqT K H l xs ∧ -(2 ^ 63) ≤ k ∧ k < 2 ^ 63 ∧ xs.length * k.toNat ≤ sizeLine ∧
  (xs = [] ∨ k = 1 → Q (.ref l) H) ∧ (xs ≠ [] → k ≠ 1 → ∀ p, H p = none → Q (.ref p) (upd H p (.tup (List.replicate k.toNat xs).flatten)))
theorem op_mulT {X : Cx} : OpR X (binaryOp .Mult) (rMulT X.K) := by
  intro pins s σ H x y v u Q I rx ry h
  obtain ⟨l, k, xs, rfl, rfl, hT, h1, h2, hz, q1, q2⟩ := h
  cases rx
  obtain ⟨t, rfl⟩ := ry
  obtain ⟨its, r, ⟨⟨cls, dd, data, sl⟩, ho, hc, n, hd⟩, hs⟩ := I.tuple hT
  simp only at hc hd
  subst hc hd
  have hle : its.length = xs.length := r.length.symm
  have nil_iff : its = [] ↔ xs = [] := by
    rw [← List.length_eq_zero_iff, ← List.length_eq_zero_iff, hle]
  have c0 : (decide (k < -(2 ^ 63)) || decide (k ≥ 2 ^ 63)) = false := by
    rw [decide_eq_false (by omega), decide_eq_false (by omega)] <;> rfl
  by_cases hsame : xs = [] ∨ k = 1
  · have c1 : (its.toArray.isEmpty || k == 1) = true := by
      rcases hsame with z | z
      · rw [nil_iff.mpr z]
        rfl
      · rw [z]
        simp
    exact wpAny_binaryOp_repeat_ref (T := "tuple") (U := "int") (by decide) ⟨_, ho, rfl⟩ (fun s' => typeIs_int s' k t) noFill_tuple_mul F.fills_int_mul F.slot_int_rmul repeat_tuple F.slot_int_index.lookup
      (call_meets F.slot_int_rmul (typeIs_int s k t) F.entry_int_rmul (F.args_int_rmul_2 _ _) (int_rmul_tuple k t l its.toArray n dd sl)
        ⟨ho, rfl, ⟨_, ho, rfl⟩, call_meets F.slot_tuple_mul ⟨_, ho, rfl⟩ F.entry_tuple_mul (F.args_tuple_mul_2 _ _) (tuple_mul_same l its.toArray n dd sl k t c0 c1) ⟨ho, ⟨.ref l, H, I, rfl, q1 hsame⟩⟩⟩)
  · have hne : xs ≠ [] := fun z => hsame (.inl z)
    have hk1 : k ≠ 1 := fun z => hsame (.inr z)
    have hn : its ≠ [] := fun z => hne (nil_iff.mp z)
    have hi : its.toArray.isEmpty = false := by
      cases its with
      | nil => exact absurd rfl hn
      | cons a b => rfl
    have c1 : (its.toArray.isEmpty || k == 1) = false := by
      rw [hi, Bool.false_or]
      exact beq_eq_false_iff_ne.mpr hk1
    have flen : (List.replicate k.toNat its).flatten.length ≤ sizeLine := by
      rw [PyProof.Rows.lm_len_rep_flat, hle, Nat.mul_comm]
      exact hz
    have flen2 : (List.replicate k.toNat xs).flatten.length ≤ sizeLine := by
      rw [PyProof.Rows.lm_len_rep_flat, Nat.mul_comm]
      exact hz
    by_cases hk0 : k ≤ 0
    · have c2 : (decide (k ≤ 0) || its.toArray.isEmpty) = true := by
        rw [decide_eq_true hk0, Bool.true_or]
      have z : k.toNat = 0 := by omega
      refine wpAny_binaryOp_repeat_ref (T := "tuple") (U := "int") (by decide) ⟨_, ho, rfl⟩ (fun s' => typeIs_int s' k t) noFill_tuple_mul F.fills_int_mul F.slot_int_rmul repeat_tuple F.slot_int_index.lookup
        (call_meets F.slot_int_rmul (typeIs_int s k t) F.entry_int_rmul (F.args_int_rmul_2 _ _) (int_rmul_tuple k t l its.toArray n dd sl)
          ⟨ho, rfl, ⟨_, ho, rfl⟩, call_meets F.slot_tuple_mul ⟨_, ho, rfl⟩ F.entry_tuple_mul (F.args_tuple_mul_2 _ _) (tuple_mul_none l its.toArray n dd sl k t c0 c1 c2) ⟨ho, ?_⟩⟩)
      have q := q2 hne hk1
      rw [z] at q
      refine ⟨.ref s.heap.objs.size, _, I.laid (t' := s.toks) (o := .tup (List.replicate 0 xs).flatten) (fun b ob q => Heap.get?_push_of_some _ q) (Nat.le_refl _) ?_, rfl, q _ (I.hok.fresh (Nat.le_refl _))⟩
      exact ⟨Nat.zero_le _, [], .nil, IsTup.new _ _⟩
    · have hm : ((its.toArray.size : Nat) : Int) * k ≤ sizeLine := by
        rw [List.size_toArray, hle]
        have e : k = (k.toNat : Int) := by omega
        rw [e]
        exact_mod_cast hz
      have c2 : (decide (k ≤ 0) || its.toArray.isEmpty) = false := by
        rw [hi, Bool.or_false]
        exact decide_eq_false hk0
      have c4 : Builtin.Tuple.tupleTooMany (((its.toArray.size : Nat) : Int) * k) = false := by
        unfold Builtin.Tuple.tupleTooMany
        exact decide_eq_false (by omega)
      have c3 : ¬ ((its.toArray.size : Nat) : Int) * k > (2 ^ 63 - 1) / 8 := by
        rw [sizeLine_eq] at hm
        omega
      refine wpAny_binaryOp_repeat_ref (T := "tuple") (U := "int") (by decide) ⟨_, ho, rfl⟩ (fun s' => typeIs_int s' k t) noFill_tuple_mul F.fills_int_mul F.slot_int_rmul repeat_tuple F.slot_int_index.lookup
        (call_meets F.slot_int_rmul (typeIs_int s k t) F.entry_int_rmul (F.args_int_rmul_2 _ _) (int_rmul_tuple k t l its.toArray n dd sl)
          ⟨ho, rfl, ⟨_, ho, rfl⟩, call_meets F.slot_tuple_mul ⟨_, ho, rfl⟩ F.entry_tuple_mul (F.args_tuple_mul_2 _ _) (tuple_mulW l its.toArray n dd sl k t c0 c1 c2 c3 c4 (by rw [size_rep, List.size_toArray]; exact flen)) ⟨ho, ?_⟩⟩)
      rw [size_rep]
      refine ⟨.ref s.heap.objs.size, _, I.laid (t' := s.toks) (o := .tup (List.replicate k.toNat xs).flatten) (fun b ob q => Heap.get?_push_of_some _ q) (Nat.le_refl _) ?_, rfl, q2 hne hk1 _ (I.hok.fresh (Nat.le_refl _))⟩
      exact ⟨flen2, _, r.rep k.toNat, IsTup.new _ _⟩
/-! ### sequences times a number, numbers times a number -/
def repD (ds : List PyData) (k : Int) : List PyData := (List.replicate k.toNat ds).flatten
def Fit63 (k : Int) : Prop := -(2 ^ 63) ≤ k ∧ k < 2 ^ 63
@[simp] def mulsD : D2
  | .tuple ds, .int k, q => Fit63 k ∧ ds.length * k.toNat ≤ sizeLine ∧ q (.tuple (repD ds k))
  | .list ds, .int k, q => Fit63 k ∧ ds.length * k.toNat ≤ sizeLine ∧ q (.list (repD ds k))
  | _, _, _ => False
def rMulsD (K : PySem.W.Frag) : R2 := fun x y H Q => rMulT K x y H Q ∨ rRep x y H Q
theorem op_muls {X : Cx} : OpR X (binaryOp .Mult) (rMulsD X.K) := op_mulT.or op_rep
theorem Iss.rep {K : PySem.W.Frag} {G : Hp} {vs : List V} {ds : List PyData} (h : Iss K G vs ds) : ∀ n : Nat, Iss K G (List.replicate n vs).flatten (List.replicate n ds).flatten
  | 0 => .nil
  | n + 1 => by
    rw [List.replicate_succ, List.replicate_succ, List.flatten_cons, List.flatten_cons]
    exact h.append (h.rep n)
theorem lk_muls {R : Res} {K : PySem.W.Frag} : Lk2 R K (rMulsD K) mulsD := by
  refine ⟨fun B G ρ σ H v u x y Q r hx hy h => ?_, fun x y q q' hq h => ?_⟩
  · cases hx <;> cases hy <;> first
      | exact h.elim
      | skip
    · rename_i a vs ds sa ha k
      exact .inr ⟨a, k, vs, rfl, rfl, sa, h.1.1, h.1.2, by rw [ha.length]; exact h.2.1, fun p np => aftN h.2.2 r np (isLst (H := H) (r.sub.free np) (ha.rep _))⟩
    · rename_i a vs ds sa ha k
      refine .inl ⟨a, k, vs, rfl, rfl, Sub.seqT r.sub sa, h.1.1, h.1.2, by rw [ha.length]; exact h.2.1, fun e => ?_, fun _ _ p np => aftN h.2.2 r np (isTup (H := H) (r.sub.free np) (ha.rep _))⟩
      have z : repD ds k = ds := by
        unfold repD
        rcases e with e | e
        · have := ha.nil_iff.mp e
          subst this
          simp
        · subst e
          simp
      have q := h.2.2
      rw [z] at q
      exact aft q r (.tup sa ha)
  · unfold mulsD at h ⊢
    split at h
    · exact ⟨h.1, h.2.1, hq _ h.2.2⟩
    · exact ⟨h.1, h.2.1, hq _ h.2.2⟩
    · exact h.elim
end DL
namespace DL
open PySem PySem.Spec PyProof.Rows L2
/-! ## enumerate of a tuple, of a text -/
set_option maxHeartbeats 1000000 in
theorem meets_enumerate_new1 {v : Value} {o : Obj} {H : Heap → Prop} (B : Begins v o H) :
    Meets (Builtin.«enumerate.__new__» ⟨[.type "enumerate", v], []⟩) (fun _ R s => H s.heap ∧
      R (.ok (.ret (.ref (s.heap.push o).objs.size))) { s with heap := (s.heap.push o).push { cls := .type "enumerate", data := .fields #[.none, .bool false, .ref s.heap.objs.size, rawInt 0, .none, .none] } }) :=
  .of_wp fun prog w A R s h => by
    obtain ⟨hp, g, d, tk, os⟩ := s
    obtain ⟨h1, h⟩ := h
    have hsub := sub_enumerate
    have q1 : ∀ {A' : Around} {E : Value → Shared → Prop} {Q : Value → Shared → Prop}, Q (.ref hp.objs.size) ⟨hp.push o, g, d, tk, os⟩ → wpAny (model prog w) A' (pyIter v) Q E ⟨hp, g, d, tk, os⟩ :=
      fun q => B.iter prog w _ _ ⟨hp, g, d, tk, os⟩ _ h1 q
    wp_walk using q1
    refine wpAny_stack_any fun st => wpAny_pure ?_
    split
    · rename_i c _ _ _ _ _
      cases (c == Value.type "enumerate")
      · wp_walk using q1
        exact ⟨_, rfl, h⟩
      · wp_walk using q1
        exact ⟨_, rfl, h⟩
    · wp_walk using q1
      exact ⟨_, rfl, h⟩
theorem enum_begins1 {prog : Program} {w : World} {A : Around} {E : Value → Shared → Prop} {s : Shared} {v : Value} {o : Obj} {H : Heap → Prop} {Q : Value → Shared → Prop} (B : Begins v o H) (h1 : H s.heap)
    (h : ∀ h', IsEnum h' (s.heap.objs.size + 1) s.heap.objs.size 0 .none → h'.get? s.heap.objs.size = some o → h'.objs.size = s.heap.objs.size + 2 →
      (∀ b o, s.heap.get? b = some o → h'.get? b = some o) → Q (.ref (s.heap.objs.size + 1)) { s with heap := h' }) :
    wpAny (model prog w) A (call (.type "enumerate") [v]) Q E s := by
  refine callType_new F.called_enumerate (by decide) (F.typeCall_enumerate_1 _) (F.newCall_enumerate_1 _) (fun obj => F.args_object_init_2 obj _) F.entry_enumerate_new
    (meets_enumerate_new1 B) ⟨h1, ?_⟩
  have hz : (s.heap.push o).objs.size = s.heap.objs.size + 1 := Heap.size_push ..
  show _ ∧ _
  rw [hz]
  have he : IsEnum ((s.heap.push o).push { cls := .type "enumerate", data := .fields #[.none, .bool false, .ref s.heap.objs.size, rawInt 0, .none, .none] }) (s.heap.objs.size + 1) s.heap.objs.size 0 .none := by
    have := Heap.get?_push_size (s.heap.push o) (o := { cls := .type "enumerate", data := .fields #[.none, .bool false, .ref s.heap.objs.size, rawInt 0, .none, .none] }) rfl
    rw [hz] at this; exact this
  refine ⟨⟨_, he, rfl⟩, h _ he (Heap.get?_push_of_some _ (Heap.get?_push_size _ B.free)) (by rw [Heap.size_push, hz]) fun b o x => Heap.get?_push_of_some _ (Heap.get?_push_of_some _ x)⟩
/-- the tuple at a, each item in a new pair -/
def Itet (K : PySem.W.Frag) (a : Addr) (n : Nat) : It :=
  ⟨fun i H => i < n ∧ ∃ xs : List V, SqT K H a xs ∧ xs.length = n, fun i H v H' => ∃ T x, v = .ref T ∧ H T = none ∧ H' = upd H T (.tup [.int (i : Nat), x]) ∧ ∀ xs, SqT K H a xs → xs[i]? = some x, fun i H => n ≤ i ∧ ∃ xs : List V, SqT K H a xs ∧ xs.length = n⟩
theorem turn_enumT {P : Program} {w : World} {K : PySem.W.Frag} {elts : List Expr} {kk : Nat} {tpos : Pos} (a e it : Addr) (n : Nat) :
    Turn P w K (.Tuple elts kk tpos) (Itet K a n) [e, it] e (fun i h => (∃ old, IsEnum h e it ((i : Nat) : Int) old) ∧ h.IsTupleIter it a i ∧ e ≠ it ∧ i ≤ n) where
  mem := by simp
  obj := fun i h st b hb => by
    obtain ⟨⟨old, he⟩, ⟨o, ho, hc, hd⟩, _⟩ := st
    have e' : b = e ∨ b = it := by simpa using hb
    rcases e' with z | z
    · rw [z]; exact ⟨_, he, fun v q => nomatch q⟩
    · rw [z]; exact ⟨o, ho, fun v q => by rw [hd] at q; cases q⟩
  keep := fun i h h' st k => let ⟨⟨old, he⟩, hi, hne, hle⟩ := st; ⟨⟨old, k e (by simp) _ he⟩, hi.at fun o q => k it (by simp) o q, hne, hle⟩
  item := by
    intro X hP hw hK hc i pins s σ H E I hf st hg
    subst hP hw hK
    obtain ⟨⟨old, he⟩, hit, hne, hle⟩ := st
    obtain ⟨hlt, xs, hq, hx⟩ := hg
    obtain ⟨its, rv, p, hz⟩ := I.tuple hq
    have hlen : its.length = n := by rw [← rv.length]; exact hx
    have p' : s.heap.IsTuple a its.toArray := p
    have hae : a ≠ e := fun z => by
      subst z
      obtain ⟨o, ho, hcl, _⟩ := p'
      have := he.symm.trans ho
      cases this
      injection (show Value.type "enumerate" = Value.type "tuple" from hcl) with z
      exact absurd z (by decide)
    have hai : a ≠ it := fun z => by
      subst z
      obtain ⟨o, ho, hcl, _⟩ := p'
      obtain ⟨o', ho', hcl', _⟩ := hit
      rw [ho] at ho'
      cases ho'
      rw [hcl] at hcl'
      injection hcl' with z
      exact absurd z (by decide)
    have hel : e < s.heap.objs.size := Heap.lt_size he
    have hil : it < s.heap.objs.size := by obtain ⟨_, q, _⟩ := hit; exact Heap.lt_size q
    have D := Draws.tuple (prog := X.prog) (w := X.w) (A := X.A.in1) (I.ok.hd hc) it a hai its.toArray
    refine wpAny_pyNext_enum_itemC D he ⟨hit, p'⟩ (by rw [List.size_toArray, hlen]; exact hlt) hne (by simp [hne, Ne.symm hae]) fun u h' tk hu ho hst hT hsz hk => ?_
    obtain ⟨x, hxi, ru⟩ : ∃ x, xs[i]? = some x ∧ RelV x u := by
      have hix : i < xs.length := by rw [hx]; exact hlt
      obtain ⟨u', hu', r'⟩ := rv.get (List.getElem?_eq_getElem hix)
      have hu2 : its[i]? = some u := by simpa using hu
      rw [hu2] at hu'
      cases hu'
      exact ⟨_, List.getElem?_eq_getElem hix, r'⟩
    refine ⟨_, rfl, wpAny_letOwnedTupleGo_enum (s := { s with heap := h', toks := tk + 1 }) ho fun h'' he' sb => ?_⟩
    have hT2 : h''.get? s.heap.objs.size = some { cls := .type "tuple", data := .seq #[.int i tk, u] } := (sb.2 _ (Nat.ne_of_gt hel)).trans hT
    have new : ObjOk X.prog X.w (upd H s.heap.objs.size (.tup [.int (i : Nat), x])) h'' s.heap.objs.size (.tup [.int (i : Nat), x]) :=
      ⟨by show 2 ≤ sizeLine; decide, [.int i tk, u], .cons ⟨_, rfl⟩ (.cons ru .nil), ⟨_, hT2, rfl, _, rfl⟩⟩
    have I1 : L2.Inv X pins σ (upd H s.heap.objs.size (.tup [.int (i : Nat), x])) { s with heap := h'', toks := tk + 1 } :=
      I.turnedNew (ch := [e, it]) (fun b ob hb q => (sb.2 b (fun z => hb (by simp [z]))).trans (hk b ob (fun z => hb (by simp [z])) (fun z => hb (by simp [z])) q)) hf (Nat.le_refl _) new
    refine ⟨.ref s.heap.objs.size, _, I1, rfl, ⟨_, x, rfl, I.hok.fresh (Nat.le_refl _), rfl, fun ys hy => by rw [I.tuple_inj hy hq]; exact hxi⟩, ⟨⟨u, ?_⟩, hst.1.at fun o q => (sb.2 it (Ne.symm hne)).trans q, hne, hlt⟩, fun b hb => ?_⟩
    · have e1 : ((i + 1 : Nat) : Int) = (i : Int) + 1 := by omega
      rw [e1]; exact he'
    · have hb' : b < s.heap.objs.size := by
        have e' : b = e ∨ b = it := by simpa using hb
        rcases e' with z | z
        · rw [z]; exact hel
        · rw [z]; exact hil
      rw [upd_ne (Nat.ne_of_lt hb')]
      exact (hf b hb).1
  done := by
    intro X hP hw hK hc i pins s σ H E I hf st hg
    subst hP hw hK
    obtain ⟨⟨old, he⟩, hit, hne, hle⟩ := st
    obtain ⟨hlt, xs, hq, hx⟩ := hg
    obtain ⟨its, rv, p, hz⟩ := I.tuple hq
    have hlen : its.length = n := by rw [← rv.length]; exact hx
    have ein : i = its.toArray.size := by rw [List.size_toArray, hlen]; omega
    subst ein
    have p' : s.heap.IsTuple a its.toArray := p
    have hai : a ≠ it := fun z => by
      subst z
      obtain ⟨o, ho, hcl, _⟩ := p'
      obtain ⟨o', ho', hcl', _⟩ := hit
      rw [ho] at ho'
      cases ho'
      rw [hcl] at hcl'
      injection hcl' with z
      exact absurd z (by decide)
    obtain ⟨f0, f1, f2, f3, f4, f5⟩ := hf it (by simp)
    have D := Draws.tuple (prog := X.prog) (w := X.w) (A := X.A.in1) (I.ok.hd hc) it a hai its.toArray
    exact wpAny_pyNext_enum_endD D he ⟨hit, p'⟩ fun h' eb => ⟨rfl, I.turned (t' := s.toks) (fun b o hb q => eb b o hb q) f0 f1 f3 f4 f5⟩
  self := fun A i s Q E st h => let ⟨⟨_, he⟩, _⟩ := st; wpAny_pyIter_enum he h
/-- a text, each sign in a new pair -/
def Ites (z : Str) : It :=
  ⟨fun i H => i < z.cps.size, fun i H v H' => ∃ T c, v = .ref T ∧ H T = none ∧ H' = upd H T (.tup [.int (i : Nat), .str ⟨#[c]⟩]) ∧ z.cps[i]? = some c, fun i H => z.cps.size ≤ i⟩
theorem turn_enumS {P : Program} {w : World} {K : PySem.W.Frag} {elts : List Expr} {kk : Nat} {tpos : Pos} (z : Str) (t : Tok) (e it : Addr) :
    Turn P w K (.Tuple elts kk tpos) (Ites z) [e, it] e (fun i h => (∃ old, IsEnum h e it ((i : Nat) : Int) old) ∧ h.IsStrIter it (strIterType z) z t i ∧ e ≠ it ∧ i ≤ z.cps.size) where
  mem := by simp
  obj := fun i h st b hb => by
    obtain ⟨⟨old, he⟩, ⟨o, ho, hc, hd⟩, _⟩ := st
    have e' : b = e ∨ b = it := by simpa using hb
    rcases e' with z | z
    · rw [z]; exact ⟨_, he, fun v q => nomatch q⟩
    · rw [z]; exact ⟨o, ho, fun v q => by rw [hd] at q; cases q⟩
  keep := fun i h h' st k => let ⟨⟨old, he⟩, hi, hne, hle⟩ := st; ⟨⟨old, k e (by simp) _ he⟩, (let ⟨o, ho, r⟩ := hi; ⟨o, k it (by simp) o ho, r⟩), hne, hle⟩
  item := by
    intro X hP hw hK hc i pins s σ H E I hf st hg
    subst hP hw hK
    obtain ⟨⟨old, he⟩, hit, hne, hle⟩ := st
    have hlt : i < z.cps.size := hg
    have hel : e < s.heap.objs.size := Heap.lt_size he
    have hil : it < s.heap.objs.size := by obtain ⟨_, q, _⟩ := hit; exact Heap.lt_size q
    have D := Draws.text (prog := X.prog) (w := X.w) (A := X.A.in1) (I.ok.hd hc) it z t
    refine wpAny_pyNext_enum_itemC D he hit hlt hne (by simp [hne]) fun u h' tk hu ho hst hT hsz hk => ?_
    obtain ⟨c, t2, hc2, rfl⟩ := hu
    have ru : RelV (.str ⟨#[c]⟩) (.str ⟨#[c]⟩ t2) := ⟨_, rfl⟩
    refine ⟨_, rfl, wpAny_letOwnedTupleGo_enum (s := { s with heap := h', toks := tk + 1 }) ho fun h'' he' sb => ?_⟩
    have hT2 : h''.get? s.heap.objs.size = some { cls := .type "tuple", data := .seq #[.int i tk, .str ⟨#[c]⟩ t2] } := (sb.2 _ (Nat.ne_of_gt hel)).trans hT
    have new : ObjOk X.prog X.w (upd H s.heap.objs.size (.tup [.int (i : Nat), .str ⟨#[c]⟩])) h'' s.heap.objs.size (.tup [.int (i : Nat), .str ⟨#[c]⟩]) :=
      ⟨by show 2 ≤ sizeLine; decide, [.int i tk, .str ⟨#[c]⟩ t2], .cons ⟨_, rfl⟩ (.cons ru .nil), ⟨_, hT2, rfl, _, rfl⟩⟩
    have I1 : L2.Inv X pins σ (upd H s.heap.objs.size (.tup [.int (i : Nat), .str ⟨#[c]⟩])) { s with heap := h'', toks := tk + 1 } :=
      I.turnedNew (ch := [e, it]) (fun b ob hb q => (sb.2 b (fun z => hb (by simp [z]))).trans (hk b ob (fun z => hb (by simp [z])) (fun z => hb (by simp [z])) q)) hf (Nat.le_refl _) new
    refine ⟨.ref s.heap.objs.size, _, I1, rfl, ⟨_, c, rfl, I.hok.fresh (Nat.le_refl _), rfl, hc2⟩, ⟨⟨.str ⟨#[c]⟩ t2, ?_⟩, ?_, hne, hlt⟩, fun b hb => ?_⟩
    · have e1 : ((i + 1 : Nat) : Int) = (i : Int) + 1 := by omega
      rw [e1]; exact he'
    · obtain ⟨o, ho', r⟩ := hst
      exact ⟨o, (sb.2 it (Ne.symm hne)).trans ho', r⟩
    · have hb' : b < s.heap.objs.size := by
        have e' : b = e ∨ b = it := by simpa using hb
        rcases e' with z | z
        · rw [z]; exact hel
        · rw [z]; exact hil
      rw [upd_ne (Nat.ne_of_lt hb')]
      exact (hf b hb).1
  done := by
    intro X hP hw hK hc i pins s σ H E I hf st hg
    subst hP hw hK
    obtain ⟨⟨old, he⟩, hit, hne, hle⟩ := st
    have hge : z.cps.size ≤ i := hg
    have ein : i = z.cps.size := Nat.le_antisymm hle hge
    subst ein
    obtain ⟨f0, f1, f2, f3, f4, f5⟩ := hf it (by simp)
    have D := Draws.text (prog := X.prog) (w := X.w) (A := X.A.in1) (I.ok.hd hc) it z t
    exact wpAny_pyNext_enum_endD D he hit fun h' eb => ⟨rfl, I.turned (t' := s.toks) (fun b o hb q => eb b o hb q) f0 f1 f3 f4 f5⟩
  self := fun A i s Q E st h => let ⟨⟨_, he⟩, _⟩ := st; wpAny_pyIter_enum he h
end DL
namespace DL
open PySem PySem.Spec PyProof.Rows L2
def enumD : Int → List PyData → List PyData
  | _, [] => []
  | k, x :: r => .tuple [.int k, x] :: enumD (k + 1) r
theorem enumD_length : ∀ (k : Int) (xs : List PyData), (enumD k xs).length = xs.length
  | _, [] => rfl
  | k, x :: r => congrArg (· + 1) (enumD_length (k + 1) r)
theorem enumD_get : ∀ {k : Int} {xs : List PyData} {i : Nat} {d : PyData}, (enumD k xs)[i]? = some d → ∃ x, xs[i]? = some x ∧ d = .tuple [.int (k + (i : Nat)), x]
  | k, [], i, d, h => by simp [enumD] at h
  | k, x :: r, 0, d, h => by
    simp [enumD] at h
    exact ⟨x, rfl, by rw [← h]; simp⟩
  | k, x :: r, i + 1, d, h => by
    obtain ⟨y, h1, h2⟩ := enumD_get (k := k + 1) (xs := r) (i := i) (by simpa [enumD] using h)
    refine ⟨y, by simpa using h1, ?_⟩
    rw [h2]
    have : k + 1 + (i : Int) = k + ((i + 1 : Nat) : Int) := by omega
    rw [this]
section
variable {K : PySem.W.Frag} {G : Hp}
theorem itd_enumL {a : Addr} {vs : List V} {ds : List PyData} (s : G a = some (.lst vs)) (h : Iss K G vs ds) : ItD K G (Ite K a) (enumD 0 ds) :=
  ⟨fun i H hi q => by
      rw [enumD_length] at hi
      obtain ⟨v, e, _⟩ := h.get (List.getElem?_eq_getElem hi)
      exact ⟨vs, v, .of (q _ _ s), e⟩,
    fun H q => ⟨vs, .of (q _ _ s), by rw [enumD_length]; exact Nat.le_of_eq h.length⟩,
    fun i H v H' x e q y => by
      obtain ⟨d, e1, rfl⟩ := enumD_get e
      obtain ⟨u, e2, i2⟩ := h.get e1
      obtain ⟨T, x, rfl, hT, rfl, hx⟩ := y
      have e3 := hx vs (.of (q _ _ s))
      rw [e2] at e3
      cases e3
      exact .inr ⟨T, _, [.int (0 + (i : Nat)), d], hT, rfl, rfl, .cons (by rw [Int.zero_add]; exact .int _) (.cons i2 .nil), rfl⟩⟩
theorem itd_enumT {a : Addr} {vs : List V} {ds : List PyData} (s : SqT K G a vs) (h : Iss K G vs ds) : ItD K G (Itet K a ds.length) (enumD 0 ds) :=
  ⟨fun i H hi q => by
      rw [enumD_length] at hi
      exact ⟨hi, vs, Sub.seqT q s, h.length⟩,
    fun H q => ⟨by rw [enumD_length]; exact Nat.le_refl _, vs, Sub.seqT q s, h.length⟩,
    fun i H v H' x e q y => by
      obtain ⟨d, e1, rfl⟩ := enumD_get e
      obtain ⟨u, e2, i2⟩ := h.get e1
      obtain ⟨T, x, rfl, hT, rfl, hx⟩ := y
      have e3 := hx vs (Sub.seqT q s)
      rw [e2] at e3
      cases e3
      exact .inr ⟨T, _, [.int (0 + (i : Nat)), d], hT, rfl, rfl, .cons (by rw [Int.zero_add]; exact .int _) (.cons i2 .nil), rfl⟩⟩
theorem itd_enumS {z : Str} : ItD K G (Ites z) (enumD 0 (signs z)) :=
  ⟨fun i H hi q => by rw [enumD_length, signs_length] at hi; exact hi,
    fun H q => by rw [enumD_length, signs_length]; exact Nat.le_refl _,
    fun i H v H' x e q y => by
      obtain ⟨d, e1, rfl⟩ := enumD_get e
      obtain ⟨c, e2, rfl⟩ := signs_get e1
      obtain ⟨T, c', rfl, hT, rfl, hx⟩ := y
      rw [e2] at hx
      cases hx
      exact .inr ⟨T, _, [.int (0 + (i : Nat)), .str ⟨#[c]⟩], hT, rfl, rfl, .cons (by rw [Int.zero_add]; exact .int _) (.cons (.str _) .nil), rfl⟩⟩
end
@[simp] def wEnum (w : WE) : WI := fun ρ Q => w ρ fun d ρ' => ∃ xs, seqD d = some xs ∧ Q (enumD 0 xs) ρ'
theorem si_enum {R : Res} {X : Cx} {e : Expr} {w : WE} {p pos tpos : Pos} {elts : List Expr} {kk : Nat} (hg : Gl X "enumerate") (hm : X.mg "enumerate" = none) (he : SE R X e w) (hs : starEach [e] X.env = [(false, eval e X.env)] := by rfl) :
    SI R X (.Tuple elts kk tpos) (.Call (.Name "enumerate" p) [e] [] pos) (wEnum w) := by
  have ha : SEs R X [e] [w] := ses_cons he ses_nil (by rw [hs]; rfl)
  refine ⟨fun B => ⟨fun pins s σ H q I ⟨ρ, G, r, h⟩ => ?_⟩, fun ρ Q Q' hq => he.mono ρ _ _ fun d ρ' ⟨xs, e, q⟩ => ⟨xs, e, hq _ _ q⟩⟩
  have h' : liftEs R X.K B [w] σ H fun vs H1 => ∃ d xs ρ' G', Rel R X.K B G' ρ' σ H1 ∧ Iss X.K G' vs [d] ∧ seqD d = some xs ∧ ∀ J, ItD X.K G' J (enumD 0 xs) → q J H1 :=
    ⟨ρ, G, r, he.mono ρ _ _ (fun d ρ' ⟨xs, e, k⟩ v G' H' s r' i => ⟨d, xs, ρ', G', r', i, e, fun J j => k J G' H' s r' j⟩) h⟩
  refine Call_ (ld_blt I hg hm boot_enumerate (PyProof.Rows.callWith_type1 (thn ((ha.pa B).run pos pins s σ H _ I h') fun us s1 ⟨vs, H1, I1, r1, d, xs, ρ', G', rl, i, e, k⟩ => ?_) hs rfl))
  have fresh : ∀ {h' : Heap} (I2 : L2.Inv X pins σ H1 { s1 with heap := h' }), ∀ b ∈ [s1.heap.objs.size + 1, s1.heap.objs.size], FpOk X pins H1 b := fun I2 b hb => by
    have e' : b = s1.heap.objs.size + 1 ∨ b = s1.heap.objs.size := by simpa using hb
    have hle : s1.heap.objs.size ≤ b := by
      rcases e' with z | z
      · rw [z]; exact Nat.le_add_right _ _
      · rw [z]; exact Nat.le_refl _
    exact I1.fpOk hle (I1.hok.fresh hle)
  cases i with
  | cons i1 i2 =>
    cases i2
    cases r1 with
    | cons r rr =>
      cases rr
      cases i1 with
      | lst sa ha' =>
        cases e
        cases r
        obtain ⟨its, rv, p', hz⟩ := I1.list (SqL.of (rl.sub _ _ sa))
        refine call_enumerate_list p'.isList fun h' he hit hsz hk => wpAny_pyIter_enum he ?_
        have I2 : L2.Inv X pins σ H1 { s1 with heap := h' } := I1.kept (t' := s1.toks) hk
        exact ⟨s1.heap.objs.size + 1, [s1.heap.objs.size + 1, s1.heap.objs.size], _, _, H1, rfl, I2, turn_enum _ (s1.heap.objs.size + 1) s1.heap.objs.size, ⟨⟨.none, he⟩, hit, Nat.succ_ne_self _⟩, fresh I2, k _ (itd_enumL sa ha')⟩
      | tup sa ha' =>
        cases e
        cases r
        obtain ⟨its, rv, p', hz⟩ := I1.tuple (Sub.seqT rl.sub sa)
        refine enum_begins1 (begins_tuple _ its.toArray) p' fun h' he hit hsz hk => wpAny_pyIter_enum he ?_
        have I2 : L2.Inv X pins σ H1 { s1 with heap := h' } := I1.kept (t' := s1.toks) hk
        exact ⟨s1.heap.objs.size + 1, [s1.heap.objs.size + 1, s1.heap.objs.size], _, _, H1, rfl, I2, turn_enumT _ (s1.heap.objs.size + 1) s1.heap.objs.size _, ⟨⟨.none, he⟩, ⟨_, hit, rfl, rfl⟩, Nat.succ_ne_self _, Nat.zero_le _⟩, fresh I2, k _ (itd_enumT sa ha')⟩
      | str z =>
        cases e
        obtain ⟨t, rfl⟩ := r
        refine enum_begins1 (begins_text z t) trivial fun h' he hit hsz hk => wpAny_pyIter_enum he ?_
        have I2 : L2.Inv X pins σ H1 { s1 with heap := h' } := I1.kept (t' := s1.toks) hk
        exact ⟨s1.heap.objs.size + 1, [s1.heap.objs.size + 1, s1.heap.objs.size], _, _, H1, rfl, I2, turn_enumS z t (s1.heap.objs.size + 1) s1.heap.objs.size, ⟨⟨.none, he⟩, ⟨_, hit, rfl, rfl⟩, Nat.succ_ne_self _, Nat.zero_le _⟩, fresh I2, k _ itd_enumS⟩
      | non => cases e
      | bl _ => cases e
      | int _ => cases e
      | dct _ _ => cases e
      | kdt _ _ => cases e
end DL
namespace DL
open PySem PySem.Spec PyProof.Rows L2
/-! ## a cell set apart while other things are done -/
def Bs.wthH (B : Bs) (D : Addr) (ho : HO) : Bs := { B with H0 := upd B.H0 D ho }
section
variable {R : Res} {K : PySem.W.Frag} {B : Bs} {G : Hp} {ρ : Sls} {σ : L2.St} {H : Hp} {D : Addr} {oo : HO}
/-- the new list of a comprehension, set apart -/
theorem Rel.beginH (r : Rel R K B G ρ σ H) (n : H D = none) : Rel R K (B.wthH D oo) G ρ σ (upd H D oo) := by
  have u := r.up (o := oo) n
  have g0 : B.G0 D = none := by
    cases q : B.G0 D with
    | none => rfl
    | some o =>
      have := r.sub _ _ (r.g0 _ _ q)
      rw [n] at this
      cases this
  have h0 : B.H0 D = none := r.h0 n
  have nfp : ∀ b ∈ B.fp, b ≠ D := fun b hb z => (r.fp0 b hb).2.2 (by rw [z]; exact n)
  refine ⟨u.sub, u.len, u.g0, fun b h1 h2 => ?_, fun b o e hb => ?_, fun b hb => ?_, u.d, u.s, fun i x e => ?_, ?_⟩
  · by_cases hb : b = D
    · subst hb
      exact absurd (r.sub.free n) h2
    · rw [show (B.wthH D oo).H0 b = B.H0 b from upd_ne hb] at h1
      exact u.new b h1 h2
  · by_cases hb' : b = D
    · subst hb'
      rw [show (B.wthH b oo).H0 b = some oo from upd_same] at e
      cases e
      exact upd_same
    · rw [show (B.wthH D oo).H0 b = B.H0 b from upd_ne hb'] at e
      exact u.fr b o e hb
  · obtain ⟨z1, z2, z3⟩ := u.fp0 b hb
    exact ⟨z1, by rw [show (B.wthH D oo).H0 b = B.H0 b from upd_ne (nfp b hb)]; exact z2, z3⟩
  · obtain ⟨a, ho, e1, e2, e3, e4, e5, e6⟩ := u.o i x e
    have na : a ≠ D := fun z => by
      obtain ⟨a', ho', q1, _, _, q4, _⟩ := r.o i x e
      rw [e1] at q1
      cases q1
      rw [z, n] at q4
      cases q4
    exact ⟨a, ho, e1, e2, by rw [show (B.wthH D oo).H0 a = B.H0 a from upd_ne na]; exact e3, e4, e5, e6⟩
  · obtain ⟨la, fp, q⟩ := r.l
    have nb : ∀ b ∈ fp, b ≠ D := fun b hb z => (q.pf b hb).2.1 (by rw [z]; exact n)
    refine ⟨la, fp, q.pl, fun z => R.loc H _ la fp (fun b hb => upd_ne (nb b hb)) (q.ok z), fun b hb => ?_, q.tie⟩
    obtain ⟨z1, z0, z2, z3⟩ := q.pf b hb
    rw [upd_ne (nb b hb)]
    exact ⟨z1, z0, z2.imp (fun z => by rw [show (B.wthH D oo).H0 b = B.H0 b from upd_ne (nb b hb)]; exact z) id, z3⟩
/-- what is true of the cell set apart -/
theorem Rel.apartH (r : Rel R K (B.wthH D oo) G ρ σ H) (h0 : B.G0 D = none) (nf : D ∉ B.fp) : H D = some oo ∧ G D = none := by
  refine ⟨r.fr D _ upd_same nf, ?_⟩
  cases q : G D with
  | none => rfl
  | some o => exact absurd h0 (r.new D (by rw [show (B.wthH D oo).H0 D = some oo from upd_same]; exact nofun) (by rw [q]; exact nofun))
theorem Rel.turnH (r : Rel R K (B.wthH D oo) G ρ σ H) (h0 : B.G0 D = none) (nf : D ∉ B.fp) (oo' : HO) : Rel R K (B.wthH D oo') G ρ σ (upd H D oo') := by
  obtain ⟨hD, gD⟩ := r.apartH h0 nf
  have same : ∀ b, b ≠ D → (B.wthH D oo').H0 b = (B.wthH D oo).H0 b := fun b n => by
    rw [show (B.wthH D oo').H0 b = B.H0 b from upd_ne n, show (B.wthH D oo).H0 b = B.H0 b from upd_ne n]
  have wD : (B.wthH D oo).H0 D = some oo := upd_same
  refine ⟨r.sub.up gD, r.len, r.g0, fun b h1 h2 => ?_, fun b o e hb => ?_, fun b hb => ?_, r.d, r.s, fun i x e => ?_, ?_⟩
  · by_cases hb : b = D
    · subst hb
      exact absurd gD h2
    · rw [same b hb] at h1
      exact r.new b h1 h2
  · by_cases hb' : b = D
    · subst hb'
      rw [show (B.wthH b oo').H0 b = some oo' from upd_same] at e
      cases e
      exact upd_same
    · rw [same b hb'] at e
      rw [upd_ne hb']
      exact r.fr b o e hb
  · have nb : b ≠ D := fun z => nf (z ▸ hb)
    rw [same b nb, upd_ne nb]
    exact r.fp0 b hb
  · obtain ⟨a, ho, e1, e2, e3, e4, e5, e6⟩ := r.o i x e
    have na : a ≠ D := fun z => by
      rw [z, wD] at e3
      cases e3
    exact ⟨a, ho, e1, e2, by rw [same a na]; exact e3, by rw [upd_ne na]; exact e4, e5, e6⟩
  · obtain ⟨la, fp, q⟩ := r.l
    have nb : ∀ b ∈ fp, b ≠ D := fun b hb z => by
      rcases (q.pf b hb).2.2.1 with y | y
      · rw [z, wD] at y
        cases y
      · exact nf (z ▸ y)
    refine ⟨la, fp, q.pl, fun z => R.loc H _ la fp (fun b hb => upd_ne (nb b hb)) (q.ok z), fun b hb => ?_, q.tie⟩
    rw [upd_ne (nb b hb), same b (nb b hb)]
    exact q.pf b hb
/-- the block is over -/
theorem Rel.overH {ρ0 : Sls} {G0' : Hp} {H0' : Hp} {vs : List Nat} (r0 : Rel R K B G0' ρ0 σ H0') (sg : Sub G0' G) (n0 : H0' D = none) (r : Rel R K (B.wthH D oo) G (wipS ρ vs) (wipe σ vs) H) {d : PyData} (ha : Own1 K G D oo d) :
    Rel R K B G (backS ρ0 ρ vs) σ H ∧ IsNew R K B G σ (backS ρ0 ρ vs) H (.ref D) d := by
  have h0 : B.H0 D = none := r0.h0 n0
  have g0 : B.G0 D = none := by
    cases q : B.G0 D with
    | none => rfl
    | some o =>
      have := r0.sub _ _ (r0.g0 _ _ q)
      rw [n0] at this
      cases this
  have nf : D ∉ B.fp := fun hb => (r0.fp0 D hb).2.2 n0
  obtain ⟨hD, gD⟩ := r.apartH g0 nf
  have wD : (B.wthH D oo).H0 D = some oo := upd_same
  have back : ∀ (b : Addr), b ≠ D → (B.wthH D oo).H0 b = B.H0 b := fun b n => upd_ne n
  have hlen : ρ.length = σ.length := by
    have := r.len
    rw [wipS_length, wipe_length] at this
    exact this
  have bget : ∀ (i : Nat) (s : Sl), (backS ρ0 ρ vs)[i]? = some s → (i ∈ vs ∧ (s = .un ∨ ∃ x, s = .d x ∧ ρ0[i]? = some (.d x))) ∨ (i ∉ vs ∧ ρ[i]? = some s) := fun i s e => by
    unfold backS at e
    rw [List.getElem?_mapIdx] at e
    cases q : ρ[i]? with
    | none => rw [q] at e; cases e
    | some s' =>
      rw [q] at e
      simp only [Option.map_some, Option.some.injEq] at e
      by_cases hi : i ∈ vs
      · rw [if_pos hi] at e
        refine .inl ⟨hi, ?_⟩
        split at e
        · rename_i x ex
          exact .inr ⟨x, e.symm, ex⟩
        · exact .inl e.symm
      · rw [if_neg hi] at e
        exact .inr ⟨hi, by rw [e]⟩
  have win : ∀ (i : Nat) (s : Sl), i ∉ vs → ρ[i]? = some s → (wipS ρ vs)[i]? = some s := fun i s hi e => by
    have hl : i < (wipS ρ vs).length := by
      rw [wipS_length]
      exact (List.getElem?_eq_some_iff.mp e).1
    have : ∀ (ws : List Nat), i ∉ ws → (wipS ρ ws)[i]? = ρ[i]? := fun ws => by
      induction ws with
      | nil => intro _; rfl
      | cons v ws ih =>
        intro h
        simp only [List.mem_cons, not_or] at h
        show ((wipS ρ ws).set v .un)[i]? = _
        rw [List.getElem?_set_ne (fun z => h.1 z.symm), ih h.2]
    rw [this vs hi, e]
  have own : ∀ (i : Nat) (x : PyData), (backS ρ0 ρ vs)[i]? = some (.own x) → i ∉ vs ∧ (wipS ρ vs)[i]? = some (.own x) := fun i x e => by
    rcases bget i _ e with ⟨_, z | ⟨y, z, _⟩⟩ | ⟨z1, z2⟩
    · cases z
    · cases z
    · exact ⟨z1, win i _ z1 z2⟩
  have lom : ∀ (i : Nat), (backS ρ0 ρ vs)[i]? = some .loom → i ∉ vs ∧ (wipS ρ vs)[i]? = some .loom := fun i e => by
    rcases bget i _ e with ⟨_, z | ⟨y, z, _⟩⟩ | ⟨z1, z2⟩
    · cases z
    · cases z
    · exact ⟨z1, win i _ z1 z2⟩
  have ol : ∀ b, (∀ (j : Nat) (y : PyData), (wipS ρ vs)[j]? = some (.own y) → (wipe σ vs)[j]? ≠ some (some (.ref b))) → ∀ (j : Nat) (y : PyData), (backS ρ0 ρ vs)[j]? = some (.own y) → σ[j]? ≠ some (some (.ref b)) := fun b h j y e => by
    obtain ⟨n, e'⟩ := own j y e
    have := h j y e'
    rw [wipe_out n] at this
    exact this
  obtain ⟨la, fp, q⟩ := r.l
  have fne : ∀ b ∈ fp, b ≠ D := fun b hb z => by
    rcases (q.pf b hb).2.2.1 with y | y
    · rw [z, wD] at y
      cases y
    · exact nf (z ▸ y)
  have lpart : LoomAt R B G (backS ρ0 ρ vs) σ H la fp := by
    refine ⟨fun i e => ?_, fun z => q.ok (z.imp (fun ⟨i, e⟩ => ⟨i, (lom i e).2⟩) id), fun b hb => ?_, q.tie⟩
    · obtain ⟨n, e'⟩ := lom i e
      have := q.pl i e'
      rw [wipe_out n] at this
      exact this
    · obtain ⟨z1, z0, z2, z3⟩ := q.pf b hb
      exact ⟨z1, z0, z2.imp (fun z => by rw [back b (fne b hb)] at z; exact z) id, ol b z3⟩
  refine ⟨⟨r.sub, by unfold backS; rw [List.length_mapIdx]; exact hlen, r.g0, fun b h1 h2 => ?_, fun b o e hb => ?_, fun b hb => ?_, fun i x e => ?_, fun i x e => ?_, fun i x e => ?_, la, fp, lpart⟩, ?_⟩
  · by_cases hb : b = D
    · subst hb
      exact absurd h0 h1
    · exact r.new b (by rw [back b hb]; exact h1) h2
  · have nb : b ≠ D := fun z => by
      rw [z, h0] at e
      cases e
    exact r.fr b o (by rw [back b nb]; exact e) hb
  · have nb : b ≠ D := fun z => nf (z ▸ hb)
    have := r.fp0 b hb
    rw [back b nb] at this
    exact this
  · rcases bget i _ e with ⟨z0, z | ⟨y, z, z'⟩⟩ | ⟨z1, z2⟩
    · cases z
    · cases z
      obtain ⟨v, e1, e2⟩ := r0.d i x z'
      exact ⟨v, e1, e2.mono sg⟩
    · obtain ⟨v, e1, e2⟩ := r.d i x (win i _ z1 z2)
      rw [wipe_out z1] at e1
      exact ⟨v, e1, e2⟩
  · rcases bget i _ e with ⟨z0, z | ⟨y, z, z'⟩⟩ | ⟨z1, z2⟩
    · cases z
    · cases z
    · obtain ⟨a, e1, e2⟩ := r.s i x (win i _ z1 z2)
      rw [wipe_out z1] at e1
      exact ⟨a, e1, e2⟩
  · obtain ⟨n, e'⟩ := own i x e
    obtain ⟨a, ho, e1, e2, e3, e4, e5, e6⟩ := r.o i x e'
    have na : a ≠ D := fun z => by
      rw [z, wD] at e3
      cases e3
    rw [wipe_out n] at e1
    refine ⟨a, ho, e1, e2, by rw [back a na] at e3; exact e3, e4, e5, fun j y h1 h2 => ?_⟩
    obtain ⟨nj, h1'⟩ := own j y h1
    exact e6 j y h1' (by rw [wipe_out nj]; exact h2)
  · refine ⟨D, _, rfl, gD, h0, hD, ha, ol D fun j y e z => ?_, la, fp, lpart, fun z => fne D z rfl⟩
    obtain ⟨a, ho, e1, _, e3, _⟩ := r.o j y e
    rw [e1] at z
    cases z
    rw [wD] at e3
    cases e3
end
theorem backS_nil (ρ0 ρ : Sls) : backS ρ0 ρ [] = ρ := by
  unfold backS
  apply List.ext_getElem?
  intro i
  rw [List.getElem?_mapIdx]
  cases ρ[i]? <;> simp
section
variable {R : Res} {X : Cx} {pos : Pos}
/-! ### dict displays with keys that are told -/
def trsOf (R : Res) (K : PySem.W.Frag) : List Key → List WE → List (TE × TE)
  | k :: ks, w :: ws => (tC (kV k), anyE R K w) :: trsOf R K ks ws
  | _, _ => []
structure SDs (R : Res) (X : Cx) (pos : Pos) (es : List (Option Expr)) (vs : List Expr) (ks : List Key) (ws : List WE) : Prop where
  pp : PPs X pos es vs (trsOf R X.K ks ws)
  mono : MonoEs ws
  le : ks.length = ws.length
theorem sds_nil : SDs R X pos [] [] [] [] := ⟨pps_nil, trivial, rfl⟩
theorem sds_cons {e v : Expr} {es : List (Option Expr)} {vs : List Expr} {k : Key} {ks : List Key} {w : WE} {ws : List WE} (hk : PE X e (tC (kV k))) (hv : SE R X v w) (hr : SDs R X pos es vs ks ws) : SDs R X pos (some e :: es) (v :: vs) (k :: ks) (w :: ws) :=
  ⟨pps_cons hk hv.any hr.pp, ⟨hv.mono, hr.mono⟩, congrArg (· + 1) hr.le⟩
theorem pairs_run {K : PySem.W.Frag} {B : Bs} {σ : L2.St} : ∀ {ks : List Key} {ws : List WE} {ρ : Sls} {G H : Hp} {Q : List (V × V) → Hp → Prop}, ks.length = ws.length → MonoEs ws → Rel R K B G ρ σ H →
    (wEs ws ρ fun ds ρ' => ∀ vs G' H', Sub G G' → Rel R K B G' ρ' σ H' → Iss K G' vs ds → Q ((ks.zip vs).map fun kv => (kV kv.1, kv.2)) H') → tPairs (trsOf R K ks ws) σ H Q
  | [], [], ρ, G, H, Q, _, _, r, h => h [] G H (Same.refl G) r .nil
  | k :: ks, w :: ws, ρ, G, H, Q, hl, m, r, h => by
    refine ⟨B, ρ, G, r, m.1 ρ _ _ (fun d ρ1 h1 v G1 H1 s1 r1 i1 => ?_) h⟩
    refine pairs_run (ks := ks) (ws := ws) (by simpa using hl) m.2 r1 (MonoEs.run m.2 (fun ds ρ' q vs G2 H2 s2 r2 i2 => ?_) h1)
    exact q (v :: vs) G2 H2 (s1.trans s2) r2 (.cons (i1.mono s2) i2)
def dataOf (ks : List Key) (ds : List PyData) : List (PyData × PyData) := (ks.zip ds).map fun kv => (kD kv.1, kv.2)
theorem isd_zip {K : PySem.W.Frag} {G : Hp} : ∀ {ks : List Key} {vs : List V} {ds : List PyData}, Iss K G vs ds → Isd K G (ks.zip vs) (dataOf ks ds)
  | [], _, _, _ => .nil
  | k :: ks, _, _, .nil => .nil
  | k :: ks, _, _, .cons h t => .cons h (isd_zip t)
theorem put_new : ∀ {kvs : List (Key × V)} {k : Key} {v : V}, k ∉ kvs.map (·.1) → putK kvs k v = kvs ++ [(k, v)] := by
  intro kvs k v h
  unfold putK
  rw [if_neg]
  intro z
  obtain ⟨p, hp, e⟩ := List.any_eq_true.mp z
  exact h (List.mem_map.mpr ⟨p, hp, of_decide_eq_true e⟩)
theorem merge_new : ∀ {more kvs : List (Key × V)}, (kvs.map (·.1) ++ more.map (·.1)).Nodup → mergeK kvs more = kvs ++ more
  | [], kvs, _ => by simp [mergeK]
  | p :: r, kvs, h => by
    have hp : p.1 ∉ kvs.map (·.1) := fun z => by
      rw [List.nodup_append] at h
      exact h.2.2 _ z _ (by simp) rfl
    show mergeK (putK kvs p.1 p.2) r = _
    rw [put_new hp, merge_new]
    · simp
    · simpa using h
@[simp] def wDisp (ks : List Key) (ws : List WE) : WE := fun ρ Q => wEs ws ρ fun ds ρ' => Q (.dict (dataOf ks ds)) ρ'
theorem zip_keys {α : Type} : ∀ {ks : List Key} {vs : List α}, ks.length = vs.length → (ks.zip vs).map (·.1) = ks
  | [], _, _ => rfl
  | k :: ks, [], h => by simp at h
  | k :: ks, v :: vs, h => congrArg (k :: ·) (zip_keys (by simpa using h))
theorem wEs_len {ws : List WE} : MonoEs ws → ∀ {ρ : Sls} {Q : List PyData → Sls → Prop}, wEs ws ρ Q → wEs ws ρ fun ds ρ' => ds.length = ws.length ∧ Q ds ρ' := by
  induction ws with
  | nil => intro _ ρ Q h; exact ⟨rfl, h⟩
  | cons w ws ih =>
    intro m ρ Q h
    exact m.1 ρ _ _ (fun d ρ1 q => MonoEs.run m.2 (fun ds ρ' ⟨e, q⟩ => ⟨congrArg (· + 1) e, q⟩) (ih m.2 q)) h
theorem sf_disp {es : List (Option Expr)} {vs : List Expr} {ks : List Key} {ws : List WE} (h : SDs R X pos es vs ks ws) (hd : ks.Nodup) (h15k : ks.length ≤ 15) (hall : es.all (·.isSome) = true) (hl : es.length = vs.length) (h0 : es ≠ []) (h15 : es.length ≤ 15) : SF R X (.Dict es vs pos) (wDisp ks ws) := by
  refine ⟨fun B => PE.imp (pe_disp h.pp hall hl h0 h15) fun σ H Q ⟨ρ, G, r, q⟩ => fun p np => ?_, fun ρ Q Q' hq => h.mono.run fun ds ρ1 q => hq _ _ q⟩
  have g0 : B.G0 p = none := by
    cases z : B.G0 p with
    | none => rfl
    | some o =>
      have := r.sub _ _ (r.g0 _ _ z)
      rw [np] at this
      cases this
  have nf : p ∉ B.fp := fun hb => (r.fp0 p hb).2.2 np
  refine pairs_run h.le h.mono (r.beginH (oo := .dK []) np) (h.mono.run (fun ds ρ' ⟨el, q⟩ vs G' H' s r' i => ?_) (wEs_len h.mono q))
  obtain ⟨hD, gD⟩ := r'.apartH g0 nf
  have elen : ks.length = vs.length := by rw [i.length, el]; exact h.le
  refine ⟨hD, ks.zip vs, rfl, by rw [List.length_zip]; omega, ?_⟩
  rw [merge_new (by rw [List.map_nil, List.nil_append, zip_keys elen]; exact hd), List.nil_append]
  have rt := r'.turnH g0 nf (.dK (ks.zip vs))
  obtain ⟨r3, n3⟩ := Rel.overH (vs := []) r s np rt (Own1.dct (isd_zip (ks := ks) i))
  rw [backS_nil] at r3 n3
  exact q _ _ _ s r3 n3
theorem sf_dict0 : SF R X (.Dict [] [] pos) (wC (.dict [])) := by
  refine ⟨fun B => PE.imp pe_dnewK fun σ H Q ⟨ρ, G, r, q⟩ => fun p np => ?_, fun ρ Q Q' hq q => hq _ _ q⟩
  exact q _ _ _ (Same.refl G) (r.up np) (IsNew.of r np (.dct .nil))
end
end DL
namespace DL
open PySem PySem.Spec PyProof.Rows L2
/-! ## tuple(x), list(x), int(x) -/
@[simp] def tupD : D1
  | .list ds, q => q (.tuple ds)
  | .tuple ds, q => q (.tuple ds)
  | _, _ => False
@[simp] def lstD : D1
  | .list ds, q => q (.list ds)
  | .tuple ds, q => q (.list ds)
  | _, _ => False
@[simp] def toIntD : D1
  | .int i, q => q (.int i)
  | .bool k, q => q (.int (if k then 1 else 0))
  | _, _ => False
section
variable {R : Res} {K : PySem.W.Frag}
theorem lk_tuple : Lk1 R K (fun v H Q => (fun xs H Q => ∃ p ys, xs = [.ref p] ∧ ((SqL K H p ys ∧ ∀ l, H l = none → Q (.ref l) (upd H l (.tup ys))) ∨ (SqT K H p ys ∧ Q (.ref p) H))) [v] H Q) tupD := by
  refine ⟨fun B G ρ σ H v x Q r hx h => ?_, fun x q q' hq h => ?_⟩
  · cases hx <;> first
      | exact h.elim
      | skip
    · rename_i a vs ds sa ha
      exact ⟨a, vs, rfl, .inl ⟨.of sa, fun p np => aftN h r np (isTup (H := H) (r.sub.free np) ha)⟩⟩
    · rename_i a vs ds sa ha
      exact ⟨a, vs, rfl, .inr ⟨Sub.seqT r.sub sa, aft h r (.tup sa ha)⟩⟩
  · unfold tupD at h ⊢
    split at h <;> first
      | exact hq _ h
      | exact h.elim
theorem lk_list : Lk1 R K (fun v H Q => (fun xs H Q => ∃ p ys, xs = [.ref p] ∧ (SqL K H p ys ∨ SqT K H p ys) ∧ ∀ l, H l = none → Q (.ref l) (upd H l (.lst ys))) [v] H Q) lstD := by
  refine ⟨fun B G ρ σ H v x Q r hx h => ?_, fun x q q' hq h => ?_⟩
  · cases hx <;> first
      | exact h.elim
      | skip
    · rename_i a vs ds sa ha
      exact ⟨a, vs, rfl, .inl (.of sa), fun p np => aftN h r np (isLst (H := H) (r.sub.free np) ha)⟩
    · rename_i a vs ds sa ha
      exact ⟨a, vs, rfl, .inr (Sub.seqT r.sub sa), fun p np => aftN h r np (isLst (H := H) (r.sub.free np) ha)⟩
  · unfold lstD at h ⊢
    split at h <;> first
      | exact hq _ h
      | exact h.elim
theorem lk_toInt : Lk1 R K (fun v H Q => (fun xs H Q => (∃ i, xs = [.int i] ∧ Q (.int i) H) ∨ ∃ k, xs = [.bl k] ∧ Q (.int (if k then 1 else 0)) H) [v] H Q) toIntD := by
  refine ⟨fun B G ρ σ H v x Q r hx h => ?_, fun x q q' hq h => ?_⟩
  · cases hx <;> first
      | exact h.elim
      | exact .inl ⟨_, rfl, aft h r (.int _)⟩
      | exact .inr ⟨_, rfl, aft h r (.int _)⟩
  · unfold toIntD at h ⊢
    split at h <;> first
      | exact hq _ h
      | exact h.elim
end
/-! ## methods of texts -/
@[simp] def wOpS (f : D2) (a b : Od) : WE := fun ρ Q => a.run ρ fun ga ρ1 => (∃ z, ga ρ1 = some (.str z)) ∧ b.run ρ1 fun gb ρ2 => ∃ x y, ga ρ2 = some x ∧ gb ρ2 = some y ∧ f x y fun z => Q z ρ2
section
variable {R : Res} {X : Cx} {o e c : Expr} {a b : Od}
theorem IsH.strV {K : PySem.W.Frag} {G H : Hp} {v : V} {z : Str} (h : IsH K G H v (.str z)) : v = .str z := by cases h; rfl
theorem se_m1 {r : V → List V → Hp → VK → Prop} {f : D2} (h : ∀ to te, PE X o to → PE X e te → PE X c (tM1 r to te)) (L : Lk2 R X.K (fun v u H Q => r v [u] H Q) f) (ha : SO R X o a) (hb : SO R X e b) : SE R X c (wOpS f a b) := by
  refine ⟨fun B => PE.imp (h _ _ (ha.pe B) (hb.pe B)) fun σ H Q ⟨ρ, G, rl, h⟩ => ?_, fun ρ Q Q' h => ha.mono.run fun _ _ ⟨z, q⟩ => ⟨z, hb.mono.run (fun _ _ ⟨x, y, e1, e2, q⟩ => ⟨x, y, e1, e2, L.mono x y _ _ (fun z => h z _) q⟩) q⟩⟩
  refine od_step ha.mono rl h fun ga ρ1 v G1 H1 s1 r1 i1 h1 => ?_
  obtain ⟨⟨z, ez⟩, h1⟩ := h1
  refine ⟨⟨z, (i1.at r1 ez).strV⟩, od_step hb.mono r1 h1 fun gb ρ2 u G2 H2 s2 r2 i2 h2 => ?_⟩
  obtain ⟨x, y, e1, e2, q⟩ := h2
  exact L.to B G2 ρ2 σ H2 v u x y Q r2 ((i1.mono s2).at r2 e1) (i2.at r2 e2) (L.mono _ _ _ _ (fun z q v' G' H' s r' i => q v' G' H' ((s1.trans s2).trans s) r' i) q)
end
@[simp] def joinD : D2
  | .str a, .list ds, q => ∃ ys : List Str, ds = ys.map PyData.str ∧ (ys.map (·.length)).sum + ys.length * a.length ≤ 16777216 ∧ q (.str (Txt.join a ys))
  | .str a, .tuple ds, q => ∃ ys : List Str, ds = ys.map PyData.str ∧ (ys.map (·.length)).sum + ys.length * a.length ≤ 16777216 ∧ q (.str (Txt.join a ys))
  | _, _, _ => False
theorem Iss.strs {K : PySem.W.Frag} {G : Hp} : ∀ {ys : List Str} {vs : List V}, Iss K G vs (ys.map PyData.str) → vs = ys.map V.str
  | [], _, h => by cases h; rfl
  | y :: ys, _, h => by
    cases h with
    | cons h1 h2 =>
      cases h1
      rw [Iss.strs h2]
      rfl
theorem lk_join {R : Res} {K : PySem.W.Frag} : Lk2 R K (fun v u H Q => (fun x xs H Q => ∃ a p, ∃ ys : List Str, x = .str a ∧ xs = [.ref p] ∧ (SqL K H p (ys.map V.str) ∨ SqT K H p (ys.map V.str)) ∧
      (ys.map (·.length)).sum + ys.length * a.length ≤ 16777216 ∧ Q (.str (Txt.join a ys)) H) v [u] H Q) joinD := by
  refine ⟨fun B G ρ σ H v u x y Q r hx hy h => ?_, fun x y q q' hq h => ?_⟩
  · cases hx <;> cases hy <;> first
      | exact h.elim
      | skip
    · rename_i a p vs ds sa ha
      obtain ⟨ys, e, hz, q⟩ := h
      subst e
      rw [ha.strs] at sa
      exact ⟨a, p, ys, rfl, rfl, .inl (.of sa), hz, aft q r (.str _)⟩
    · rename_i a p vs ds sa ha
      obtain ⟨ys, e, hz, q⟩ := h
      subst e
      rw [ha.strs] at sa
      exact ⟨a, p, ys, rfl, rfl, .inr (Sub.seqT r.sub sa), hz, aft q r (.str _)⟩
  · unfold joinD at h ⊢
    split at h
    · obtain ⟨ys, e, hz, q⟩ := h
      exact ⟨ys, e, hz, hq _ q⟩
    · obtain ⟨ys, e, hz, q⟩ := h
      exact ⟨ys, e, hz, hq _ q⟩
    · exact h.elim
theorem se_join {R : Res} {X : Cx} {o e : Expr} {a b : Od} {apos pos : Pos} (ha : SO R X o a) (hb : SO R X e b) (hs : starEach [e] X.env = [(false, eval e X.env)] := by rfl) (hbase : attributeBase o "join" X.env (eval o X.env) = eval o X.env := by rfl) (hline : (apos.endLine == pos.line) = true := by rfl) :
    SE R X (.Call (.Attribute o "join" apos) [e] [] pos) (wOpS joinD a b) :=
  se_m1 (fun to te h1 h2 => pe_join h1 h2 hs hbase hline) lk_join ha hb
/-! ## a, b = x, y -/
@[simp] def wPar (i j : Nat) (ws : List WE) : WS := fun D ρ => wEs ws ρ fun ds ρ' => ∃ x y, ds = [x, y] ∧ D.nx ((ρ'.set i (.d x)).set j (.d y))
theorem ss_par {R : Res} {X : Cx} {i j : Nat} {x y : Str} {a b : Expr} {ws : List WE} {px py pt pos : Pos} {kt k2 pt2} (hc : X.calm = true) (hN : X.N.Nodup) (hi : X.N[i]? = some x) (hj : X.N[j]? = some y)
    (hx : X.env.scope.names.lookup x = some .local) (hy : X.env.scope.names.lookup y = some .local) (ha : SEs R X [a, b] ws) (hij : i ≠ j := by decide)
    (hw : swappedStores [.Tuple [.Name x px, .Name y py] kt pt] (.Tuple [a, b] k2 pt2) X.env = pure (some [x, y]) := by rfl)
    (hs : swapsWithSole [.Tuple [.Name x px, .Name y py] kt pt] (.Tuple [a, b] k2 pt2) pos.line X.env = pure false := by rfl) :
    SS R X (.Assign [.Tuple [.Name x px, .Name y py] kt pt] (.Tuple [a, b] k2 pt2) pos) (wPar i j ws) := by
  refine ⟨fun B => PS.imp (ps_par hc hN hi hj hij hx hy (ha.pa B) hw hs) fun D σ H ⟨ρ, G, r, q⟩ => ⟨ρ, G, r, ha.mono.run (fun ds ρ' ⟨x, y, e, q⟩ vs G' H' s r' i => ?_) q⟩, fun D D' ρ l => ha.mono.run fun ds ρ' ⟨x, y, e, q⟩ => ⟨x, y, e, l.nx _ q⟩⟩
  subst e
  cases i with
  | cons i1 i2 =>
    cases i2 with
    | cons i2 i3 =>
      cases i3
      exact ⟨_, _, rfl, q _ G' H' s ((r'.setD i1).setD i2)⟩
end DL
namespace DL
open PySem PySem.Spec PyProof.Rows L2
/-! ## defs as they stand, and calls of them -/
/-- where a def stands -/
def Here (K : PySem.W.Frag) (mg : Str → Option Value) (x : Str) (st : Stmt) : Prop := ∃ f fd, Fun K x x st f fd ∧ mg x = some (.ref f)
structure Def (R : Res) (P : Program) (w : World) (K : PySem.W.Frag) (mg : Str → Option Value) (base : Heap) (k : Nat) (x : Str) (st : Stmt) (ps : List Str) (S : Sd) : Prop where
  mS : MonoD S
  ex : ∃ f fd, Fun K x x st f fd ∧ GFn P w K mg base CX0 k f fd ps (spD R K ps.length S) ∧ mg x = some (.ref f) ∧ Binds K fd ps []
section
variable {R : Res} {X : Cx} {k j : Nat} {st : Stmt} {ps : List Str} {S : Sd} {x : Str} {p pos : Pos} {e : Expr} {es : List Expr} {gs hs : List Ag} {kws : List Keyword} {is : Perm} {ks : List Str}
theorem Def.imp {P : Program} {w : World} {K : PySem.W.Frag} {mg : Str → Option Value} {base : Heap} {S' : Sd} (D : Def R P w K mg base k x st ps S) (mS : MonoD S') (h : ∀ as q, S' as q → S as q) : Def R P w K mg base k x st ps S' := by
  obtain ⟨f, fd, F, G, m, b⟩ := D.ex
  exact ⟨mS, f, fd, F, G.imp fun vs H Q E ⟨h1, Gp, as, la, fp, a, b, c, d, q⟩ => ⟨h1, Gp, as, la, fp, a, b, c, d, h as _ q⟩, m, b⟩
theorem Def.up {P : Program} {w : World} {K : PySem.W.Frag} {mg : Str → Option Value} {base : Heap} (D : Def R P w K mg base k x st ps S) (h : k ≤ j) : Def R P w K mg base j x st ps S := by
  obtain ⟨f, fd, F, G, m, b⟩ := D.ex
  exact ⟨D.mS, f, fd, F, G.up h, m, b⟩
theorem se_cD (D : Def R X.prog X.w X.K X.mg X.base k x st ps S) (hgd : X.A.guards = some []) (hr : Room j X.A) (ha : SA R X (e :: es) gs) (hj : k ≤ j := by first | exact Nat.le_refl _ | decide | omega) (hn : gs.length = ps.length := by rfl) (hg : Gl X x := by rfl)
    (hdb : (x == ("__debug__" : Str)) = false := by decide) (he : starEach (e :: es) X.env = (false, eval e X.env) :: starEach es X.env := by rfl) (hpl : (backTo pos (starEach es X.env)).any (·.1) = false := by rfl) :
    SE R X (.Call (.Name x p) (e :: es) [] pos) (wCall S gs) := by
  obtain ⟨f, fd, F, G, m, b⟩ := D.ex
  exact se_call D.mS G hn hgd (hr.mono hj) hg m F.kp b ha hdb he hpl
theorem se_cK0 (D : Def R X.prog X.w X.K X.mg X.base k x st ps S) (hgd : X.A.guards = some []) (hr : Room j X.A) (is : Perm) (h0 : ps.length ≠ 0)
    (hb : ∀ (kV doc pm : Value) (an : Option Addr) (cdv ct : Value) (us ws : List Value), us.length = is.1 → ws.length = is.2.1 → bindArgs (PySem.W.fnOf x x (defArgs st) (defBody st) (defScope st) .none kV doc pm an cdv ct) ⟨us, ks.zip ws⟩ = pure (ps.zip (perm is us ws)))
    (hn : ∀ as bs : List V, as.length = 0 → bs.length = hs.length → (perm is as bs).length = ps.length)
    (hkw : SK R X kws hs) (hj : k ≤ j := by first | exact Nat.le_refl _ | decide | omega) (hg : Gl X x := by rfl) (hall : (backToKw pos (keywordEach kws X.env)).all (·.1.isSome) = true := by rfl) (hks : (backToKw pos (keywordEach kws X.env)).filterMap (·.1) = ks := by rfl)
    (hdb : (x == ("__debug__" : Str)) = false := by decide) (hpl : ((backTo pos (starEach [] X.env)).any (·.1) || (backToKw pos (keywordEach kws X.env)).any (·.1.isNone)) = false := by rfl) :
    SE R X (.Call (.Name x p) [] kws pos) (wCallK S is [] hs) := by
  obtain ⟨f, fd, F, G, m, b⟩ := D.ex
  exact se_callK0 D.mS G (fun as bs h1 h2 => hn as bs h1 h2) hgd (hr.mono hj) hg m F.kp (kb_of F h0 hb) hkw hall hks hdb hpl
theorem se_cK (D : Def R X.prog X.w X.K X.mg X.base k x st ps S) (hgd : X.A.guards = some []) (hr : Room j X.A) (is : Perm) (h0 : ps.length ≠ 0)
    (hb : ∀ (kV doc pm : Value) (an : Option Addr) (cdv ct : Value) (us ws : List Value), us.length = is.1 → ws.length = is.2.1 → bindArgs (PySem.W.fnOf x x (defArgs st) (defBody st) (defScope st) .none kV doc pm an cdv ct) ⟨us, ks.zip ws⟩ = pure (ps.zip (perm is us ws)))
    (hn : ∀ as bs : List V, as.length = gs.length → bs.length = hs.length → (perm is as bs).length = ps.length)
    (ha : SA R X (e :: es) gs) (hkw : SK R X kws hs) (hj : k ≤ j := by first | exact Nat.le_refl _ | decide | omega) (hg : Gl X x := by rfl) (hall : (backToKw pos (keywordEach kws X.env)).all (·.1.isSome) = true := by rfl) (hks : (backToKw pos (keywordEach kws X.env)).filterMap (·.1) = ks := by rfl)
    (hdb : (x == ("__debug__" : Str)) = false := by decide) (he : starEach (e :: es) X.env = (false, eval e X.env) :: starEach es X.env := by rfl) (hpl : ((backTo pos (starEach (e :: es) X.env)).any (·.1) || (backToKw pos (keywordEach kws X.env)).any (·.1.isNone)) = false := by rfl) :
    SE R X (.Call (.Name x p) (e :: es) kws pos) (wCallK S is gs hs) := by
  obtain ⟨f, fd, F, G, m, b⟩ := D.ex
  exact se_callK D.mS G hn hgd (hr.mono hj) hg m F.kp (kb_of F h0 hb) ha hkw hall hks hdb he hpl
/-! ### constants -/
theorem se_int {i : Int} {q : Nat} : SE R X (.Constant (.int i) q pos) (wC (.int i)) := se_c pe_int fun _ => .int _
theorem se_str {z : Str} {q : Nat} : SE R X (.Constant (.str z) q pos) (wC (.str z)) := se_c pe_str fun _ => .str _
theorem se_non {q : Nat} : SE R X (.Constant .none q pos) (wC .none) := se_c pe_non fun _ => .non
theorem se_bl {b : Bool} {q : Nat} : SE R X (.Constant (.bool b) q pos) (wC (.bool b)) := se_c pe_bl fun _ => .bl _
theorem pe_neg {i : Int} {q : Nat} {p2 : Pos} : PE X (.UnaryOp .USub (.Constant (.int i) q p2) pos) (tC (.int (-i))) := PE.imp (pe_un un_neg pe_int) fun _ _ _ q => ⟨i, rfl, q⟩
theorem se_neg1 {i : Int} {q : Nat} {p2 : Pos} : SE R X (.UnaryOp .USub (.Constant (.int i) q p2) pos) (wC (.int (-i))) := se_c pe_neg fun _ => .int _
theorem pe_gI {i : Int} (h : ∃ t, X.mg x = some (.int i t)) (hg : Gl X x := by rfl) (hd : (x == ("__debug__" : Str)) = false := by decide) : PE X (.Name x pos) (tC (.int i)) := by
  obtain ⟨t, e⟩ := h
  exact pe_glob hg e ⟨t, rfl⟩ hd
theorem se_gI {i : Int} (h : ∃ t, X.mg x = some (.int i t)) (hg : Gl X x := by rfl) (hd : (x == ("__debug__" : Str)) = false := by decide) : SE R X (.Name x pos) (wC (.int i)) := se_c (pe_gI h hg hd) fun _ => .int _
theorem pe_gS {z : Str} (h : ∃ t, X.mg x = some (.str z t)) (hg : Gl X x := by rfl) (hd : (x == ("__debug__" : Str)) = false := by decide) : PE X (.Name x pos) (tC (.str z)) := by
  obtain ⟨t, e⟩ := h
  exact pe_glob hg e ⟨t, rfl⟩ hd
theorem se_gS {z : Str} (h : ∃ t, X.mg x = some (.str z t)) (hg : Gl X x := by rfl) (hd : (x == ("__debug__" : Str)) = false := by decide) : SE R X (.Name x pos) (wC (.str z)) := se_c (pe_gS h hg hd) fun _ => .str _
end
/-! ### displays of constants -/
theorem SE.imp {R : Res} {X : Cx} {e : Expr} {w w' : WE} (h : SE R X e w) (hw : ∀ ρ Q, w' ρ Q → w ρ Q) (m : MonoE w') : SE R X e w' :=
  ⟨fun B => PE.imp (h.pe B) fun σ H Q ⟨ρ, G, r, q⟩ => ⟨ρ, G, r, hw _ _ q⟩, m⟩
theorem mono_c {d : PyData} : MonoE (wC d) := fun ρ Q Q' h q => h _ _ q
def SCs (R : Res) (X : Cx) (es : List Expr) (ds : List PyData) : Prop := SEs R X es (ds.map wC)
theorem wEs_c : ∀ (ds : List PyData) (ρ : Sls) (Q : List PyData → Sls → Prop), Q ds ρ → wEs (ds.map wC) ρ Q
  | [], ρ, Q, h => h
  | d :: ds, ρ, Q, h => wEs_c ds ρ (fun ds ρ' => Q (d :: ds) ρ') h
section
variable {R : Res} {X : Cx} {e : Expr} {es : List Expr} {d : PyData} {ds : List PyData} {pos : Pos}
theorem scs_nil : SCs R X [] [] := ses_nil
theorem scs_cons (h : SE R X e (wC d)) (t : SCs R X es ds) (hs : starEach (e :: es) X.env = (false, eval e X.env) :: starEach es X.env := by rfl) : SCs R X (e :: es) (d :: ds) := ses_cons h t hs
theorem se_ctup {k} (h : SCs R X es ds) (hl : ds.length ≤ 1000 := by decide) : SE R X (.Tuple es k pos) (wC (.tuple ds)) :=
  (se_tup h).imp (fun ρ Q q => wEs_c ds ρ _ ⟨Nat.le_trans hl (by decide), q⟩) mono_c
theorem se_clst (h : SCs R X es ds) (hl : ds.length ≤ 1000 := by decide) : SE R X (.List es pos) (wC (.list ds)) :=
  (se_lst h).imp (fun ρ Q q => wEs_c ds ρ _ ⟨Nat.le_trans hl (by decide), q⟩) mono_c
theorem se_cpow {i j : Int} {a b : Nat} {p q : Pos} (h : CPow i j) : SE R X (.BinOp (.Constant (.int i) a p) .Pow (.Constant (.int j) b q) pos) (wC (.int (i ^ j.toNat))) :=
  (se_bin op_pow lk_pow (so_val se_int) (so_val se_int)).imp (fun ρ Q k => ⟨_, _, rfl, rfl, h, k⟩) mono_c
end
/-! ### numbers and sequences times a number -/
@[simp] def mulXD : D2 := fun x y q => mulD x y q ∨ mulsD x y q
theorem op_mulX {X : Cx} : OpR X (binaryOp .Mult) (fun x y H Q => rI CMul (fun i j => .int (i * j)) x y H Q ∨ rMulsD X.K x y H Q) := op_mul.or op_muls
theorem lk_mulX {R : Res} {K : PySem.W.Frag} : Lk2 R K (fun x y H Q => rI CMul (fun i j => .int (i * j)) x y H Q ∨ rMulsD K x y H Q) mulXD :=
  ⟨fun B G ρ σ H v u x y Q r hx hy h => h.imp (lk_mul.to B G ρ σ H v u x y Q r hx hy) (lk_muls.to B G ρ σ H v u x y Q r hx hy), fun x y q q' hq h => h.imp (lk_mul.mono (R := R) (K := K) x y q q' hq) (lk_muls.mono (R := R) (K := K) x y q q' hq)⟩
theorem lk_shown1 {R : Res} {K : PySem.W.Frag} : Lk1 R K (fun v H Q => (fun xs H Q => ∃ v, xs = [v] ∧ rShown K v H Q) [v] H Q) shownD :=
  ⟨fun B G ρ σ H v x Q r hx h => ⟨v, rfl, lk_shown.to B G ρ σ H v x Q r hx h⟩, lk_shown.mono (R := R) (K := K)⟩
/-! ### == and != -/
@[simp] def eqXD : D2
  | .str a, .str b, q => q (.bool (a == b))
  | x, y, q => eqD x y q
@[simp] def neXD : D2
  | .str a, .str b, q => q (.bool (!(a == b)))
  | x, y, q => neD x y q
theorem op_eqX {X : Cx} (hu : X.A.units + 64 < cLine) : OpR X (compareOp .Eq) (fun x y H Q => rEq x y H Q ∨ rEqD X.K x y H Q) := op_eq.or (op_eqD hu)
theorem op_neX {X : Cx} (hu : X.A.units + 64 < cLine) : OpR X (compareOp .NotEq) (fun x y H Q => rNe x y H Q ∨ rNeD X.K x y H Q) := op_ne.or (op_neD hu)
theorem lk_eqX {R : Res} {K : PySem.W.Frag} : Lk2 R K (fun x y H Q => rEq x y H Q ∨ rEqD K x y H Q) eqXD := by
  refine ⟨fun B G ρ σ H v u x y Q r hx hy h => ?_, fun x y q q' hq h => ?_⟩
  · unfold eqXD at h
    split at h
    · cases hx
      cases hy
      rw [← dec_str] at h
      exact .inl ⟨rfl, aft h r (.bl _)⟩
    · exact .inr (lk_eq.to B G ρ σ H v u _ _ Q r hx hy h)
  · unfold eqXD at h ⊢
    split at h
    · exact hq _ h
    · exact lk_eq.mono (R := R) (K := K) _ _ q q' hq h
theorem lk_neX {R : Res} {K : PySem.W.Frag} : Lk2 R K (fun x y H Q => rNe x y H Q ∨ rNeD K x y H Q) neXD := by
  refine ⟨fun B G ρ σ H v u x y Q r hx hy h => ?_, fun x y q q' hq h => ?_⟩
  · unfold neXD at h
    split at h
    · cases hx
      cases hy
      rw [← dec_str] at h
      exact .inl ⟨rfl, aft h r (.bl _)⟩
    · exact .inr (lk_ne.to B G ρ σ H v u _ _ Q r hx hy h)
  · unfold neXD at h ⊢
    split at h
    · exact hq _ h
    · exact lk_ne.mono (R := R) (K := K) _ _ q q' hq h
/-! ### abs -/
@[simp] def absD : D1
  | .int i, q => q (.int (if i < 0 then -i else i))
  | _, _ => False
theorem lk_abs {R : Res} {K : PySem.W.Frag} : Lk1 R K (fun v H Q => (fun xs H Q => ∃ i, xs = [.int i] ∧ Q (.int (if i < 0 then -i else i)) H) [v] H Q) absD := by
  refine ⟨fun B G ρ σ H v x Q r hx h => ?_, fun x q q' hq h => ?_⟩
  · cases hx <;> first
      | exact h.elim
      | exact ⟨_, rfl, aft h r (.int _)⟩
  · unfold absD at h ⊢
    split at h <;> first
      | exact hq _ h
      | exact h.elim
/-! ### target = value -/
@[simp] def wAsg (w : WE) (g : WG) : WS := fun D ρ => w ρ fun d ρ1 => g d ρ1 D.nx
theorem ss_asg {R : Res} {X : Cx} {tg e : Expr} {pos : Pos} {w : WE} {t : TG} {g : WG} {is : List Nat} (he : SE R X e w) (hg : SG R X tg t g is) (hs : swapsWithSole [tg] e pos.line X.env = pure false := by rfl) (hw : swappedStores [tg] e X.env = pure none := by rfl)
    (h1 : (assignEach [tg] X.env).map (·.2) = [assign tg X.env] := by rfl) : SS R X (.Assign [tg] e pos) (wAsg w g) := by
  refine ⟨fun B => PS.imp (ps_asg (he.pe B) hg.pg hs hw h1) fun D σ H ⟨ρ, G, r, q⟩ => ⟨ρ, G, r, he.mono ρ _ _ (fun d ρ1 q v G1 H1 s1 r1 i1 => ?_) q⟩, fun D D' ρ l => he.mono ρ _ _ fun d ρ1 q => hg.mono d ρ1 _ _ (fun ρ' => l.nx ρ') q⟩
  exact hg.to B ρ1 G1 σ H1 v d _ r1 i1 (hg.mono d ρ1 _ _ (fun ρ' k σ' G' H' _ s' r' => k σ' G' H' (s1.trans s') r') q)
end DL
namespace DL
open PySem PySem.Spec PyProof.Rows L2
/-! ## the resource of the first kind: a dict with a list of far numbers and two numbers -/
def loomHO (fa : Addr) (st tm : Int) : HO := .dK [(.inr "far", .ref fa), (.inr "stirred", .int st), (.inr "times", .int tm)]
def loomR : Res where
  ok H la fp := ∃ (fa : Addr) (far : List Int) (st tm : Int), fp = [la, fa] ∧ la ≠ fa ∧ H la = some (loomHO fa st tm) ∧ H fa = some (.lst (far.map V.int)) ∧ far.length ≤ 63
  loc := fun H H' a fp h ⟨fa, far, st, tm, e, n, h1, h2, h3⟩ => by
    subst e
    exact ⟨fa, far, st, tm, rfl, n, by rw [h a (by simp)]; exact h1, by rw [h fa (by simp)]; exact h2, h3⟩
  there := fun H a fp ⟨fa, far, st, tm, e, n, h1, h2, h3⟩ b hb => by
    subst e
    rcases List.mem_cons.mp hb with z | z
    · rw [z, h1]
      exact nofun
    · rw [List.mem_singleton.mp z, h2]
      exact nofun
  rd := fun H a fp ⟨fa, far, st, tm, e, n, h1, h2, h3⟩ => by
    subst e
    simp
/-- what a draw of so many tells -/
def drawn (n r : Int) : Prop := (n < 2 ∧ r = 0) ∨ (2 ≤ n ∧ 0 ≤ r ∧ r < n)
def S_draw : Sd := fun as q => ∃ n : Int, as = [.loom, .d (.int n)] ∧ n < 2 ^ 30 ∧ ∀ r : Int, drawn n r → q (.int r)
theorem mono_draw : MonoD S_draw := fun as q q' h ⟨n, e, b, k⟩ => ⟨n, e, b, fun r d => h _ (k r d)⟩
theorem drawn_mod {n x : Int} (h : 2 ≤ n) : drawn n (x % n) := .inr ⟨h, Int.emod_nonneg _ (by omega), Int.emod_lt_of_pos _ (by omega)⟩
/-- what a draw leaves -/
theorem Left.of {R : Res} {K : PySem.W.Frag} {G H H' : Hp} {la : Addr} {fp : List Addr} {l : Bool} (sg : Sub G H) (hf : ∀ b ∈ fp, G b = none ∧ H b ≠ none) (same : ∀ b o, H b = some o → b ∉ fp → H' b = some o) (ok : R.ok H' la fp) : Left R K G H la fp l G H' :=
  ⟨Same.refl G, fun b o e => by
      have hb : b ∉ fp := fun z => by
        rw [(hf b z).1] at e
        cases e
      exact same b o (sg b o e) hb,
    fun b _ h => h, fun b o e hb => same b o e hb, fun b hb => R.there H' la fp ok b hb, fun _ => ok⟩
/-- a draw, from its reading over the heap -/
theorem draw_sp {R : Res} {K : PySem.W.Frag} {S : Sd} {vs : List V} {H : Hp} {Q : VK} {E : XK} (hS : ∀ as q, S as q → S_draw as q) (h : spD R K 2 S vs H Q E) :
    ∃ (la : Addr) (fp : List Addr) (n : Int), vs = [.ref la, .int n] ∧ n < 2 ^ 30 ∧ R.ok H la fp ∧ ∀ (r : Int) (H' : Hp), drawn n r → R.ok H' la fp → (∀ b o, H b = some o → b ∉ fp → H' b = some o) → Q (.int r) H' := by
  obtain ⟨hn, G, as, la, fp, sg, ra, hf, hl, q⟩ := h
  obtain ⟨n, e, hb, k⟩ := hS _ _ q
  subst e
  cases ra with
  | cons h1 h2 =>
    cases h2 with
    | cons h2 h3 =>
      cases h3
      have h1 : _ = V.ref la := h1
      have h2 := Is.intV (show Is K G _ (.int n) from h2)
      subst h1 h2
      exact ⟨la, fp, n, rfl, hb, hl rfl, fun r H' d ok same => k r d _ _ _ (Left.of sg hf same ok) (.int r)⟩
theorem get_far {la fa : Addr} {st tm : Int} {H : Hp} (h : H la = some (loomHO fa st tm)) : DGet H la (.str "far") (some (.ref fa)) := DGet.k (k := .inr "far") h
theorem get_st {la fa : Addr} {st tm : Int} {H : Hp} (h : H la = some (loomHO fa st tm)) : DGet H la (.str "stirred") (some (.int st)) := DGet.k (k := .inr "stirred") h
theorem get_tm {la fa : Addr} {st tm : Int} {H : Hp} (h : H la = some (loomHO fa st tm)) : DGet H la (.str "times") (some (.int tm)) := DGet.k (k := .inr "times") h
theorem put_tm {la fa : Addr} {st tm t2 : Int} {H : Hp} (h : H la = some (loomHO fa st tm)) : DPut H la (.str "times") (.int t2) (upd H la (loomHO fa st t2)) := DPut.k (k := .inr "times") h (show 3 < sizeLine by decide)
theorem dp_ints {K : PySem.W.Frag} {H : Hp} {a : Addr} {ns : List Int} (h : H a = some (.lst (ns.map V.int))) : Dp K H (.ref a) (.list (ns.map PyData.int)) := by
  refine .lst (.inl (.inl h)) ?_
  clear h
  induction ns with
  | nil => exact .nil
  | cons n r ih => exact .cons (.int _) ih
theorem sel {c : Bool} {P Q : Prop} (h : c = true → P) (k : c = false → Q) : if c = true then P else Q := by
  cases c with
  | true => exact h rfl
  | false => exact k rfl
theorem canLay_ints : ∀ ns : List Int, PyData.canLayAll0 (ns.map PyData.int) = true
  | [] => rfl
  | n :: r => by simp [PyData.canLayAll0, PyData.canLay0, canLay_ints r]
theorem depth_ints : ∀ ns : List Int, PyData.depthAll (ns.map PyData.int) = 0
  | [] => rfl
  | n :: r => by simp [PyData.depthAll, PyData.depth, depth_ints r]
theorem shaped_ints (ns : List Int) : SeqAt.shaped (.list (ns.map PyData.int)) = true := by
  simp [SeqAt.shaped, PyData.canLay0, canLay_ints, PyData.depth, depth_ints]
/-! ## the maker of the resource -/
section
variable {X : Cx} {K : PySem.W.Frag}
theorem pss_then {R : Res} {st : Stmt} {rest : List Stmt} {w : WS} {T : TS} (h : SS R X st w) (t : PSs X rest T) (B : Bs) : PSs X (st :: rest) (fun D σ H => ∃ ρ G, Rel R X.K B G ρ σ H ∧ w (enL R X.K B G { D with nx := T D }) ρ) :=
  PSs.imp (pss_cons (h.ps B) t) fun D σ H q => q
theorem Iss.intsV {K : PySem.W.Frag} {G : Hp} : ∀ {ys : List Int} {vs : List V}, Iss K G vs (ys.map PyData.int) → vs = ys.map V.int
  | [], _, h => by cases h; rfl
  | y :: ys, _, h => by
    cases h with
    | cons h1 h2 =>
      cases h1
      rw [Iss.intsV h2]
      rfl
/-- what the maker's last row asks -/
def mkT (R0 : Res) (K : PySem.W.Frag) (B : Bs) (i : Nat) (w : WE) : TS := fun D σ H => ∃ ρ G, Rel R0 K B G ρ σ H ∧ w ρ fun d ρ' => (∃ fs : List Int, d = .list (fs.map PyData.int) ∧ fs.length ≤ 63) ∧ (∃ s : Int, ρ'[i]? = some (.d (.int s))) ∧
  ∀ la fp H', (∀ b o, B.H0 b = some o → b ∉ B.fp → H' b = some o) → loomR.ok H' la fp → (∀ b ∈ fp, B.H0 b = none) → D.rt (.ref la) H'
theorem ps_mk {R0 : Res} {lc : Expr} {w : WE} {i : Nat} {x : Str} {p1 p2 p3 p4 p5 p6 p7 : Pos} {j1 j2 j3 j4 : Nat} (h : SF R0 X lc w) (hx : PE X (.Name x p4) (tVar i)) (B : Bs) :
    PS X (.Return (some (.Dict [some (.Constant (.str "far") j1 p1), some (.Constant (.str "stirred") j2 p2), some (.Constant (.str "times") j3 p3)] [lc, .Name x p4, .Constant (.int 0) j4 p5] p6)) p7) (mkT R0 X.K B i w) := by
  refine PS.imp (ps_ret (pe_disp (trs := [(tC (.str "far"), fun σ H Q => ∃ B, liftF R0 X.K B w σ H Q), (tC (.str "stirred"), tVar i), (tC (.str "times"), tC (.int 0))]) (pps_cons pe_str ⟨fun pins s σ H Q I ⟨B, q⟩ => (h.pe B).run pins s σ H Q I q⟩ (pps_cons pe_str hx (pps_cons pe_str pe_int pps_nil))) (by rfl) (by rfl) (by simp) (by show 3 ≤ 15; decide))) fun D σ H ⟨ρ, G, r, q⟩ => ?_
  intro p np
  have g0 : B.G0 p = none := by
    cases z : B.G0 p with
    | none => rfl
    | some o =>
      have := r.sub _ _ (r.g0 _ _ z)
      rw [np] at this
      cases this
  have nf : p ∉ B.fp := fun hb => (r.fp0 p hb).2.2 np
  have h0p : B.H0 p = none := r.h0 np
  refine ⟨B.wthH p (.dK []), ρ, G, r.beginH (oo := .dK []) np, h.mono ρ _ _ (fun d ρ' ⟨⟨fs, ed, hl⟩, ⟨s, hs⟩, q⟩ v G' H' sg r' nw => ?_) q⟩
  subst ed
  obtain ⟨a, ho, rfl, ga, ha0, hHa, hown, _⟩ := nw
  obtain ⟨hD, gD⟩ := r'.apartH g0 nf
  have nap : a ≠ p := fun z => by
    rw [z, show (B.wthH p (.dK [])).H0 p = some (.dK []) from upd_same] at ha0
    cases ha0
  have ha0' : B.H0 a = none := by
    rw [show (B.wthH p (.dK [])).H0 a = B.H0 a from upd_ne nap] at ha0
    exact ha0
  obtain ⟨u, eu, iu⟩ := r'.d i _ hs
  have := iu.intV
  subst this
  cases hown with
  | lst hv =>
    have e := hv.intsV
    subst e
    refine ⟨_, eu, hD, [(.inr "far", .ref a), (.inr "stirred", .int s), (.inr "times", .int 0)], rfl, (show 3 ≤ 15 by decide), ?_⟩
    refine q p [p, a] _ (fun b o e hb => ?_) ⟨a, fs, s, 0, rfl, fun z => nap z.symm, upd_same, by rw [upd_ne nap]; exact hHa, hl⟩ (fun b hb => ?_)
    · have hbp : b ≠ p := fun z => by
        rw [z, h0p] at e
        cases e
      rw [upd_ne hbp]
      exact r'.fr b o (by rw [show (B.wthH p (.dK [])).H0 b = B.H0 b from upd_ne hbp]; exact e) hb
    · rcases List.mem_cons.mp hb with z | z
      · rw [z]
        exact h0p
      · rw [List.mem_singleton.mp z]
        exact ha0'
end
theorem mk_of {X : Cx} {s1 s2 : Stmt} {lc : Expr} {w1 w2 : WS} {w3 : WE} {i : Nat} {x : Str} {p1 p2 p3 p4 p5 p6 p7 : Pos} {j1 j2 j3 j4 : Nat} {B : Bs} (h1 : SS loomR X s1 w1) (h2 : SS loomR X s2 w2) (h3 : SF loomR X lc w3) (hx : PE X (.Name x p4) (tVar i)) :
    ∃ T, PSs X [s1, s2, .Return (some (.Dict [some (.Constant (.str "far") j1 p1), some (.Constant (.str "stirred") j2 p2), some (.Constant (.str "times") j3 p3)] [lc, .Name x p4, .Constant (.int 0) j4 p5] p6)) p7] T ∧
      (∀ D σ H, (∃ ρ G, Rel loomR X.K B G ρ σ H ∧ w1 (enL loomR X.K B G { D with nx := fun σ1 H1 => ∃ ρ1 G1, Rel loomR X.K B G1 ρ1 σ1 H1 ∧ w2 (enL loomR X.K B G1 { D with nx := mkT loomR X.K B i w3 D }) ρ1 }) ρ) → T D σ H) ∧ MonoS w1 ∧ MonoS w2 ∧ MonoE w3 :=
  ⟨_, pss_then h1 (pss_then h2 (pss_one (ps_mk h3 hx B)) B) B, fun D σ H h => h, h1.mono, h2.mono, h3.mono⟩
section
variable {P : Program} {w : World} {K : PySem.W.Frag} {mg : Str → Option Value} {base : Heap} {k : Nat}
/-- THE MAKER: two rows, then the dict -/
theorem mk_gd {x qual : Str} {st : Stmt} {f : Addr} {fd : FuncData} {N : List Str} {p : Str} {w1 w2 : WS} {w3 : WE} {i : Nat} (F : Fun K x qual st f fd) (Sc : FnScope N [p] (defScope st))
    (hb : ∀ (cdv : Value) (A : Around) (outer : List PySem.Env) (s : Shared) (H : Hp) (E : XK), (A.deeper (envOfC qual (defScope st) s.heap.objs.size f cdv)).guards = some [] → Room k (A.deeper (envOfC qual (defScope st) s.heap.objs.size f cdv)) →
      ∃ T, PSs (cxOf CX0 P w K mg base N qual (defScope st) f cdv A outer s H E).nox (defBody st) T ∧ (∀ D σ H', (∃ ρ G, Rel loomR K ⟨H, H, [], 0, false⟩ G ρ σ H' ∧ w1 (enL loomR K ⟨H, H, [], 0, false⟩ G { D with nx := fun σ1 H1 => ∃ ρ1 G1, Rel loomR K ⟨H, H, [], 0, false⟩ G1 ρ1 σ1 H1 ∧ w2 (enL loomR K ⟨H, H, [], 0, false⟩ G1 { D with nx := mkT loomR K ⟨H, H, [], 0, false⟩ i w3 D }) ρ1 }) ρ) → T D σ H') ∧ MonoS w1 ∧ MonoS w2 ∧ MonoE w3)
    (hq : ∀ ns : List Int, ns.length ≤ 63 → w1 ⟨fun ρ1 => w2 ⟨fun ρ2 => w3 ρ2 fun d ρ3 => (∃ fs : List Int, d = .list (fs.map PyData.int) ∧ fs.length ≤ 63) ∧ (∃ s : Int, ρ3[i]? = some (.d (.int s))), fun _ => False, fun _ => False, fun _ => False⟩ ρ1, fun _ => False, fun _ => False, fun _ => False⟩ (entry N [.scr ns])) :
    GFn P w K mg base CX0 (k + 1) f fd [p] (spMk loomR K) := by
  obtain ⟨oc, od, kV, doc, pm, an, cdv, ct, osl, rfl, lk, hcd⟩ := F.ex
  refine gfn_of lk hcd Sc (fun vs H Q E h => ?_) fun A outer s H vs Q E hg hr h => ?_
  · obtain ⟨a, ns, rfl, _⟩ := h
    rfl
  obtain ⟨T, hT, hb, m1, m2, m3⟩ := hb cdv A outer s H E hg hr
  obtain ⟨a, ns, rfl, hS, hl, q⟩ := h
  have hr0 : Rel loomR K ⟨H, H, [], 0, false⟩ H (entry N [.scr ns]) (L2.start N [.ref a]) H :=
    Rel.entry (la := 0) (fp := []) (as := [.scr ns]) (Same.refl H) (.cons (show Arg1 K H 0 (.ref a) (.scr ns) from ⟨a, rfl, hS⟩) .nil) (fun b hb => absurd hb (by simp)) (fun z => absurd z Bool.false_ne_true)
  refine ⟨T, hT.nox, hb _ _ _ ⟨_, H, hr0, m1 _ _ _ ⟨fun ρ1 q1 σ1 G1 H1 s1 r1 => ⟨ρ1, G1, r1, m2 _ _ _ ⟨fun ρ2 q2 σ2 G2 H2 s2 r2 => ⟨ρ2, G2, r2, m3 _ _ _ (fun d ρ3 ⟨z1, z2⟩ => ⟨z1, z2, fun la fp H' hh ok new => ?_⟩) q2⟩, fun _ => False.elim, fun _ => False.elim, fun _ => False.elim⟩ q1⟩, fun _ => False.elim, fun _ => False.elim, fun _ => False.elim⟩ (hq ns hl)⟩⟩
  exact q la fp H' (fun b o e => hh b o e (by simp)) ok new
end
/-! ## the script, read -/
@[simp] def wScrSl (i : Nat) (n : Int) : WE := fun ρ Q => ∃ ns : List Int, ρ[i]? = some (.scr ns) ∧ ns.length ≤ n.toNat ∧ Q (.list (ns.map PyData.int)) ρ
@[simp] def wScrLen (i : Nat) : WE := fun ρ Q => ∃ ns : List Int, ρ[i]? = some (.scr ns) ∧ Q (.int ns.length) ρ
section
variable {R : Res} {X : Cx} {i : Nat} {x : Str} {p p2 p3 pos : Pos} {n : Int} {j : Nat}
theorem se_scrSl (h : PE X (.Name x p) (tVar i)) (hn : 0 ≤ n) : SE R X (.Subscript (.Name x p) (.Slice none (some (.Constant (.int n) j p2)) none p3) pos) (wScrSl i n) := by
  refine ⟨fun B => PE.imp (pe_slice sl_list h po_none (po_some pe_int)) fun σ H Q ⟨ρ, G, r, ns, e, hl, q⟩ => ?_, fun ρ Q Q' hq ⟨ns, e, hl, q⟩ => ⟨ns, e, hl, hq _ _ q⟩⟩
  obtain ⟨a, e1, sa⟩ := r.s i _ e
  refine ⟨_, e1, n, rfl, a, _, rfl, Same.seq r.sub sa, fun p np => ?_⟩
  have hc : cutV (ns.map V.int) none (some n) = ns.map V.int := by
    unfold cutV
    rw [HT.sIx_none, List.drop_zero]
    have : HT.sIx (ns.map V.int).length (ns.map V.int).length (some n) = (ns.map V.int).length := by
      show (if n < 0 then _ else min n.toNat (ns.map V.int).length) = _
      rw [if_neg (by omega), List.length_map]
      omega
    rw [this]
    simp [← List.map_take]
  rw [hc]
  have sg : Sub G (upd G p (.lst (ns.map V.int))) := upd_new (r.sub.free np)
  exact q _ _ _ sg (r.laid np) (.lst upd_same (Iss.ints ns))
theorem se_scrLen (hg : Gl X "len") (hm : X.mg "len" = none) (h : PE X (.Name x p) (tVar i)) (he : starEach [Expr.Name x p] X.env = (false, eval (.Name x p) X.env) :: starEach [] X.env := by rfl) (hpl : (backTo pos (starEach [] X.env)).any (·.1) = false := by rfl) : SE R X (.Call (.Name "len" p2) [.Name x p] [] pos) (wScrLen i) := by
  refine ⟨fun B => PE.imp (pe_callB call_len hg hm (by decide +kernel) (pa_cons h pa_nil he) (by decide) (by decide) he hpl) fun σ H Q ⟨ρ, G, r, ns, e, q⟩ => ?_, fun ρ Q Q' hq ⟨ns, e, q⟩ => ⟨ns, e, hq _ _ q⟩⟩
  obtain ⟨a, e1, sa⟩ := r.s i _ e
  refine ⟨_, e1, _, _, rfl, .inl ⟨_, Same.seq r.sub sa, rfl⟩, ?_⟩
  rw [List.length_map]
  exact q _ G H (Same.refl G) r (.int _)
end
end DL
namespace DL
open PySem PySem.Spec PyProof.Rows L2
/-! ## reading what a def asks -/
theorem wLoop_nil {g : WG} {b : WS} {D : En} {ρ : Sls} : wLoop g b [] D ρ = D.nx ρ := rfl
theorem wLoop_cons {g : WG} {b : WS} {D : En} {ρ : Sls} {x : PyData} {xs : List PyData} : wLoop g b (x :: xs) D ρ = g x ρ fun ρ1 => b { D with nx := wLoop g b xs D, ct := wLoop g b xs D, bk := D.nx } ρ1 := rfl
theorem wLcL_nil {g : WG} {tt : WT} {te : WE} {vs : List Nat} {ρ0 ρ : Sls} {acc : List PyData} {Q : List PyData → Sls → Prop} : wLcL g tt te vs ρ0 [] acc ρ Q = Q acc (backS ρ0 ρ vs) := rfl
theorem wLcL_cons {g : WG} {tt : WT} {te : WE} {vs : List Nat} {ρ0 ρ : Sls} {x : PyData} {xs acc : List PyData} {Q : List PyData → Sls → Prop} : wLcL g tt te vs ρ0 (x :: xs) acc ρ Q =
  g x (wipS ρ vs) fun ρ1 => tt ρ1 fun c ρ2 => if c = true then te ρ2 fun d ρ3 => acc.length < sizeLine ∧ wLcL g tt te vs ρ0 xs (acc ++ [d]) ρ3 Q else wLcL g tt te vs ρ0 xs acc ρ2 Q := rfl
end DL
namespace DL
open PySem PySem.Spec PyProof.Rows L2
/-! ## how long the text of a value may be -/
mutual
def wt : PyData → Nat
  | .none => 4
  | .bool _ => 5
  | .int i => (PyData.int i).shown.length
  | .str x => (PyData.str x).shown.length
  | .list xs => wtAll xs + 2
  | .tuple xs => wtAll xs + 3
  | .dict kvs => wtKv kvs + 2
def wtAll : List PyData → Nat
  | [] => 0
  | x :: xs => wt x + 2 + wtAll xs
def wtKv : List (PyData × PyData) → Nat
  | [] => 0
  | (k, v) :: r => wt k + wt v + 4 + wtKv r
end
def lenAll : List Str → Nat
  | [] => 0
  | x :: xs => x.length + 2 + lenAll xs
theorem textFrom_le : ∀ (ts : List Str) (k : Nat) (acc : Str), (textFrom k acc ts).length ≤ acc.length + lenAll ts
  | [], k, acc => Nat.le_refl _
  | t :: r, k, acc => by
    have h := textFrom_le r (k + 1) (acc ++ (if k > 0 then ", " else "" : String) ++ t)
    have e : (acc ++ (if k > 0 then ", " else "" : String) ++ t).length = acc.length + (if k > 0 then 2 else 0) + t.length := by
      rw [strLen_append, strLen_append]
      split <;> rfl
    rw [e] at h
    show (textFrom (k + 1) (acc ++ (if k > 0 then ", " else "" : String) ++ t) r).length ≤ acc.length + (t.length + 2 + lenAll r)
    have b : (if k > 0 then 2 else 0 : Nat) ≤ 2 := by split <;> omega
    omega
theorem listText_le (ts : List Str) : (listText ts).length ≤ lenAll ts + 2 := by
  have h := textFrom_le ts 0 "["
  have e : (listText ts).length = (textFrom 0 "[" ts).length + 1 := by
    unfold listText
    rw [strLen_append]
    rfl
  have e2 : (("[" : String) : Str).length = 1 := rfl
  rw [e2] at h
  omega
theorem piled_eq : ∀ ts : List Str, piled ts = lenAll ts
  | [] => by simp [piled, lenAll]
  | x :: r => by
    rw [piled_cons, piled_eq r]
    simp [lenAll]
theorem join_le (ts : List Str) : (Str.join ", " ts).length ≤ lenAll ts := by
  by_cases h : ts = []
  · subst h
    exact Nat.le_refl _
  · have := join_length_add ts h
    rw [piled_eq] at this
    omega
theorem tupleText_le (ts : List Str) : (tupleText ts).length ≤ lenAll ts + 3 := by
  have h := join_le ts
  have e : (tupleText ts).length = 1 + (Str.join ", " ts).length + (if ts.length == 1 then 2 else 1) := by
    unfold tupleText
    rw [strLen_append, strLen_append]
    split <;> rfl
  rw [e]
  split <;> omega
theorem dictText_le (ts : List Str) : (dictText ts).length ≤ lenAll ts + 2 := by
  have h := join_le ts
  have e : (dictText ts).length = 1 + (Str.join ", " ts).length + 1 := by
    unfold dictText
    rw [strLen_append, strLen_append]
    rfl
  omega
mutual
theorem shown_le : ∀ d : PyData, d.shown.length ≤ wt d
  | .none => by
    show (("None" : String) : Str).length ≤ 4
    decide
  | .bool b => by
    cases b
    · show (("False" : String) : Str).length ≤ 5
      decide
    · show (("True" : String) : Str).length ≤ 5
      decide
  | .int i => Nat.le_refl _
  | .str x => Nat.le_refl _
  | .list xs => by
    have h := listText_le (PyData.shownAll xs)
    have h2 := shownAll_le xs
    simp only [PyData.shown, wt]
    omega
  | .tuple xs => by
    have h := tupleText_le (PyData.shownAll xs)
    have h2 := shownAll_le xs
    simp only [PyData.shown, wt]
    omega
  | .dict kvs => by
    have h := dictText_le (PyData.shownKv kvs)
    have h2 := shownKv_le kvs
    simp only [PyData.shown, wt]
    omega
theorem shownAll_le : ∀ ds : List PyData, lenAll (PyData.shownAll ds) ≤ wtAll ds
  | [] => by simp [PyData.shownAll, lenAll]
  | d :: ds => by
    have h := shown_le d
    have h2 := shownAll_le ds
    simp only [PyData.shownAll, lenAll, wtAll]
    omega
theorem shownKv_le : ∀ ds : List (PyData × PyData), lenAll (PyData.shownKv ds) ≤ wtKv ds
  | [] => by simp [PyData.shownKv, lenAll]
  | (k, d) :: ds => by
    have h := shown_le k
    have h1 := shown_le d
    have h2 := shownKv_le ds
    simp only [PyData.shownKv, lenAll, wtKv, strLen_append]
    have e2 : ((": " : String) : Str).length = 2 := rfl
    omega
end
/-! ### values that may be shown -/
structure Sz (m n : Nat) (d : PyData) : Prop where
  sh : d.showable = true
  dp : d.depth ≤ m
  wt : wt d ≤ n
structure SzA (m n : Nat) (ds : List PyData) : Prop where
  sh : PyData.showableAll ds = true
  dp : PyData.depthAll ds ≤ m
  wt : wtAll ds ≤ n
theorem Sz.le {m n m' n' : Nat} {d : PyData} (h : Sz m n d) (a : m ≤ m') (b : n ≤ n') : Sz m' n' d := ⟨h.sh, Nat.le_trans h.dp a, Nat.le_trans h.wt b⟩
theorem SzA.le {m n m' n' : Nat} {d : List PyData} (h : SzA m n d) (a : m ≤ m') (b : n ≤ n') : SzA m' n' d := ⟨h.sh, Nat.le_trans h.dp a, Nat.le_trans h.wt b⟩
theorem Sz.of_list {m n : Nat} {ds : List PyData} : Sz (m + 1) (n + 2) (.list ds) ↔ SzA m n ds :=
  ⟨fun h => ⟨by simpa [PyData.showable] using h.sh, by have := h.dp; simpa [PyData.depth] using this, by have := h.wt; simp [DL.wt] at this; omega⟩,
    fun h => ⟨by simpa [PyData.showable] using h.sh, by have := h.dp; simpa [PyData.depth] using this, by have := h.wt; simp [DL.wt]; omega⟩⟩
theorem Sz.of_tup {m n : Nat} {ds : List PyData} : Sz (m + 1) (n + 3) (.tuple ds) ↔ SzA m n ds :=
  ⟨fun h => ⟨by simpa [PyData.showable] using h.sh, by have := h.dp; simpa [PyData.depth] using this, by have := h.wt; simp [DL.wt] at this; omega⟩,
    fun h => ⟨by simpa [PyData.showable] using h.sh, by have := h.dp; simpa [PyData.depth] using this, by have := h.wt; simp [DL.wt]; omega⟩⟩
theorem SzA.nil {m n : Nat} : SzA m n [] := ⟨rfl, Nat.zero_le _, Nat.zero_le _⟩
theorem SzA.cons {m n k : Nat} {d : PyData} {ds : List PyData} (h : Sz m n d) (t : SzA m k ds) : SzA m (n + 2 + k) (d :: ds) :=
  ⟨by simp [PyData.showableAll, h.sh, t.sh], by have h1 := h.dp; have h2 := t.dp; simp [PyData.depthAll]; omega, by have h1 := h.wt; have h2 := t.wt; simp [wtAll]; omega⟩
theorem wtAll_append : ∀ xs ys : List PyData, wtAll (xs ++ ys) = wtAll xs + wtAll ys
  | [], ys => by simp [wtAll]
  | x :: xs, ys => by
    simp only [List.cons_append, wtAll, wtAll_append xs ys]
    omega
theorem showAll_append : ∀ xs ys : List PyData, PyData.showableAll (xs ++ ys) = (PyData.showableAll xs && PyData.showableAll ys)
  | [], ys => by simp [PyData.showableAll]
  | x :: xs, ys => by
    simp only [List.cons_append, PyData.showableAll, showAll_append xs ys, Bool.and_assoc]
theorem depthAll_append : ∀ xs ys : List PyData, PyData.depthAll (xs ++ ys) = max (PyData.depthAll xs) (PyData.depthAll ys)
  | [], ys => by simp [PyData.depthAll]
  | x :: xs, ys => by
    simp only [List.cons_append, PyData.depthAll, depthAll_append xs ys]
    omega
theorem SzA.append {m n k : Nat} {xs ys : List PyData} (h : SzA m n xs) (t : SzA m k ys) : SzA m (n + k) (xs ++ ys) :=
  ⟨by rw [showAll_append, h.sh, t.sh]; rfl, by rw [depthAll_append]; have h1 := h.dp; have h2 := t.dp; omega, by rw [wtAll_append]; have h1 := h.wt; have h2 := t.wt; omega⟩
theorem SzA.parts {m n : Nat} {xs ys : List PyData} (h : SzA m n (xs ++ ys)) : SzA m n xs ∧ SzA m n ys := by
  obtain ⟨h1, h2, h3⟩ := h
  rw [showAll_append, Bool.and_eq_true] at h1
  rw [depthAll_append] at h2
  rw [wtAll_append] at h3
  exact ⟨⟨h1.1, by omega, by omega⟩, ⟨h1.2, by omega, by omega⟩⟩
theorem SzA.take {m n : Nat} {xs : List PyData} (h : SzA m n xs) (i : Nat) : SzA m n (xs.take i) := (SzA.parts (ys := xs.drop i) (by rw [List.take_append_drop]; exact h)).1
theorem SzA.drop {m n : Nat} {xs : List PyData} (h : SzA m n xs) (i : Nat) : SzA m n (xs.drop i) := (SzA.parts (xs := xs.take i) (by rw [List.take_append_drop]; exact h)).2
theorem SzA.len {m n : Nat} {xs : List PyData} (h : SzA m n xs) : 2 * xs.length ≤ n := by
  have : ∀ ys : List PyData, 2 * ys.length ≤ wtAll ys := fun ys => by
    induction ys with
    | nil => simp
    | cons y ys ih =>
      simp only [List.length_cons, wtAll]
      omega
  exact Nat.le_trans (this xs) h.wt
theorem SzA.mem {m n : Nat} : ∀ {xs : List PyData} {x : PyData}, SzA m n xs → x ∈ xs → Sz m n x
  | y :: ys, x, h, hx => by
    obtain ⟨h1, h2, h3⟩ := h
    simp only [PyData.showableAll, Bool.and_eq_true] at h1
    simp only [PyData.depthAll] at h2
    simp only [wtAll] at h3
    rcases List.mem_cons.mp hx with rfl | hx
    · exact ⟨h1.1, by omega, by omega⟩
    · exact SzA.mem ⟨h1.2, by omega, by omega⟩ hx
theorem SzA.all {m n k : Nat} : ∀ {xs : List PyData}, (∀ x ∈ xs, Sz m n x) → xs.length ≤ k → SzA m ((n + 2) * k) xs
  | [], _, _ => .nil
  | x :: xs, h, hl => by
    cases k with
    | zero => simp at hl
    | succ k =>
      have t := SzA.all (k := k) (fun y hy => h y (List.mem_cons_of_mem _ hy)) (by simpa using hl)
      have := SzA.cons (h x List.mem_cons_self) t
      refine this.le (Nat.le_refl _) ?_
      rw [Nat.mul_succ]
      omega
theorem SzA.rev {m n : Nat} {xs : List PyData} (h : SzA m n xs) : SzA m n xs.reverse := by
  have e1 : ∀ ys : List PyData, wtAll ys.reverse = wtAll ys := fun ys => by
    induction ys with
    | nil => rfl
    | cons y ys ih => rw [List.reverse_cons, wtAll_append, ih]; simp [wtAll]; omega
  have e2 : ∀ ys : List PyData, PyData.showableAll ys.reverse = PyData.showableAll ys := fun ys => by
    induction ys with
    | nil => rfl
    | cons y ys ih => rw [List.reverse_cons, showAll_append, ih]; simp [PyData.showableAll, Bool.and_comm]
  have e3 : ∀ ys : List PyData, PyData.depthAll ys.reverse = PyData.depthAll ys := fun ys => by
    induction ys with
    | nil => rfl
    | cons y ys ih => rw [List.reverse_cons, depthAll_append, ih]; simp [PyData.depthAll]; omega
  exact ⟨by rw [e2]; exact h.sh, by rw [e3]; exact h.dp, by rw [e1]; exact h.wt⟩
/-- may be shown, with room -/
theorem Sz.ok {m n : Nat} {d : PyData} (h : Sz m n d) (hm : m ≤ 60) (hn : n ≤ 16777216) : d.showable = true ∧ d.depth ≤ 60 ∧ d.shown.length ≤ sizeLine := by
  refine ⟨h.sh, Nat.le_trans h.dp hm, Nat.le_trans (Nat.le_trans (shown_le d) h.wt) ?_⟩
  rw [sizeLine_eq]
  omega
theorem cut_eq (ds : List PyData) (lo hi : Option Int) : ∃ i j, cutD ds lo hi = (ds.drop i).take j := ⟨_, _, rfl⟩
theorem SzA.cut {m n : Nat} {xs : List PyData} (h : SzA m n xs) (lo hi : Option Int) : SzA m n (cutD xs lo hi) := (h.drop _).take _
/-! ### small facts -/
@[simp] theorem shaped_int (i : Int) : SeqAt.shaped (.int i) = true := rfl
@[simp] theorem shaped_bool (b : Bool) : SeqAt.shaped (.bool b) = true := rfl
@[simp] theorem shaped_none : SeqAt.shaped .none = true := rfl
@[simp] theorem shaped_nil : SeqAt.shaped (.list []) = true := rfl
@[simp] theorem eqv_int (i j : Int) : PyData.eqv (.int i) (.int j) = (i == j) := by simp [PyData.eqv]
@[simp] theorem eqv_str (x y : Str) : PyData.eqv (.str x) (.str y) = (x == y) := by simp [PyData.eqv]
@[simp] theorem eqv_bool (x y : Bool) : PyData.eqv (.bool x) (.bool y) = (x == y) := by simp [PyData.eqv]
@[simp] theorem size_small {n : Nat} (h : n ≤ 1000) : n ≤ sizeLine := Nat.le_trans h (by decide)
/-- the value may be shown so, told by a count -/
def szB (m n : Nat) (d : PyData) : Bool := d.showable && decide (d.depth ≤ m) && decide (wt d ≤ n)
theorem szB_ok {m n : Nat} {d : PyData} (h : szB m n d = true) : Sz m n d := by
  unfold szB at h
  simp only [Bool.and_eq_true, decide_eq_true_eq] at h
  exact ⟨h.1.1, h.1.2, h.2⟩
theorem szB_all {m n : Nat} {ds : List PyData} (h : (ds.all (szB m n)) = true) : ∀ d ∈ ds, Sz m n d := fun d hd => szB_ok (List.all_eq_true.mp h d hd)
theorem sz_int {i : Int} (h0 : 0 ≤ i) (h1 : i < 100) : Sz 0 3 (.int i) := by
  have : ∀ n : Fin 100, szB 0 3 (.int (n.val : Int)) = true := by decide +kernel
  have h := this ⟨i.toNat, by omega⟩
  have e : ((i.toNat : Nat) : Int) = i := by omega
  rw [show ((⟨i.toNat, by omega⟩ : Fin 100).val : Int) = i from e] at h
  exact szB_ok h
theorem pick_at {ds : List PyData} {r : Int} (h : drawn ds.length r) (h0 : 0 < ds.length) : ∃ d, L2.atI ds r = some d ∧ d ∈ ds := by
  have hr : 0 ≤ r ∧ r < ds.length := by
    rcases h with ⟨a, b⟩ | ⟨a, b, c⟩
    · omega
    · exact ⟨b, c⟩
  have hn : r.toNat < ds.length := by omega
  refine ⟨ds[r.toNat], ?_, List.getElem_mem hn⟩
  have e : ((r.toNat : Nat) : Int) = r := by omega
  have h2 := L2.atI_nat (List.getElem?_eq_getElem hn)
  rw [e] at h2
  exact h2
theorem size_large {n : Nat} (h : n ≤ 10000000) : n ≤ sizeLine := Nat.le_trans h (by decide)
theorem cut_len (ds : List PyData) (lo hi : Option Int) : (cutD ds lo hi).length ≤ ds.length := by
  obtain ⟨i, j, e⟩ := cut_eq ds lo hi
  rw [e, List.length_take, List.length_drop]
  omega
theorem SzA.mono1 {m n : Nat} {xs : List PyData} (h : SzA m n xs) : SzA (max m 2) n xs := h.le (by omega) (Nat.le_refl _)
theorem SzA.tup {m n k : Nat} {xs : List PyData} (h : SzA m n xs) (hk : n + 3 ≤ k) : Sz (m + 1) k (.tuple xs) := (Sz.of_tup.mpr h).le (Nat.le_refl _) hk
theorem SzA.lst {m n k : Nat} {xs : List PyData} (h : SzA m n xs) (hk : n + 2 ≤ k) : Sz (m + 1) k (.list xs) := (Sz.of_list.mpr h).le (Nat.le_refl _) hk
end DL
namespace DL
open PySem PySem.Spec PyProof.Rows L2
/-! ## cells of one's own, changed -/
section
variable {R : Res} {K : PySem.W.Frag} {B : Bs} {G : Hp} {ρ : Sls} {σ : L2.St} {H : Hp}
theorem Rel.put (r : Rel R K B G ρ σ H) {i : Nat} {a : Addr} {ho' : HO} {x x' : PyData} (h : ρ[i]? = some (.own x)) (ha : σ[i]? = some (some (.ref a))) (w : Own1 K G a ho' x') : Rel R K B G (ρ.set i (.own x')) σ (upd H a ho') := by
  obtain ⟨a', ho, e1, e2, e3, e4, e5, e6⟩ := r.o i x h
  rw [ha] at e1
  cases e1
  have hil : i < ρ.length := (List.getElem?_eq_some_iff.mp h).1
  have own : ∀ (j : Nat) (y : PyData), (ρ.set i (.own x'))[j]? = some (.own y) → (i = j ∧ y = x') ∨ (i ≠ j ∧ ρ[j]? = some (.own y)) := fun j y e => by
    rcases set_at e with ⟨z1, z2⟩ | z
    · cases z2
      exact .inl ⟨z1, rfl⟩
    · exact .inr z
  have own' : ∀ (j : Nat) (y : PyData), (ρ.set i (.own x'))[j]? = some (.own y) → ∃ y', ρ[j]? = some (.own y') := fun j y e => by
    rcases own j y e with ⟨z1, _⟩ | ⟨_, z2⟩
    · subst z1
      exact ⟨x, h⟩
    · exact ⟨y, z2⟩
  refine ⟨r.sub.up e2, by rw [List.length_set]; exact r.len, r.g0, r.new, fun b o e hb => ?_, fun b hb => ?_, fun j y e => ?_, fun j y e => ?_, fun j y e => ?_, ?_⟩
  · have nb : b ≠ a := fun z => by
      rw [z, e3] at e
      cases e
    rw [upd_ne nb]
    exact r.fr b o e hb
  · have nb : b ≠ a := fun z => (r.fp0 b hb).2.1 (by rw [z]; exact e3)
    rw [upd_ne nb]
    exact r.fp0 b hb
  · rcases set_at e with ⟨_, z⟩ | ⟨_, z⟩
    · cases z
    · exact r.d j y z
  · rcases set_at e with ⟨_, z⟩ | ⟨_, z⟩
    · cases z
    · exact r.s j y z
  · rcases own j y e with ⟨z1, z2⟩ | ⟨z1, z2⟩
    · subst z1 z2
      exact ⟨a, ho', ha, e2, e3, upd_same, w, fun l z h1 h2 => by
        obtain ⟨z', h1'⟩ := own' l z h1
        exact e6 l z' h1' h2⟩
    · obtain ⟨c, hc, q1, q2, q3, q4, q5, q6⟩ := r.o j y z2
      have nc : c ≠ a := fun z => by
        subst z
        exact z1 (e6 j y z2 q1).symm
      exact ⟨c, hc, q1, q2, q3, by rw [upd_ne nc]; exact q4, q5, fun l z h1 h2 => by
        obtain ⟨z', h1'⟩ := own' l z h1
        exact q6 l z' h1' h2⟩
  · obtain ⟨la, fp, q⟩ := r.l
    have nb : ∀ b ∈ fp, b ≠ a := fun b hb z => (q.pf b hb).2.2.2 i x h (by rw [z]; exact ha)
    have lo : ∀ (j : Nat), (ρ.set i (.own x'))[j]? = some .loom → ρ[j]? = some .loom := fun j e => by
      rcases set_at e with ⟨_, z⟩ | ⟨_, z⟩
      · cases z
      · exact z
    refine ⟨la, fp, fun j e => q.pl j (lo j e), fun z => R.loc H _ la fp (fun b hb => upd_ne (nb b hb)) (q.ok (z.imp (fun ⟨j, e⟩ => ⟨j, lo j e⟩) id)), fun b hb => ?_, q.tie⟩
    obtain ⟨z1, z0, z2, z3⟩ := q.pf b hb
    rw [upd_ne (nb b hb)]
    refine ⟨z1, z0, z2, fun j y e => ?_⟩
    obtain ⟨y', e'⟩ := own' j y e
    exact z3 j y' e'
/-- the cell of an own list -/
theorem Rel.ownL (r : Rel R K B G ρ σ H) {i : Nat} {ds : List PyData} (h : ρ[i]? = some (.own (.list ds))) : ∃ a vs, σ[i]? = some (some (.ref a)) ∧ H a = some (.lst vs) ∧ Iss K G vs ds := by
  obtain ⟨a, ho, e1, _, _, e4, e5, _⟩ := r.o i _ h
  cases e5 with
  | lst hv => exact ⟨a, _, e1, e4, hv⟩
theorem tyL {K : PySem.W.Frag} {a : Addr} {vs : List V} {H : Hp} (h : H a = some (.lst vs)) : tyV K "list" (.ref a) H := .inl ⟨rfl, vs, .inl (.inl h)⟩
end
@[simp] def wApp (i : Nat) (w : WE) : WE := fun ρ Q => (∃ ds, ρ[i]? = some (.own (.list ds))) ∧ w ρ fun d ρ1 => ∃ ds, ρ1[i]? = some (.own (.list ds)) ∧ ds.length < sizeLine ∧ Q .none (ρ1.set i (.own (.list (ds ++ [d]))))
@[simp] def wPop (i : Nat) : WE := fun ρ Q => ∃ ds d, ρ[i]? = some (.own (.list (ds ++ [d]))) ∧ Q d (ρ.set i (.own (.list ds)))
@[simp] def wPopAt (i : Nat) (w : WE) : WE := fun ρ Q => (∃ ds, ρ[i]? = some (.own (.list ds))) ∧ w ρ fun d ρ1 => ∃ ds k j x, d = .int k ∧ ρ1[i]? = some (.own (.list ds)) ∧ -(2 ^ 63) ≤ k ∧ k < 2 ^ 63 ∧ seqIndex? k ds.length = some j ∧ ds[j]? = some x ∧ Q x (ρ1.set i (.own (.list (ds.eraseIdx j))))
@[simp] def wExt (i : Nat) (w : WE) : WE := fun ρ Q => (∃ ds, ρ[i]? = some (.own (.list ds))) ∧ w ρ fun d ρ1 => ∃ ds es, d = .list es ∧ ρ1[i]? = some (.own (.list ds)) ∧ ds.length + es.length ≤ sizeLine ∧ Q .none (ρ1.set i (.own (.list (ds ++ es))))
section
variable {R : Res} {X : Cx} {i : Nat} {x : Str} {p apos cpos : Pos} {e : Expr} {w : WE}
theorem se_append (h : PE X (.Name x p) (tVar i)) (he : SE R X e w) (hbase : attributeBase (.Name x p) "append" X.env (eval (.Name x p) X.env) = eval (.Name x p) X.env := by rfl)
    (hfew : ((backTo cpos (starEach [e] X.env)).all (fun x => !x.1) && (backToKw cpos (keywordEach [] X.env)).all (fun x => x.1.isSome) && decide ([e].length + ([] : List Keyword).length + (if ([] : List Keyword).isEmpty then 0 else 1) < 30)) = true := by rfl)
    (hline : (apos.endLine == cpos.line) = true := by rfl) (hs : starEach [e] X.env = (false, eval e X.env) :: starEach [] X.env := by rfl) (hplain : (backTo cpos (starEach [] X.env)).any (·.1) = false := by rfl) :
    SE R X (.Call (.Attribute (.Name x p) "append" apos) [e] [] cpos) (wApp i w) := by
  refine ⟨fun B => PE.imp (pe_bm PySem.F.plainAttrs_list PySem.F.slot_list_append PySem.F.type_list_append mt_append h ((ses_cons he ses_nil hs).pa B) hbase hfew hline hs hplain) fun σ H Q ⟨ρ, G, r, ⟨ds0, e0⟩, q⟩ => ?_, fun ρ Q Q' hq ⟨z, q⟩ => ⟨z, he.mono ρ _ _ (fun d ρ1 ⟨ds, a, b, q⟩ => ⟨ds, a, b, hq _ _ q⟩) q⟩⟩
  obtain ⟨a, vs0, ea, eH, _⟩ := r.ownL e0
  refine ⟨_, ea, tyL eH, ρ, G, r, he.mono ρ _ _ (fun d ρ1 ⟨ds, e1, hl, q⟩ us G' H' s r' iv => ?_) q⟩
  obtain ⟨a', vs, ea', eH', iv'⟩ := r'.ownL e1
  rw [ea] at ea'
  cases ea'
  cases iv with
  | cons i1 i2 =>
    cases i2
    exact ⟨a, vs, _, rfl, rfl, eH', by rw [iv'.length]; exact hl, q _ G' _ s (r'.put e1 ea (.lst (iv'.append (.cons i1 .nil)))) .non⟩
theorem se_pop (h : PE X (.Name x p) (tVar i)) (hbase : attributeBase (.Name x p) "pop" X.env (eval (.Name x p) X.env) = eval (.Name x p) X.env := by rfl) (hline : (apos.endLine == cpos.line) = true := by rfl) :
    SE R X (.Call (.Attribute (.Name x p) "pop" apos) [] [] cpos) (wPop i) := by
  refine ⟨fun B => PE.imp (pe_bm0 PySem.F.plainAttrs_list PySem.F.slot_list_pop PySem.F.type_list_pop mt_pop h hbase hline) fun σ H Q ⟨ρ, G, r, ds, d, e0, q⟩ => ?_, fun ρ Q Q' hq ⟨ds, d, e, q⟩ => ⟨ds, d, e, hq _ _ q⟩⟩
  obtain ⟨a, vs, ea, eH, iv⟩ := r.ownL e0
  obtain ⟨u, eu, iu⟩ := iv.get (i := ds.length) (d := d) (by simp)
  have hl : vs.length = ds.length + 1 := by rw [iv.length]; simp
  have it : Iss X.K G vs.dropLast ds := by
    have := iv.take ds.length
    rw [List.take_left' rfl] at this
    rw [List.dropLast_eq_take, hl]
    exact this
  exact ⟨_, ea, tyL eH, a, vs, u, rfl, rfl, eH, by rw [hl]; exact eu, q u G _ (Same.refl G) (r.put e0 ea (.lst it)) iu⟩
theorem se_popAt (h : PE X (.Name x p) (tVar i)) (he : SE R X e w) (hbase : attributeBase (.Name x p) "pop" X.env (eval (.Name x p) X.env) = eval (.Name x p) X.env := by rfl)
    (hfew : ((backTo cpos (starEach [e] X.env)).all (fun x => !x.1) && (backToKw cpos (keywordEach [] X.env)).all (fun x => x.1.isSome) && decide ([e].length + ([] : List Keyword).length + (if ([] : List Keyword).isEmpty then 0 else 1) < 30)) = true := by rfl)
    (hline : (apos.endLine == cpos.line) = true := by rfl) (hs : starEach [e] X.env = (false, eval e X.env) :: starEach [] X.env := by rfl) (hplain : (backTo cpos (starEach [] X.env)).any (·.1) = false := by rfl) :
    SE R X (.Call (.Attribute (.Name x p) "pop" apos) [e] [] cpos) (wPopAt i w) := by
  refine ⟨fun B => PE.imp (pe_bm PySem.F.plainAttrs_list PySem.F.slot_list_pop PySem.F.type_list_pop mt_popAt h ((ses_cons he ses_nil hs).pa B) hbase hfew hline hs hplain) fun σ H Q ⟨ρ, G, r, ⟨ds0, e0⟩, q⟩ => ?_, fun ρ Q Q' hq ⟨z, q⟩ => ⟨z, he.mono ρ _ _ (fun d ρ1 ⟨ds, k, j, y, a, b, c, d', e, f, q⟩ => ⟨ds, k, j, y, a, b, c, d', e, f, hq _ _ q⟩) q⟩⟩
  obtain ⟨a, vs0, ea, eH, _⟩ := r.ownL e0
  refine ⟨_, ea, tyL eH, ρ, G, r, he.mono ρ _ _ (fun d ρ1 ⟨ds, k, j, y, ed, e1, k1, k2, hj, hy, q⟩ us G' H' s r' iv => ?_) q⟩
  subst ed
  obtain ⟨a', vs, ea', eH', iv'⟩ := r'.ownL e1
  rw [ea] at ea'
  cases ea'
  obtain ⟨u, eu, iu⟩ := iv'.get hy
  have it : Iss X.K G' (vs.eraseIdx j) (ds.eraseIdx j) := by
    rw [List.eraseIdx_eq_take_drop_succ, List.eraseIdx_eq_take_drop_succ]
    exact (iv'.take j).append (iv'.drop (j + 1))
  cases iv with
  | cons i1 i2 =>
    cases i2
    cases i1
    exact ⟨a, vs, k, j, u, rfl, rfl, eH', k1, k2, by rw [iv'.length]; exact hj, eu, q u G' _ s (r'.put e1 ea (.lst it)) iu⟩
theorem se_extend (h : PE X (.Name x p) (tVar i)) (he : SE R X e w) (hbase : attributeBase (.Name x p) "extend" X.env (eval (.Name x p) X.env) = eval (.Name x p) X.env := by rfl)
    (hfew : ((backTo cpos (starEach [e] X.env)).all (fun x => !x.1) && (backToKw cpos (keywordEach [] X.env)).all (fun x => x.1.isSome) && decide ([e].length + ([] : List Keyword).length + (if ([] : List Keyword).isEmpty then 0 else 1) < 30)) = true := by rfl)
    (hline : (apos.endLine == cpos.line) = true := by rfl) (hs : starEach [e] X.env = (false, eval e X.env) :: starEach [] X.env := by rfl) (hplain : (backTo cpos (starEach [] X.env)).any (·.1) = false := by rfl) :
    SE R X (.Call (.Attribute (.Name x p) "extend" apos) [e] [] cpos) (wExt i w) := by
  refine ⟨fun B => PE.imp (pe_bm PySem.F.plainAttrs_list PySem.F.slot_list_extend PySem.F.type_list_extend mt_extend h ((ses_cons he ses_nil hs).pa B) hbase hfew hline hs hplain) fun σ H Q ⟨ρ, G, r, ⟨ds0, e0⟩, q⟩ => ?_, fun ρ Q Q' hq ⟨z, q⟩ => ⟨z, he.mono ρ _ _ (fun d ρ1 ⟨ds, es, a, b, c, q⟩ => ⟨ds, es, a, b, c, hq _ _ q⟩) q⟩⟩
  obtain ⟨a, vs0, ea, eH, _⟩ := r.ownL e0
  refine ⟨_, ea, tyL eH, ρ, G, r, he.mono ρ _ _ (fun d ρ1 ⟨ds, es, ed, e1, hl, q⟩ us G' H' s r' iv => ?_) q⟩
  subst ed
  obtain ⟨a', vs, ea', eH', iv'⟩ := r'.ownL e1
  rw [ea] at ea'
  cases ea'
  cases iv with
  | cons i1 i2 =>
    cases i2
    cases i1 with
    | lst sa ha => exact ⟨a, _, vs, _, rfl, rfl, eH', r'.sub _ _ sa, by rw [iv'.length, ha.length]; exact hl, q _ G' _ s (r'.put e1 ea (.lst (iv'.append ha))) .non⟩
end
/-! ### x[k] = v, of one's own list -/
@[simp] def wgSub (i : Nat) (w : WE) : WG := fun d ρ Q => w ρ fun k ρ1 => ∃ ds n j, k = .int n ∧ ρ1[i]? = some (.own (.list ds)) ∧ L2.ixN ds.length n = some j ∧ Q (ρ1.set i (.own (.list (ds.set j d))))
section
variable {R : Res} {X : Cx} {i : Nat} {x : Str} {p pos : Pos} {e v : Expr} {w wv : WE}
theorem sg_sub (h : PE X (.Name x p) (tVar i)) (he : SE R X e w) (ha : ∀ v, assign (.Subscript (.Name x p) e pos) X.env v = (do
      let ov ← holding [v] (eval (.Name x p) X.env)
      let iv ← holding [v, ov] (eval e X.env)
      standAt pos
      holding [v, ov, iv] (setItem ov iv v)
      release [v, ov, iv] []) := by intro _; rfl) : SG R X (.Subscript (.Name x p) e pos) (gSub (tVar i) (fun σ H Q => ∃ B, liftE R X.K B w σ H Q) rSetL) (fun d ρ Q => (∃ ds, ρ[i]? = some (.own (.list ds))) ∧ wgSub i w d ρ Q) [] := by
  refine ⟨pg_sub h ⟨fun pins s σ H Q I ⟨B, q⟩ => (he.pe B).run pins s σ H Q I q⟩ set_list ha, fun B ρ G σ H v d q r iv ⟨⟨ds0, e0⟩, k⟩ => ?_, fun d ρ Q Q' hq ⟨z, k⟩ => ⟨z, he.mono ρ _ _ (fun k ρ1 ⟨ds, n, j, a, b, c, q⟩ => ⟨ds, n, j, a, b, c, hq _ q⟩) k⟩⟩
  obtain ⟨a, vs0, ea, eH, _⟩ := r.ownL e0
  refine ⟨_, ea, B, ρ, G, r, he.mono ρ _ _ (fun k ρ1 ⟨ds, n, j, ek, e1, hj, k⟩ u G' H' s r' iu => ?_) k⟩
  subst ek
  obtain ⟨a', vs, ea', eH', iv'⟩ := r'.ownL e1
  rw [ea] at ea'
  cases ea'
  cases iu
  exact ⟨a, vs, n, j, rfl, rfl, eH', by rw [iv'.length]; exact hj, k σ G' _ (Off.refl [] σ) s (r'.put e1 ea (.lst (Iss.set (iv.mono s) _ iv')))⟩
end
/-! ## two names at once, with cells of one's own -/
section
variable {R : Res} {K : PySem.W.Frag} {B : Bs} {G : Hp} {ρ : Sls} {σ : L2.St} {H : Hp} {D : Addr} {oo : HO}
/-- a new cell in hand, set apart -/
theorem Rel.aside (r : Rel R K B G ρ σ H) {v : V} {x : PyData} (n : IsNew R K B G σ ρ H v x) : ∃ p ho, v = .ref p ∧ H p = some ho ∧ Own1 K G p ho x ∧ Rel R K (B.wthH p ho) G ρ σ H ∧ p ∉ B.fp ∧ B.G0 p = none ∧ B.H0 p = none := by
  obtain ⟨p, ho, rfl, n1, n2, n3, n4, n5, la, fp, q, n6⟩ := n
  have g0 : B.G0 p = none := by
    cases z : B.G0 p with
    | none => rfl
    | some o =>
      have := r.g0 _ _ z
      rw [n1] at this
      cases this
  have nf : p ∉ B.fp := fun hb => (r.fp0 p hb).2.1 n2
  have other : ∀ b, b ≠ p → (B.wthH p ho).H0 b = B.H0 b := fun b n => upd_ne n
  refine ⟨p, ho, rfl, n3, n4, ⟨r.sub, r.len, r.g0, fun b h1 h2 => ?_, fun b o e hb => ?_, fun b hb => ?_, r.d, r.s, fun i y e => ?_, la, fp, q.pl, q.ok, fun b hb => ?_, q.tie⟩, nf, g0, n2⟩
  · by_cases z : b = p
    · subst z
      exact absurd n1 h2
    · rw [other b z] at h1
      exact r.new b h1 h2
  · by_cases z : b = p
    · subst z
      rw [show (B.wthH b ho).H0 b = some ho from upd_same] at e
      cases e
      exact n3
    · rw [other b z] at e
      exact r.fr b o e hb
  · have z : b ≠ p := fun z => nf (z ▸ hb)
    rw [other b z]
    exact r.fp0 b hb
  · obtain ⟨c, hc, q1, q2, q3, q4, q5, q6⟩ := r.o i y e
    have z : c ≠ p := fun z => by
      subst z
      exact n5 i y e q1
    exact ⟨c, hc, q1, q2, by rw [other c z]; exact q3, q4, q5, q6⟩
  · have z : b ≠ p := fun z => n6 (z ▸ hb)
    obtain ⟨z1, z0, z2, z3⟩ := q.pf b hb
    exact ⟨z1, z0, by rw [other b z]; exact z2, z3⟩
theorem LoomAt.unapart {la : Addr} {fp : List Addr} (q : LoomAt R (B.wthH D oo) G ρ σ H la fp) (nf : D ∉ B.fp) : LoomAt R B G ρ σ H la fp ∧ D ∉ fp := by
  have fne : ∀ b ∈ fp, b ≠ D := fun b hb z => by
    rcases (q.pf b hb).2.2.1 with y | y
    · rw [z, show (B.wthH D oo).H0 D = some oo from upd_same] at y
      cases y
    · exact nf (z ▸ y)
  exact ⟨⟨q.pl, q.ok, fun b hb => let ⟨z1, z0, z2, z3⟩ := q.pf b hb; ⟨z1, z0, z2.imp (fun z => by rw [show (B.wthH D oo).H0 b = B.H0 b from upd_ne (fne b hb)] at z; exact z) id, z3⟩, q.tie⟩, fun z => fne D z rfl⟩
theorem Rel.unapart (h0 : B.H0 D = none) (nf : D ∉ B.fp) (r : Rel R K (B.wthH D oo) G ρ σ H) : Rel R K B G ρ σ H := by
  have back : ∀ (b : Addr), b ≠ D → (B.wthH D oo).H0 b = B.H0 b := fun b n => upd_ne n
  obtain ⟨la, fp, q⟩ := r.l
  refine ⟨r.sub, r.len, r.g0, fun b h1 h2 => ?_, fun b o e hb => ?_, fun b hb => ?_, r.d, r.s, fun i x e => ?_, la, fp, (q.unapart nf).1⟩
  · have nb : b ≠ D := fun z => h1 (by rw [z]; exact h0)
    exact r.new b (by rw [back b nb]; exact h1) h2
  · have nb : b ≠ D := fun z => by
      rw [z, h0] at e
      cases e
    exact r.fr b o (by rw [back b nb]; exact e) hb
  · have nb : b ≠ D := fun z => nf (z ▸ hb)
    have := r.fp0 b hb
    rw [back b nb] at this
    exact this
  · obtain ⟨a, ho, e1, e2, e3, e4, e5, e6⟩ := r.o i x e
    have na : a ≠ D := fun z => by
      rw [z, show (B.wthH D oo).H0 D = some oo from upd_same] at e3
      cases e3
    exact ⟨a, ho, e1, e2, by rw [back a na] at e3; exact e3, e4, e5, e6⟩
/-- the cell set apart is a new cell still -/
theorem Rel.newOf (r : Rel R K (B.wthH D oo) G ρ σ H) (h0 : B.H0 D = none) (g0 : B.G0 D = none) (nf : D ∉ B.fp) {d : PyData} (ha : Own1 K G D oo d) {la : Addr} {fp : List Addr} (q : LoomAt R (B.wthH D oo) G ρ σ H la fp) : IsNew R K B G σ ρ H (.ref D) d := by
  obtain ⟨hD, gD⟩ := r.apartH g0 nf
  obtain ⟨q1, q2⟩ := q.unapart nf
  refine ⟨D, _, rfl, gD, h0, hD, ha, fun j y e z => ?_, la, fp, q1, q2⟩
  obtain ⟨a, ho, e1, _, e3, _⟩ := r.o j y e
  rw [e1] at z
  cases z
  rw [show (B.wthH D oo).H0 D = some oo from upd_same] at e3
  cases e3
theorem LoomAt.setO {la : Addr} {fp : List Addr} {i : Nat} {a : Addr} {d : PyData} (q : LoomAt R B G ρ σ H la fp) (hl : ρ.length = σ.length) (na : a ∉ fp) : LoomAt R B G (ρ.set i (.own d)) (σ.set i (some (.ref a))) H la fp := by
  have lo : ∀ (j : Nat), (ρ.set i (.own d))[j]? = some .loom → i ≠ j ∧ ρ[j]? = some .loom := fun j e => by
    rcases set_at e with ⟨_, z2⟩ | z
    · cases z2
    · exact z
  refine ⟨fun j e => ?_, fun z => q.ok (z.imp (fun ⟨j, e⟩ => ⟨j, (lo j e).2⟩) id), fun b hb => ?_, q.tie⟩
  · rw [set_get (lo j e).1]
    exact q.pl j (lo j e).2
  · obtain ⟨z1, z0, z2, z3⟩ := q.pf b hb
    refine ⟨z1, z0, z2, fun j y e z => ?_⟩
    rcases set_at e with ⟨y1, y2⟩ | ⟨y1, y2⟩
    · subst y1
      have hi : i < σ.length := by
        have := (List.getElem?_eq_some_iff.mp e).1
        rw [List.length_set, hl] at this
        exact this
      rw [List.getElem?_set_self hi] at z
      cases z
      exact na hb
    · rw [set_get y1] at z
      exact z3 j y y2 z
/-- two new cells, stored -/
theorem Rel.setOO (r : Rel R K (B.wthH D oo) G ρ σ H) (h0 : B.H0 D = none) (g0 : B.G0 D = none) (nf : D ∉ B.fp) {x y : PyData} (ha : Own1 K G D oo x) {v : V} (n2 : IsNew R K (B.wthH D oo) G σ ρ H v y) {i j : Nat} :
    Rel R K B G ((ρ.set i (.own x)).set j (.own y)) ((σ.set i (some (.ref D))).set j (some v)) H := by
  obtain ⟨p, ho, rfl, w1, w2, w3, w4, w5, la, fp, q, w6⟩ := n2
  have np : p ≠ D := fun z => by
    rw [z, show (B.wthH D oo).H0 D = some oo from upd_same] at w2
    cases w2
  have w2' : B.H0 p = none := by
    rw [show (B.wthH D oo).H0 p = B.H0 p from upd_ne np] at w2
    exact w2
  have nD := r.newOf h0 g0 nf ha q
  have r1 := (r.unapart h0 nf).setO (i := i) nD
  obtain ⟨q1, q2⟩ := q.unapart nf
  refine r1.setO ⟨p, ho, rfl, w1, w2', w3, w4, fun l z e1 e2 => ?_, la, fp, q1.setO r.len q2, w6⟩
  rcases set_at e1 with ⟨y1, y2⟩ | ⟨y1, y2⟩
  · subst y1
    have hi : i < σ.length := by
      have := (List.getElem?_eq_some_iff.mp e1).1
      rw [List.length_set, r.len] at this
      exact this
    rw [List.getElem?_set_self hi] at e2
    cases e2
    exact np rfl
  · rw [set_get y1] at e2
    exact w5 l z y2 e2
end
@[simp] def wParOO (i j : Nat) (w1 w2 : WE) : WS := fun D ρ => w1 ρ fun x ρ1 => w2 ρ1 fun y ρ2 => D.nx ((ρ2.set i (.own x)).set j (.own y))
theorem ss_parOO {R : Res} {X : Cx} {i j : Nat} {x y : Str} {a b : Expr} {w1 w2 : WE} {px py pt pos : Pos} {kt k2 pt2} (hc : X.calm = true) (hN : X.N.Nodup) (hi : X.N[i]? = some x) (hj : X.N[j]? = some y)
    (hx : X.env.scope.names.lookup x = some .local) (hy : X.env.scope.names.lookup y = some .local) (ha : SF R X a w1) (hb : SF R X b w2) (hij : i ≠ j := by decide)
    (hw : swappedStores [.Tuple [.Name x px, .Name y py] kt pt] (.Tuple [a, b] k2 pt2) X.env = pure (some [x, y]) := by rfl)
    (hs : swapsWithSole [.Tuple [.Name x px, .Name y py] kt pt] (.Tuple [a, b] k2 pt2) pos.line X.env = pure false := by rfl)
    (hs1 : starEach [a, b] X.env = (false, eval a X.env) :: starEach [b] X.env := by rfl) (hs2 : starEach [b] X.env = (false, eval b X.env) :: starEach [] X.env := by rfl) :
    SS R X (.Assign [.Tuple [.Name x px, .Name y py] kt pt] (.Tuple [a, b] k2 pt2) pos) (wParOO i j w1 w2) := by
  have hb' : PE X b (fun σ H Q => ∃ B, liftF R X.K B w2 σ H Q) := ⟨fun pins s σ H Q I ⟨B, q⟩ => (hb.pe B).run pins s σ H Q I q⟩
  refine ⟨fun B => PS.imp (ps_par hc hN hi hj hij hx hy (pa_cons (ha.pe B) (pa_cons hb' pa_nil hs2) hs1) hw hs) fun D σ H ⟨ρ, G, r, q⟩ => ?_, fun D D' ρ l => ha.mono ρ _ _ fun x ρ1 => hb.mono ρ1 _ _ fun y ρ2 q => l.nx _ q⟩
  refine ⟨ρ, G, r, ha.mono ρ _ _ (fun d ρ1 q v G1 H1 s1 r1 n1 => ?_) q⟩
  obtain ⟨p, ho, rfl, e1, e2, ra, nf, g0, h0⟩ := r1.aside n1
  refine ⟨B.wthH p ho, ρ1, G1, ra, hb.mono ρ1 _ _ (fun d2 ρ2 q u G2 H2 s2 r2 n2 => ?_) q⟩
  exact ⟨_, _, rfl, q _ G2 H2 (s1.trans s2) (r2.setOO h0 g0 nf (e2.mono s2) n2)⟩
end DL
namespace DL
open PySem PySem.Spec PyProof.Rows L2
/-! ## x in y -/
def rInA (K : PySem.W.Frag) (neg : Bool) : R2 := fun x y H Q => ∃ d c ds, Dp K H x d ∧ Dp K H y c ∧ (c = .list ds ∨ c = .tuple ds) ∧ SeqAt.shaped d = true ∧ SeqAt.shaped c = true ∧ Q (.bl ((ds.any fun z => PyData.eqv z d) != neg)) H
theorem canLay_seq {ds : List PyData} {c : PyData} (h : c = .list ds ∨ c = .tuple ds) (s : SeqAt.shaped c = true) : PyData.canLayAll0 ds = true := by
  have := SeqAt.canLay_of_shaped s
  rcases h with rfl | rfl <;> simpa [PyData.canLay0] using this
theorem op_inA {X : Cx} (hu : X.A.units + 65 < cLine) : OpR X (compareOp .In) (rInA X.K false) := by
  intro pins s σ H x y v u Q I rx ry h
  obtain ⟨d, c, ds, hd, he, hc, sd, se, q⟩ := h
  rw [Bool.bne_false] at q
  obtain ⟨as, r1⟩ := Dp.reads I d x v hd rx
  obtain ⟨bs, r2⟩ := Dp.reads I c y u he ry
  have hl := canLay_seq hc se
  rcases hc with rfl | rfl
  · exact SeqAt.in_list_reads r2 r1 hl (SeqAt.canLay_of_shaped sd) (room_in_shaped sd hu) ⟨.bl _, H, I, rfl, q⟩
  · exact SeqAt.in_tuple_reads r2 r1 hl (SeqAt.canLay_of_shaped sd) (room_in_shaped sd hu) ⟨.bl _, H, I, rfl, q⟩
theorem op_notInA {X : Cx} (hu : X.A.units + 65 < cLine) : OpR X (compareOp .NotIn) (rInA X.K true) := by
  intro pins s σ H x y v u Q I rx ry h
  obtain ⟨d, c, ds, hd, he, hc, sd, se, q⟩ := h
  rw [Bool.bne_true] at q
  obtain ⟨as, r1⟩ := Dp.reads I d x v hd rx
  obtain ⟨bs, r2⟩ := Dp.reads I c y u he ry
  have hl := canLay_seq hc se
  rcases hc with rfl | rfl
  · exact SeqAt.notIn_list_reads r2 r1 hl (SeqAt.canLay_of_shaped sd) (room_in_shaped sd hu) ⟨.bl _, H, I, rfl, q⟩
  · exact SeqAt.notIn_tuple_reads r2 r1 hl (SeqAt.canLay_of_shaped sd) (room_in_shaped sd hu) ⟨.bl _, H, I, rfl, q⟩
/-- the text a, looked for in b -/
def strIn (a b : Str) : Bool := !(Builtin.Str.occurrences b a 0 b.length 1).isEmpty
@[simp] def inXD (neg : Bool) : D2
  | x, .list ds, q => SeqAt.shaped x = true ∧ SeqAt.shaped (.list ds) = true ∧ q (.bool ((ds.any fun z => PyData.eqv z x) != neg))
  | x, .tuple ds, q => SeqAt.shaped x = true ∧ SeqAt.shaped (.tuple ds) = true ∧ q (.bool ((ds.any fun z => PyData.eqv z x) != neg))
  | .str a, .str b, q => q (.bool (strIn a b != neg))
  | _, _, _ => False
def rInX (K : PySem.W.Frag) (neg : Bool) : R2 := fun x y H Q => rInA K neg x y H Q ∨ ∃ i j, x = .str i ∧ y = .str j ∧ Q (.bl (strIn i j != neg)) H
theorem op_inX {X : Cx} (hu : X.A.units + 65 < cLine) : OpR X (compareOp .In) (rInX X.K false) := by
  intro pins s σ H x y v u Q I rx ry h
  rcases h with h | ⟨i, j, rfl, rfl, q⟩
  · exact op_inA hu pins s σ H x y v u Q I rx ry h
  · rw [Bool.bne_false] at q
    exact op_in_str pins s σ H _ _ v u Q I rx ry ⟨i, j, rfl, rfl, q⟩
theorem op_notInX {X : Cx} (hu : X.A.units + 65 < cLine) : OpR X (compareOp .NotIn) (rInX X.K true) := by
  intro pins s σ H x y v u Q I rx ry h
  rcases h with h | ⟨i, j, rfl, rfl, q⟩
  · exact op_notInA hu pins s σ H x y v u Q I rx ry h
  · rw [Bool.bne_true] at q
    exact L2.op_notIn_str pins s σ H _ _ v u Q I rx ry ⟨i, j, rfl, rfl, q⟩
theorem IsH.dpS {K : PySem.W.Frag} {G H : Hp} (s : Sub G H) {v : V} {d : PyData} (c : SeqAt.shaped d = true) (h : IsH K G H v d) : Dp K H v d := h.dp s (SeqAt.canLay_of_shaped c)
theorem lk_inX {R : Res} {K : PySem.W.Frag} {neg : Bool} : Lk2 R K (rInX K neg) (inXD neg) := by
  refine ⟨fun B G ρ σ H v u x y Q r hx hy h => ?_, fun x y q q' hq h => ?_⟩
  · unfold inXD at h
    split at h
    · exact .inl ⟨_, _, _, hx.dpS r.sub h.1, hy.dpS r.sub h.2.1, .inl rfl, h.1, h.2.1, aft h.2.2 r (.bl _)⟩
    · exact .inl ⟨_, _, _, hx.dpS r.sub h.1, hy.dpS r.sub h.2.1, .inr rfl, h.1, h.2.1, aft h.2.2 r (.bl _)⟩
    · cases hx
      cases hy
      exact .inr ⟨_, _, rfl, rfl, aft h r (.bl _)⟩
    · exact h.elim
  · unfold inXD at h ⊢
    split at h
    · exact ⟨h.1, h.2.1, hq _ h.2.2⟩
    · exact ⟨h.1, h.2.1, hq _ h.2.2⟩
    · exact hq _ h
    · exact h.elim
/-! ## sum, max, min of a list of numbers -/
@[simp] def sumD : D1
  | .list ds, q => ∃ ns : List Int, ds = ns.map PyData.int ∧ q (.int ns.sum)
  | _, _ => False
@[simp] def maxD : D1
  | .list ds, q => ∃ ns : List Int, ds = ns.map PyData.int ∧ 0 < ns.length ∧ ∀ m, m ∈ ns → (∀ y, y ∈ ns → y ≤ m) → q (.int m)
  | _, _ => False
@[simp] def minD : D1
  | .list ds, q => ∃ ns : List Int, ds = ns.map PyData.int ∧ 0 < ns.length ∧ ∀ m, m ∈ ns → (∀ y, y ∈ ns → m ≤ y) → q (.int m)
  | _, _ => False
section
variable {R : Res} {K : PySem.W.Frag}
theorem lk_sum : Lk1 R K (fun v H Q => rSum K [v] H Q) sumD := by
  refine ⟨fun B G ρ σ H v x Q r hx h => ?_, fun x q q' hq h => ?_⟩
  · cases hx <;> first
      | exact h.elim
      | skip
    rename_i a vs ds sa ha
    obtain ⟨ns, e, q⟩ := h
    subst e
    rw [ha.intsV] at sa
    exact ⟨a, ns, rfl, .of sa, aft q r (.int _)⟩
  · unfold sumD at h ⊢
    split at h
    · obtain ⟨ns, e, k⟩ := h
      exact ⟨ns, e, hq _ k⟩
    · exact h.elim
theorem lk_max : Lk1 R K (fun v H Q => rMax K [v] H Q) maxD := by
  refine ⟨fun B G ρ σ H v x Q r hx h => ?_, fun x q q' hq h => ?_⟩
  · cases hx <;> first
      | exact h.elim
      | skip
    rename_i a vs ds sa ha
    obtain ⟨ns, e, h0, q⟩ := h
    subst e
    rw [ha.intsV] at sa
    exact ⟨a, ns, rfl, .of sa, h0, fun m h1 h2 => aft (q m h1 h2) r (.int _)⟩
  · unfold maxD at h ⊢
    split at h
    · obtain ⟨ns, e, h0, k⟩ := h
      exact ⟨ns, e, h0, fun m h1 h2 => hq _ (k m h1 h2)⟩
    · exact h.elim
theorem lk_min : Lk1 R K (fun v H Q => rMin K [v] H Q) minD := by
  refine ⟨fun B G ρ σ H v x Q r hx h => ?_, fun x q q' hq h => ?_⟩
  · cases hx <;> first
      | exact h.elim
      | skip
    rename_i a vs ds sa ha
    obtain ⟨ns, e, h0, q⟩ := h
    subst e
    rw [ha.intsV] at sa
    exact ⟨a, ns, rfl, .of sa, h0, fun m h1 h2 => aft (q m h1 h2) r (.int _)⟩
  · unfold minD at h ⊢
    split at h
    · obtain ⟨ns, e, h0, k⟩ := h
      exact ⟨ns, e, h0, fun m h1 h2 => hq _ (k m h1 h2)⟩
    · exact h.elim
end
/-! ## sorted, of a list or a tuple of numbers -/
section
variable {prog : Program} {w : World} {A : Around} {E : Value → Shared → Prop} {s : Shared}
/-- the heap once the items have been gathered -/
abbrev gathered (h : Heap) (vs : List Value) : Heap := (h.push (seqObj "list" #[] 0)).update h.objs.size (Obj.mapSeq (· ++ vs.toArray))
theorem gather_tuple {t : Addr} {vs : List Value} {Q : List Value → Shared → Prop} (ht : s.heap.IsTuple t vs.toArray) (h : Q vs { s with heap := gathered s.heap vs }) (hz : vs.length ≤ sizeLine) : wpAny (model prog w) A (collect (.ref t)) Q E s := by
  obtain ⟨o, ho, hc, n, hd⟩ := ht
  have ho' : (s.heap.push (seqObj "list" #[] 0)).get? t = some o := Heap.get?_push_of_some _ ho
  unfold collect
  refine wpAny_bind (wpAny_runValue (codeAny_builtin entry_proto_collect' (wpAny_bind (wpAny_newList (wpAny_pure ⟨Code.quiet_builtin _ (by decide +kernel), codeAny_builtin entry_list_iadd' ?_⟩)))))
  show wpAny _ _ (Builtin.List.listExtendWith (.ref s.heap.objs.size) (.ref t) (.ref s.heap.objs.size)) _ _ { s with heap := s.heap.push (seqObj "list" #[] 0) }
  unfold Builtin.List.listExtendWith
  refine wpAny_bind (wpAny_typeOf (T := "tuple") ⟨o, ho', hc⟩ ?_)
  rw [if_pos (by rw [show (Value.type "tuple" == Value.type "tuple") = true by rfl]; simp)]
  refine wpAny_bind (listItems_at ho' hd (wpAny_bind (listItems_at (xs := #[]) (n := 0) (Heap.get?_push_size _ rfl) rfl ?_)))
  rw [if_neg (by simp)]
  refine wpAny_bind (listUpdate_at (xs := #[]) (n := 0) (Heap.get?_push_size _ rfl) rfl (wpAny_pure ?_) (Nat.zero_le _) (by simp; omega))
  refine wpAny_bind (wpAny_load (get?_update_seq (Heap.get?_push_size _ rfl) _) ?_)
  show wpAny _ _ (pure ((#[] : Array Value) ++ vs.toArray).toList) Q E _
  rw [show ((#[] : Array Value) ++ vs.toArray).toList = vs by simp]
  exact wpAny_pure h
theorem sorted_ordT {t : Addr} {vs : List Value} {ltv : Value → Value → Bool} {Q : Value → Shared → Prop} (O : SrtO.Swo ltv) (ht : s.heap.IsTuple t vs.toArray) (hz : vs.length ≤ sizeLine)
    (hS : 2 ≤ vs.length → ∀ (h₁ : Heap) (a : Addr), h₁.get? a = some (seqObj "list" vs.toArray 0) → (∀ b o, s.heap.get? b = some o → b ≠ a ∧ h₁.get? b = some o) → SrtO.SortableO prog w A.in1.in1 { s with heap := h₁ } a vs ltv)
    (h : ∀ out : List Value, SrtO.Srtd ltv out → SrtO.Stb ltv out vs → Q (.ref (s.heap.objs.size + 1)) { s with heap := sortedAll s.heap vs out.toArray }) : wpAny (model prog w) A (call (.builtin "sorted") [.ref t]) Q E s := by
  refine Calls.call_function_entry kind_sorted plain_sorted entry_sorted (args_sorted1 _) ?_
  unfold Builtin.«sorted»
  refine wpAny_bind (m := checkCount "sorted" 1 1 _) (wpAny_pure (wpAny_bind (gather_tuple ht (wpAny_bind (wpAny_newList ?_ hz)) hz)))
  have hn : (gathered s.heap vs).objs.size = s.heap.objs.size + 1 := by rw [Heap.size_update, size_push']
  have new : ((gathered s.heap vs).push (seqObj "list" vs.toArray 0)).get? (s.heap.objs.size + 1) = some (seqObj "list" vs.toArray 0) := by
    rw [← hn]
    exact Heap.get?_push_size _ rfl
  have old : ∀ b o, s.heap.get? b = some o → b ≠ s.heap.objs.size + 1 ∧ ((gathered s.heap vs).push (seqObj "list" vs.toArray 0)).get? b = some o := fun b o q => by
    have lt : b < s.heap.objs.size := Heap.lt_size q
    exact ⟨Nat.ne_of_lt (Nat.lt_succ_of_lt lt), Heap.get?_push_of_some _ (by rw [Heap.get?_update_ne _ _ _ _ (Nat.ne_of_lt lt)]; exact Heap.get?_push_of_some _ q)⟩
  show wpAny _ _ _ _ _ { s with heap := (gathered s.heap vs).push (seqObj "list" vs.toArray 0) }
  rw [hn]
  exact wpAny_bind (wpAny_holding (wpAny_call_entry slot_list_sort ⟨_, new, rfl⟩ entry_list_sort (SrtO.list_sort_ord O new hz (fun h2 => hS h2 _ _ new old) fun out hs hb => ⟨_, rfl, wpAny_pure ⟨_, rfl, h out hs hb⟩⟩) (args_list_sort _)))
end
def rSortA (K : PySem.W.Frag) : List V → Hp → VK → Prop := fun vs H Q => ∃ (a : Addr) (ns : List Int), vs = [V.ref a] ∧ (SqL K H a (ns.map V.int) ∨ SqT K H a (ns.map V.int)) ∧
  ∀ (ns' : List Int) (p : Addr), ns'.Perm ns → ns'.Pairwise (· ≤ ·) → H p = none → Q (.ref p) (upd H p (.lst (ns'.map V.int)))
theorem cr_sortA {X : Cx} : CallR X (.builtin "sorted") (rSortA X.K) := by
  intro pins s σ H vs us Q I r h
  obtain ⟨a, ns, rfl, hs | hs, q⟩ := h
  · exact cr_sortedI pins s σ H _ us Q I r ⟨a, ns, rfl, hs, q⟩
  · obtain ⟨its, rv, ht, hz⟩ := I.tuple hs
    rw [Vals.ref1 r]
    have hi := rv.ints
    refine sorted_ordT SrtO.swo_int (show s.heap.IsTuple a its.toArray from ht) (by rw [← rv.length]; exact hz) (fun h2 _ _ _ _ => SrtO.ints_sortable hi h2) fun out h1 h2 => ?_
    obtain ⟨k1, k2, k3⟩ := SrtO.ints_out hi h1 h2
    obtain ⟨ep, he⟩ := PyProof.Rows.sortedAll_at s.heap its out.toArray
    have hl : ((out.map SrtO.iv).map V.int).length ≤ sizeLine := by
      rw [List.length_map, k2.length_eq, ← List.length_map (f := V.int)]
      exact hz
    exact ⟨.ref _, upd H (s.heap.objs.size + 1) (.lst ((out.map SrtO.iv).map V.int)), I.laid (t' := s.toks) (fun _ _ => PyProof.Rows.sortedAll_old) (Nat.le_succ _) ⟨hl, out, ep, vals_of_ints k1, he⟩, rfl, q _ _ k2 k3 (I.hok.fresh (Nat.le_succ _))⟩
@[simp] def sortD : D1
  | .list ds, q => ∃ ns : List Int, ds = ns.map PyData.int ∧ ∀ ns' : List Int, ns'.Perm ns → ns'.Pairwise (· ≤ ·) → q (.list (ns'.map PyData.int))
  | .tuple ds, q => ∃ ns : List Int, ds = ns.map PyData.int ∧ ∀ ns' : List Int, ns'.Perm ns → ns'.Pairwise (· ≤ ·) → q (.list (ns'.map PyData.int))
  | _, _ => False
theorem lk_sort {R : Res} {K : PySem.W.Frag} : Lk1 R K (fun v H Q => rSortA K [v] H Q) sortD := by
  refine ⟨fun B G ρ σ H v x Q r hx h => ?_, fun x q q' hq h => ?_⟩
  · cases hx <;> first
      | exact h.elim
      | skip
    · rename_i a vs ds sa ha
      obtain ⟨ns, e, q⟩ := h
      subst e
      rw [ha.intsV] at sa
      exact ⟨a, ns, rfl, .inl (.of sa), fun ns' p h1 h2 np => aftN (q ns' h1 h2) r np (isLst (H := H) (r.sub.free np) (Iss.ints ns'))⟩
    · rename_i a vs ds sa ha
      obtain ⟨ns, e, q⟩ := h
      subst e
      rw [ha.intsV] at sa
      exact ⟨a, ns, rfl, .inr (Sub.seqT r.sub sa), fun ns' p h1 h2 np => aftN (q ns' h1 h2) r np (isLst (H := H) (r.sub.free np) (Iss.ints ns'))⟩
  · unfold sortD at h ⊢
    split at h
    · obtain ⟨ns, e, k⟩ := h
      exact ⟨ns, e, fun ns' h1 h2 => hq _ (k ns' h1 h2)⟩
    · obtain ⟨ns, e, k⟩ := h
      exact ⟨ns, e, fun ns' h1 h2 => hq _ (k ns' h1 h2)⟩
    · exact h.elim
/-! ## range(a, b, c) -/
def rngC (lo c : Int) (n : Nat) : List PyData := (List.range n).map fun i => .int (lo + (i : Nat) * c)
theorem itd_rngC {K : PySem.W.Frag} {G : Hp} {lo c : Int} {n : Nat} : ItD K G (Itc lo c n) (rngC lo c n) :=
  ⟨fun i H hi q => (show i < n by simpa [rngC] using hi), fun H q => by simp [rngC, Itc], fun i H v H' x e q y => by
    obtain ⟨y1, rfl⟩ := y
    have hi : i < n := by
      have := (List.getElem?_eq_some_iff.mp e).1
      simpa [rngC] using this
    have e2 : x = .int (lo + (i : Nat) * c) := by
      have e' := e
      simp [rngC, hi] at e'
      exact e'.symm
    subst e2
    exact .inl ⟨y1, .int _⟩⟩
@[simp] def wRng3 (ws : List WE) : WI := fun ρ Q => wEs ws ρ fun ds ρ' => ∃ i j c n, ds = [.int i, .int j, .int c] ∧ RgC i j c n ∧ Q (rngC i c n) ρ'
theorem si_rng3 {R : Res} {X : Cx} {tg a b c : Expr} {ws : List WE} {p pos : Pos} (hg : Gl X "range") (hm : X.mg "range" = none) (h : SEs R X [a, b, c] ws)
    (hs : starEach [a, b, c] X.env = (false, eval a X.env) :: starEach [b, c] X.env := by rfl) (hpl : (backTo pos (starEach [b, c] X.env)).any (·.1) = false := by rfl) : SI R X tg (.Call (.Name "range" p) [a, b, c] [] pos) (wRng3 ws) := by
  refine ⟨fun B => ⟨fun pins s σ H q I ⟨ρ, G, r, k⟩ => (pi_range3 hg hm (h.pa B) hs hpl).run pins s σ H q I ?_⟩, fun ρ Q Q' hq => h.mono.run fun ds ρ' ⟨i, j, c, n, e, f, q⟩ => ⟨i, j, c, n, e, f, hq _ _ q⟩⟩
  refine ⟨ρ, G, r, h.mono.run (fun ds ρ' ⟨i, j, c, n, e, f, k⟩ vs G' H' s' r' iv => ?_) k⟩
  subst e
  cases iv with
  | cons i1 iv =>
    cases iv with
    | cons i2 iv =>
      cases iv with
      | cons i3 iv =>
        cases iv
        cases i1
        cases i2
        cases i3
        exact ⟨i, j, c, n, rfl, f, k _ G' H' s' r' itd_rngC⟩
/-! ## calls whose answer is a new cell -/
def AftF (R : Res) (K : PySem.W.Frag) (B : Bs) (G : Hp) (ρ : Sls) (σ : L2.St) (Q : VK) (z : PyData) : Prop := ∀ v G' H', Sub G G' → Rel R K B G' ρ σ H' → IsNew R K B G' σ ρ H' v z → Q v H'
structure LkF (R : Res) (K : PySem.W.Frag) (r : V → Hp → VK → Prop) (f : D1) : Prop where
  to : ∀ (B : Bs) (G : Hp) (ρ : Sls) (σ : L2.St) (H : Hp) (v : V) (x : PyData) (Q : VK), Rel R K B G ρ σ H → IsH K G H v x → f x (AftF R K B G ρ σ Q) → r v H Q
  mono : ∀ x (q q' : PyData → Prop), (∀ z, q z → q' z) → f x q → f x q'
theorem aftF {R : Res} {K : PySem.W.Frag} {B : Bs} {G : Hp} {ρ : Sls} {σ : L2.St} {H : Hp} {Q : VK} {z : PyData} {p : Addr} {o : HO} (q : AftF R K B G ρ σ Q z) (r : Rel R K B G ρ σ H) (n : H p = none) (h : Own1 K G p o z) : Q (.ref p) (upd H p o) :=
  q _ G _ (Same.refl G) (r.up n) (IsNew.of r n h)
section
variable {R : Res} {X : Cx} {id T : String} {x : Str} {p pos : Pos} {e : Expr} {a : Od}
theorem op1F {K : PySem.W.Frag} {B : Bs} {σ : L2.St} {H : Hp} {Q : VK} {r : V → Hp → VK → Prop} {f : D1} (L : LkF R K r f) (ma : a.Mono) (h : liftF R K B (wOp1 f a) σ H Q) : liftO R K B a σ H fun x H1 => r x H1 Q := by
  obtain ⟨ρ, G, rl, h⟩ := h
  refine od_step ma rl h fun ga ρ1 v G1 H1 s1 r1 i1 h1 => ?_
  obtain ⟨x, e1, q⟩ := h1
  exact L.to B G1 ρ1 σ H1 v x Q r1 (i1.at r1 e1) (L.mono _ _ _ (fun z q v' G' H' s r' i => q v' G' H' (s1.trans s) r' i) q)
theorem sf_b1 {r : List V → Hp → VK → Prop} {f : D1} (hc : CallR X (.builtin id) r) (L : LkF R X.K (fun v H Q => r [v] H Q) f) (hg : Gl X x) (hm : X.mg x = none) (hv : bootBuiltins x = some (.builtin id)) (ha : SO R X e a) (hn : x ≠ "__name__" := by decide) (hdb : (x == ("__debug__" : Str)) = false := by decide)
    (he : starEach [e] X.env = (false, eval e X.env) :: starEach [] X.env := by rfl) (hpl : (backTo pos (starEach [] X.env)).any (·.1) = false := by rfl) : SF R X (.Call (.Name x p) [e] [] pos) (wOp1 f a) :=
  ⟨fun B => PE.imp (pe_callB hc hg hm hv (pa_cons (ha.pe B) pa_nil he) hn hdb he hpl) fun σ H Q h => op1F L ha.mono h, mono_op1 L.mono ha.mono⟩
theorem sf_t1 {r : List V → Hp → VK → Prop} {f : D1} (hc : CallR X (.type T) r) (L : LkF R X.K (fun v H Q => r [v] H Q) f) (hg : Gl X x) (hm : X.mg x = none) (hv : bootBuiltins x = some (.type T)) (ha : SO R X e a) (hn : x ≠ "__name__" := by decide) (hdb : (x == ("__debug__" : Str)) = false := by decide)
    (he : starEach [e] X.env = (false, eval e X.env) :: starEach [] X.env := by rfl) (hpl : (backTo pos (starEach [] X.env)).any (·.1) = false := by rfl) : SF R X (.Call (.Name x p) [e] [] pos) (wOp1 f a) :=
  ⟨fun B => PE.imp (pe_callTy hc hg hm hv (pa_cons (ha.pe B) pa_nil he) hn hdb he hpl) fun σ H Q h => op1F L ha.mono h, mono_op1 L.mono ha.mono⟩
end
theorem lkF_list {R : Res} {K : PySem.W.Frag} : LkF R K (fun v H Q => (fun xs H Q => ∃ p ys, xs = [.ref p] ∧ (SqL K H p ys ∨ SqT K H p ys) ∧ ∀ l, H l = none → Q (.ref l) (upd H l (.lst ys))) [v] H Q) lstD := by
  refine ⟨fun B G ρ σ H v x Q r hx h => ?_, lk_list.mono (R := R) (K := K)⟩
  cases hx <;> first
    | exact h.elim
    | skip
  · rename_i a vs ds sa ha
    exact ⟨a, vs, rfl, .inl (.of sa), fun p np => aftF h r np (.lst ha)⟩
  · rename_i a vs ds sa ha
    exact ⟨a, vs, rfl, .inr (Sub.seqT r.sub sa), fun p np => aftF h r np (.lst ha)⟩
theorem lkF_sort {R : Res} {K : PySem.W.Frag} : LkF R K (fun v H Q => rSortA K [v] H Q) sortD := by
  refine ⟨fun B G ρ σ H v x Q r hx h => ?_, lk_sort.mono (R := R) (K := K)⟩
  cases hx <;> first
    | exact h.elim
    | skip
  · rename_i a vs ds sa ha
    obtain ⟨ns, e, q⟩ := h
    subst e
    rw [ha.intsV] at sa
    exact ⟨a, ns, rfl, .inl (.of sa), fun ns' p h1 h2 np => aftF (q ns' h1 h2) r np (.lst (Iss.ints ns'))⟩
  · rename_i a vs ds sa ha
    obtain ⟨ns, e, q⟩ := h
    subst e
    rw [ha.intsV] at sa
    exact ⟨a, ns, rfl, .inr (Sub.seqT r.sub sa), fun ns' p h1 h2 np => aftF (q ns' h1 h2) r np (.lst (Iss.ints ns'))⟩
@[simp] def wgSubO (i : Nat) (w : WE) : WG := fun d ρ Q => (∃ ds, ρ[i]? = some (.own (.list ds))) ∧ wgSub i w d ρ Q
theorem hu65 {A : Around} {k : Nat} (hr : Room k A) : A.units + 65 < cLine := by
  have := hr.un
  omega
@[simp] def wParOD (i j : Nat) (w1 w2 : WE) : WS := fun D ρ => w1 ρ fun x ρ1 => w2 ρ1 fun y ρ2 => D.nx ((ρ2.set i (.own x)).set j (.d y))
@[simp] def wParDO (i j : Nat) (w1 w2 : WE) : WS := fun D ρ => w1 ρ fun x ρ1 => w2 ρ1 fun y ρ2 => D.nx ((ρ2.set i (.d x)).set j (.own y))
section
variable {R : Res} {X : Cx} {i j : Nat} {x y : Str} {a b : Expr} {w1 w2 : WE} {px py pt pos : Pos} {kt k2 : Nat} {pt2 : Pos}
theorem ss_parOD (hc : X.calm = true) (hN : X.N.Nodup) (hi : X.N[i]? = some x) (hj : X.N[j]? = some y) (hx : X.env.scope.names.lookup x = some .local) (hy : X.env.scope.names.lookup y = some .local) (ha : SF R X a w1) (hb : SE R X b w2) (hij : i ≠ j := by decide)
    (hw : swappedStores [.Tuple [.Name x px, .Name y py] kt pt] (.Tuple [a, b] k2 pt2) X.env = pure (some [x, y]) := by rfl) (hs : swapsWithSole [.Tuple [.Name x px, .Name y py] kt pt] (.Tuple [a, b] k2 pt2) pos.line X.env = pure false := by rfl)
    (hs1 : starEach [a, b] X.env = (false, eval a X.env) :: starEach [b] X.env := by rfl) (hs2 : starEach [b] X.env = (false, eval b X.env) :: starEach [] X.env := by rfl) : SS R X (.Assign [.Tuple [.Name x px, .Name y py] kt pt] (.Tuple [a, b] k2 pt2) pos) (wParOD i j w1 w2) := by
  have hb' : PE X b (fun σ H Q => ∃ B, liftE R X.K B w2 σ H Q) := ⟨fun pins s σ H Q I ⟨B, q⟩ => (hb.pe B).run pins s σ H Q I q⟩
  refine ⟨fun B => PS.imp (ps_par hc hN hi hj hij hx hy (pa_cons (ha.pe B) (pa_cons hb' pa_nil hs2) hs1) hw hs) fun D σ H ⟨ρ, G, r, q⟩ => ?_, fun D D' ρ l => ha.mono ρ _ _ fun x ρ1 => hb.mono ρ1 _ _ fun y ρ2 q => l.nx _ q⟩
  refine ⟨ρ, G, r, ha.mono ρ _ _ (fun d ρ1 q v G1 H1 s1 r1 n1 => ?_) q⟩
  obtain ⟨p, ho, rfl, e1, e2, ra, nf, g0, h0⟩ := r1.aside n1
  refine ⟨B.wthH p ho, ρ1, G1, ra, hb.mono ρ1 _ _ (fun d2 ρ2 q u G2 H2 s2 r2 i2 => ?_) q⟩
  obtain ⟨la, fp, ql⟩ := r2.l
  exact ⟨_, _, rfl, q _ G2 H2 (s1.trans s2) (((r2.unapart h0 nf).setO (r2.newOf h0 g0 nf (e2.mono s2) ql)).setD i2)⟩
theorem ss_parDO (hc : X.calm = true) (hN : X.N.Nodup) (hi : X.N[i]? = some x) (hj : X.N[j]? = some y) (hx : X.env.scope.names.lookup x = some .local) (hy : X.env.scope.names.lookup y = some .local) (ha : SE R X a w1) (hb : SF R X b w2) (hij : i ≠ j := by decide)
    (hw : swappedStores [.Tuple [.Name x px, .Name y py] kt pt] (.Tuple [a, b] k2 pt2) X.env = pure (some [x, y]) := by rfl) (hs : swapsWithSole [.Tuple [.Name x px, .Name y py] kt pt] (.Tuple [a, b] k2 pt2) pos.line X.env = pure false := by rfl)
    (hs1 : starEach [a, b] X.env = (false, eval a X.env) :: starEach [b] X.env := by rfl) (hs2 : starEach [b] X.env = (false, eval b X.env) :: starEach [] X.env := by rfl) : SS R X (.Assign [.Tuple [.Name x px, .Name y py] kt pt] (.Tuple [a, b] k2 pt2) pos) (wParDO i j w1 w2) := by
  refine ⟨fun B => PS.imp (ps_par hc hN hi hj hij hx hy (pa_cons (ha.pe B) (pa_cons (hb.pe B) pa_nil hs2) hs1) hw hs) fun D σ H ⟨ρ, G, r, q⟩ => ?_, fun D D' ρ l => ha.mono ρ _ _ fun x ρ1 => hb.mono ρ1 _ _ fun y ρ2 q => l.nx _ q⟩
  refine ⟨ρ, G, r, ha.mono ρ _ _ (fun d ρ1 q v G1 H1 s1 r1 i1 => ⟨ρ1, G1, r1, hb.mono ρ1 _ _ (fun d2 ρ2 q u G2 H2 s2 r2 n2 => ⟨_, _, rfl, ?_⟩) q⟩) q⟩
  have r3 := r2.setO (i := j) n2
  have := r3.setD (i := i) (i1.mono s2)
  rw [List.set_comm _ _ (Ne.symm hij), List.set_comm _ _ (Ne.symm hij)] at this
  exact q _ G2 H2 (s1.trans s2) this
end
end DL
namespace DL
open PySem PySem.Spec PyProof.Rows L2
/-! ## loops, once for all -/
theorem wLoop_inv {g : WG} {b : WS} {D : En} (I : List PyData → Sls → Prop)
    (stp : ∀ x xs ρ (N : Sls → Prop), I (x :: xs) ρ → (∀ ρ', I xs ρ' → N ρ') → g x ρ fun ρ1 => b { D with nx := N, ct := N, bk := D.nx } ρ1)
    (fin : ∀ ρ, I [] ρ → D.nx ρ) : ∀ xs ρ, I xs ρ → wLoop g b xs D ρ
  | [], ρ, h => fin ρ h
  | x :: xs, ρ, h => stp x xs ρ (wLoop g b xs D) h fun ρ' h' => wLoop_inv I stp fin xs ρ' h'
/-- a while by a measure -/
theorem wWh_inv {t : WT} {b : WS} {D : En} (I : Nat → Sls → Prop)
    (stp : ∀ n ρ (N : Sls → Prop), I n ρ → (∀ m ρ', m < n → I m ρ' → N ρ') → t ρ fun c ρ1 => if c = true then b { D with nx := N, ct := N, bk := D.nx } ρ1 else D.nx ρ1) {ρ : Sls} {n : Nat} (h : I n ρ) : wWh t b D ρ := by
  refine ⟨n + 1, ?_⟩
  have : ∀ k n ρ, n < k → I n ρ → wWhN t b k D ρ := fun k => by
    induction k with
    | zero => intro n ρ hn; exact absurd hn (Nat.not_lt_zero n)
    | succ k ih => intro n ρ hn h; exact stp n ρ (wWhN t b k D) h fun m ρ' hm hi => ih m ρ' (by omega) hi
  exact this _ n ρ (Nat.lt_succ_self n) h
/-- what a comprehension makes: of each item none or one -/
inductive Each (A : PyData → List PyData → Prop) : List PyData → List PyData → Prop
  | nil : Each A [] []
  | cons {x : PyData} {xs ys zs : List PyData} (h : A x ys) (t : Each A xs zs) : Each A (x :: xs) (ys ++ zs)
theorem wLcL_inv {g : WG} {tt : WT} {te : WE} {vs : List Nat} {ρ0 : Sls} (I : Sls → Prop) (A : PyData → List PyData → Prop) (hA : ∀ x ys, A x ys → ys.length ≤ 1) {Q : List PyData → Sls → Prop} : ∀ (xs acc : List PyData) (ρ : Sls),
    (∀ x, x ∈ xs → ∀ ρ, I ρ → ∀ k : List PyData → Sls → Prop, (∀ ys ρ', A x ys → I ρ' → k ys ρ') → g x (wipS ρ vs) fun ρ1 => tt ρ1 fun c ρ2 => if c = true then te ρ2 fun d ρ3 => k [d] ρ3 else k [] ρ2) →
    acc.length + xs.length ≤ sizeLine → I ρ → (∀ zs ρ', Each A xs zs → I ρ' → Q (acc ++ zs) (backS ρ0 ρ' vs)) → wLcL g tt te vs ρ0 xs acc ρ Q
  | [], acc, ρ, _, _, hi, h => by
    have := h [] ρ .nil hi
    rw [List.append_nil] at this
    exact this
  | x :: xs, acc, ρ, stp, hl, hi, h => by
    show g x (wipS ρ vs) fun ρ1 => tt ρ1 fun c ρ2 => if c = true then te ρ2 fun d ρ3 => acc.length < sizeLine ∧ wLcL g tt te vs ρ0 xs (acc ++ [d]) ρ3 Q else wLcL g tt te vs ρ0 xs acc ρ2 Q
    have key := stp x List.mem_cons_self ρ hi (fun ys ρ' => (ys ≠ [] → acc.length < sizeLine) ∧ wLcL g tt te vs ρ0 xs (acc ++ ys) ρ' Q) fun ys ρ' ha hi' => ⟨fun _ => by simp at hl; omega, ?_⟩
    · simpa using key
    · have hy := hA x ys ha
      refine wLcL_inv I A hA xs (acc ++ ys) ρ' (fun y hy => stp y (List.mem_cons_of_mem _ hy)) (by simp at hl ⊢; omega) hi' fun zs ρ2 he hi2 => ?_
      rw [List.append_assoc]
      exact h _ ρ2 (.cons ha he) hi2
/-- .. told by a function -/
theorem wLcL_map {g : WG} {tt : WT} {te : WE} {vs : List Nat} {ρ0 : Sls} (I : Sls → Prop) (f : PyData → List PyData) (hf : ∀ x, (f x).length ≤ 1) {Q : List PyData → Sls → Prop} (xs : List PyData) (ρ : Sls)
    (stp : ∀ x, x ∈ xs → ∀ ρ, I ρ → ∀ k : List PyData → Sls → Prop, (∀ ρ', I ρ' → k (f x) ρ') → g x (wipS ρ vs) fun ρ1 => tt ρ1 fun c ρ2 => if c = true then te ρ2 fun d ρ3 => k [d] ρ3 else k [] ρ2)
    (hl : xs.length ≤ sizeLine) (hi : I ρ) (h : ∀ ρ', I ρ' → Q (xs.flatMap f) (backS ρ0 ρ' vs)) : wLcL g tt te vs ρ0 xs [] ρ Q := by
  refine wLcL_inv I (fun x ys => ys = f x) (fun x ys e => e ▸ hf x) xs [] ρ (fun x hx ρ hi k hk => stp x hx ρ hi k fun ρ' hi' => hk _ ρ' rfl hi') (by simpa using hl) hi fun zs ρ' he hi' => ?_
  have e : ∀ {xs zs}, Each (fun x ys => ys = f x) xs zs → zs = xs.flatMap f := fun h => by
    induction h with
    | nil => rfl
    | cons h t ih => subst h; rw [ih]; simp
  rw [List.nil_append, e he]
  exact h ρ' hi'
theorem flatMap_one {α : Type} (f : α → PyData) (xs : List α) (g : α → PyData) : (xs.map f).flatMap (fun x => [x]) = xs.map f := by
  induction xs with
  | nil => rfl
  | cons x xs ih => simp [ih]
/-- one a turn -/
theorem wLcL_all {α : Type} {g : WG} {te : WE} {vs : List Nat} {ρ0 : Sls} (I : Sls → Prop) (en : α → PyData) (P : PyData → Prop) {Q : List PyData → Sls → Prop} (xs : List α) (ρ : Sls)
    (stp : ∀ x, x ∈ xs → ∀ ρ, I ρ → ∀ k : PyData → Sls → Prop, (∀ y ρ', P y → I ρ' → k y ρ') → g (en x) (wipS ρ vs) fun ρ1 => te ρ1 k)
    (hl : xs.length ≤ sizeLine) (hi : I ρ) (h : ∀ zs ρ', zs.length = xs.length → (∀ z ∈ zs, P z) → I ρ' → Q zs (backS ρ0 ρ' vs)) : wLcL g wYes te vs ρ0 (xs.map en) [] ρ Q := by
  refine wLcL_inv I (fun x ys => ∃ y, ys = [y] ∧ P y) (fun x ys ⟨y, e, _⟩ => by subst e; simp) _ [] ρ (fun x hx ρ hi k hk => ?_) (by simpa using hl) hi fun zs ρ' he hi' => ?_
  · obtain ⟨a, ha, rfl⟩ := List.mem_map.mp hx
    show g (en a) (wipS ρ vs) fun ρ1 => te ρ1 fun d ρ3 => k [d] ρ3
    exact stp a ha ρ hi (fun d ρ3 => k [d] ρ3) fun y ρ' hp hi' => hk [y] ρ' ⟨y, rfl, hp⟩ hi'
  · have e : ∀ {us zs}, Each (fun x ys => ∃ y, ys = [y] ∧ P y) us zs → zs.length = us.length ∧ ∀ z ∈ zs, P z := fun h => by
      induction h with
      | nil => exact ⟨rfl, fun z hz => absurd hz (by simp)⟩
      | cons h t ih =>
        obtain ⟨y, rfl, hy⟩ := h
        refine ⟨by simp [ih.1], fun z hz => ?_⟩
        rcases List.mem_cons.mp hz with rfl | hz
        · exact hy
        · exact ih.2 z hz
    obtain ⟨e1, e2⟩ := e he
    rw [List.nil_append]
    exact h zs ρ' (by rw [e1, List.length_map]) e2 hi'
end DL
namespace DL
open PySem PySem.Spec PyProof.Rows L2
/-! ## fresh cells by operators of two -/
structure LkF2 (R : Res) (K : PySem.W.Frag) (r : R2) (f : D2) : Prop where
  to : ∀ (B : Bs) (G : Hp) (ρ : Sls) (σ : L2.St) (H : Hp) (v u : V) (x y : PyData) (Q : VK), Rel R K B G ρ σ H → IsH K G H v x → IsH K G H u y → f x y (AftF R K B G ρ σ Q) → r v u H Q
  mono : ∀ x y (q q' : PyData → Prop), (∀ z, q z → q' z) → f x y q → f x y q'
theorem mono_op2F {R : Res} {K : PySem.W.Frag} {r : R2} {f : D2} {a b : Od} (L : LkF2 R K r f) (ma : a.Mono) (mb : b.Mono) : MonoE (wOp2 f a b) := fun ρ Q Q' h => ma.run fun ga ρ1 q => mb.run (fun gb ρ2 ⟨x, y, e1, e2, q⟩ => ⟨x, y, e1, e2, L.mono x y _ _ (fun z q => h z ρ2 q) q⟩) q
theorem sf_bin {R : Res} {X : Cx} {op : Operator} {e1 e2 : Expr} {a b : Od} {r : R2} {f : D2} {pos : Pos} (ho : OpR X (binaryOp op) r) (L : LkF2 R X.K r f) (ha : SO R X e1 a) (hb : SO R X e2 b) : SF R X (.BinOp e1 op e2 pos) (wOp2 f a b) := by
  refine ⟨fun B => PE.imp (pe_op ho (ha.pe B) (hb.pe B)) fun σ H Q ⟨ρ, G, rl, h⟩ => ?_, mono_op2F L ha.mono hb.mono⟩
  refine od_step ha.mono rl h fun ga ρ1 v G1 H1 s1 r1 i1 h1 => ?_
  refine od_step hb.mono r1 h1 fun gb ρ2 u G2 H2 s2 r2 i2 h2 => ?_
  obtain ⟨x, y, e1, e2, q⟩ := h2
  exact L.to B G2 ρ2 σ H2 v u x y _ r2 ((i1.mono s2).at r2 e1) (i2.at r2 e2) (L.mono _ _ _ _ (fun z q v' G3 H3 s3 r3 n => q v' G3 H3 ((s1.trans s2).trans s3) r3 n) q)
@[simp] def catD : D2
  | .list a, .list b, q => a.length + b.length ≤ sizeLine ∧ q (.list (a ++ b))
  | _, _, _ => False
theorem lkF_cat {R : Res} {K : PySem.W.Frag} : LkF2 R K rCat catD := by
  refine ⟨fun B G ρ σ H v u x y Q r hx hy h => ?_, fun x y q q' hq h => ?_⟩
  · cases hx <;> cases hy <;> first
      | exact h.elim
      | skip
    rename_i a vs ds sa ha b us es sb hb
    exact ⟨a, b, vs, us, rfl, rfl, sa, sb, by rw [ha.length, hb.length]; exact h.1, fun p np => aftF h.2 r np (.lst (ha.append hb))⟩
  · unfold catD at h ⊢
    split at h
    · exact ⟨h.1, hq _ h.2⟩
    · exact h.elim
/-! ## a list turned about -/
@[simp] def wRevL (w : WE) : WE := fun ρ Q => w ρ fun d ρ' => ∃ ds, d = .list ds ∧ Q (.list ds.reverse) ρ'
theorem se_revL {R : Res} {X : Cx} {e : Expr} {w : WE} {k : Nat} {p1 p2 p3 pos : Pos} (he : SE R X e w) : SE R X (.Subscript e (.Slice none none (some (.UnaryOp .USub (.Constant (.int 1) k p1) p2)) p3) pos) (wRevL w) := by
  refine ⟨fun B => PE.imp (pe_revL (he.pe B)) fun σ H Q ⟨ρ, G, r, q⟩ => ⟨ρ, G, r, he.mono ρ _ _ (fun d ρ' ⟨ds, e, q⟩ v G' H' s r' i => ?_) q⟩, fun ρ Q Q' hq => he.mono ρ _ _ fun d ρ' ⟨ds, e, q⟩ => ⟨ds, e, hq _ _ q⟩⟩
  subst e
  cases i with
  | lst sa ha => exact ⟨_, _, rfl, .of (r'.sub _ _ sa), fun p np => q _ _ _ (s.trans (upd_new (r'.sub.free np))) (r'.laid np) (.lst upd_same (Iss.mono (upd_new (r'.sub.free np)) ha.rev))⟩
/-! ## list(range(n)) -/
@[simp] def wLstRg (w : WE) : WE := fun ρ Q => w ρ fun d ρ' => ∃ n, d = .int n ∧ 0 ≤ n ∧ n ≤ 16777216 ∧ Q (.list (rngD 0 n.toNat)) ρ'
theorem iss_rng {K : PySem.W.Frag} {G : Hp} (n : Int) : Iss K G (rgV 0 n) (rngD 0 n.toNat) := by
  have : ∀ l : List Nat, Iss K G (l.map fun i => V.int (0 + (i : Nat))) (l.map fun i => PyData.int (0 + (i : Nat))) := fun l => by
    induction l with
    | nil => exact .nil
    | cons i l ih => exact .cons (.int _) ih
  have h := this (List.range n.toNat)
  unfold rgV rngD
  rw [Int.sub_zero]
  exact h
theorem sf_lstRg {R : Res} {X : Cx} {e : Expr} {w : WE} {p p2 pos pos2 : Pos} (hc : X.calm = true) (hg : Gl X "list") (hm : X.mg "list" = none) (hg2 : Gl X "range") (hm2 : X.mg "range" = none) (he : SE R X e w)
    (na : starEach [e] X.env = (false, eval e X.env) :: starEach [] X.env := by rfl) : SF R X (.Call (.Name "list" p) [.Call (.Name "range" p2) [e] [] pos2] [] pos) (wLstRg w) := by
  refine ⟨fun B => PE.imp (pe_listRg hc hg hm (prg_1 hg2 hm2 (he.pe B) na)) fun σ H Q ⟨ρ, G, r, q⟩ => ⟨ρ, G, r, he.mono ρ _ _ (fun d ρ' ⟨n, e, h0, h1, q⟩ v G' H' s r' i => ?_) q⟩, fun ρ Q Q' hq => he.mono ρ _ _ fun d ρ' ⟨n, e, h0, h1, q⟩ => ⟨n, e, h0, h1, hq _ _ q⟩⟩
  subst e
  cases i
  exact ⟨n, rfl, RgOk.of_le (Int.le_refl _) h1 (by decide) h0, fun p np => aftF (fun v G2 H2 s2 r2 n2 => q v G2 H2 (s.trans s2) r2 n2) r' np (.lst (iss_rng n))⟩
/-! ## sorted pairs -/
def dpr (p : Int × Int) : PyData := .tuple [.int p.1, .int p.2]
/-- the order of pairs -/
def leP (p q : Int × Int) : Prop := p.1 < q.1 ∨ (p.1 = q.1 ∧ p.2 ≤ q.2)
instance (p q : Int × Int) : Decidable (leP p q) := by unfold leP; exact inferInstance
/-- the values at hand are pairs so -/
inductive PrsAt (K : PySem.W.Frag) (H : Hp) : List V → List (Int × Int) → Prop
  | nil : PrsAt K H [] []
  | cons {t : Addr} {vs : List V} {p : Int × Int} {ps : List (Int × Int)} (h : SqT K H t [.int p.1, .int p.2]) (r : PrsAt K H vs ps) : PrsAt K H (.ref t :: vs) (p :: ps)
def rSortP (K : PySem.W.Frag) : List V → Hp → VK → Prop := fun vs H Q => ∃ (a : Addr) (xs : List V) (ps : List (Int × Int)), vs = [V.ref a] ∧ (SqL K H a xs ∨ SqT K H a xs) ∧ PrsAt K H xs ps ∧
  ∀ (zs : List (V × (Int × Int))) (p : Addr), zs.Perm (xs.zip ps) → (zs.map (·.2)).Pairwise leP → H p = none → Q (.ref p) (upd H p (.lst (zs.map (·.1))))
theorem isPair_uniq {h : Heap} {u : Value} {i j i' j' : Int} (x : Srt.IsPair h u i j) (y : Srt.IsPair h u i' j') : i = i' ∧ j = j' := by
  obtain ⟨t, o, t1, t2, n, rfl, e, c, d⟩ := x
  obtain ⟨t', o', t1', t2', n', e', f', c', d'⟩ := y
  cases e'
  rw [e] at f'
  cases f'
  rw [d] at d'
  simp at d'
  exact ⟨d'.1.1.1, d'.1.2.1⟩
open Classical in
/-- which pair a value is -/
noncomputable def prOf (h : Heap) (u : Value) : Int × Int := if x : ∃ p : Int × Int, Srt.IsPair h u p.1 p.2 then x.choose else (0, 0)
theorem prOf_eq {h : Heap} {u : Value} {p : Int × Int} (x : Srt.IsPair h u p.1 p.2) : prOf h u = p := by
  have e : ∃ p : Int × Int, Srt.IsPair h u p.1 p.2 := ⟨p, x⟩
  unfold prOf
  rw [dif_pos e]
  have z := isPair_uniq e.choose_spec x
  exact Prod.ext z.1 z.2
section
variable {X : Cx} {pins : List (Addr × Obj)} {σ : L2.St} {H : Hp} {s : Shared}
theorem pair_at (I : Inv X pins σ H s) {t : Addr} {i j : Int} (h : SqT X.K H t [.int i, .int j]) : Srt.IsPair s.heap (.ref t) i j := by
  obtain ⟨its, rv, ⟨o, ho, hc, n, hd⟩, _⟩ := I.tuple h
  obtain ⟨u1, u2, rfl, ri, rj⟩ := vals2 rv
  obtain ⟨t1, rfl⟩ := ri
  obtain ⟨t2, rfl⟩ := rj
  exact ⟨t, o, t1, t2, n, rfl, ho, hc, hd⟩
theorem prs_vals (I : Inv X pins σ H s) : ∀ {xs : List V} {ps : List (Int × Int)} {its : List Value}, PrsAt X.K H xs ps → Vals xs its → its.map (fun u => (backV u, prOf s.heap u)) = xs.zip ps ∧ (∀ u ∈ its, ∃ t, u = .ref t ∧ SqT X.K H t [.int (prOf s.heap u).1, .int (prOf s.heap u).2])
  | _, _, _, .nil, r => by
    cases r
    exact ⟨rfl, fun u hu => absurd hu (by simp)⟩
  | _, _, _, .cons h t, r => by
    cases r with
    | cons r1 r2 =>
      cases r1
      obtain ⟨e1, e2⟩ := prs_vals I t r2
      have e := prOf_eq (p := _) (pair_at I h)
      refine ⟨by rw [List.map_cons, e1, e]; rfl, fun u hu => ?_⟩
      rcases List.mem_cons.mp hu with rfl | hu
      · exact ⟨_, rfl, by rw [e]; exact h⟩
      · exact e2 u hu
end
theorem lexB_le {p q : Int × Int} (h : SrtO.lexB q p = false) : leP p q := by
  have a := SrtO.lexB_no.mp h
  unfold leP
  omega
theorem cr_sortP {X : Cx} : CallR X (.builtin "sorted") (rSortP X.K) := by
  intro pins s σ H vs us Q I r h
  obtain ⟨a, xs, ps, rfl, hs, hx, q⟩ := h
  have key : ∀ its : List Value, Vals xs its → (2 ≤ its.length → ∀ (h₁ : Heap) (b : Addr), h₁.get? b = some (seqObj "list" its.toArray 0) → (∀ c o, s.heap.get? c = some o → c ≠ b ∧ h₁.get? c = some o) → SrtO.SortableO X.prog X.w X.A.in1.in1 { s with heap := h₁ } b its (fun u v => SrtO.lexB (prOf s.heap u) (prOf s.heap v))) ∧
      ∀ out : List Value, SrtO.Srtd (fun u v => SrtO.lexB (prOf s.heap u) (prOf s.heap v)) out → SrtO.Stb (fun u v => SrtO.lexB (prOf s.heap u) (prOf s.heap v)) out its → its.length ≤ sizeLine → EP X pins σ Q (.ref (s.heap.objs.size + 1)) { s with heap := sortedAll s.heap its out.toArray } := by
    intro its rv
    obtain ⟨e1, e2⟩ := prs_vals I hx rv
    refine ⟨fun h2 h₁ b hb keep => ?_, fun out h1 h2 hz => ?_⟩
    · refine SrtO.pairs_sortableO (by omega) (fun v hv => ?_) fun o e => ?_
      · obtain ⟨t, rfl, ht⟩ := e2 v hv
        obtain ⟨t', o, t1, t2, n, e3, e4, e5, e6⟩ := pair_at I ht
        cases e3
        exact ⟨t, o, t1, t2, n, rfl, (keep t o e4).2, e5, e6⟩
      · have e' : some o = some (seqObj "list" its.toArray 0) := e.symm.trans hb
        cases e'
        intro c
        exact absurd (Value.type.inj c) (by decide)
    · have p2 : ∀ u ∈ out, ∃ a, u = Value.ref a := fun u hu => by
        obtain ⟨t, e, _⟩ := e2 u (h2.perm.mem_iff.mp hu)
        exact ⟨t, e⟩
      obtain ⟨ep, he⟩ := PyProof.Rows.sortedAll_at s.heap its out.toArray
      have hl : ((out.map fun u => (backV u, prOf s.heap u)).map (·.1)).length ≤ sizeLine := by
        rw [List.length_map, List.length_map, h2.len]
        exact hz
      have e3 : (out.map fun u => (backV u, prOf s.heap u)).map (·.1) = out.map backV := by simp
      refine ⟨.ref _, upd H (s.heap.objs.size + 1) (.lst ((out.map fun u => (backV u, prOf s.heap u)).map (·.1))), I.laid (t' := s.toks) (fun _ _ => PyProof.Rows.sortedAll_old) (Nat.le_succ _) ⟨hl, out, ep, by rw [e3]; exact vals_back p2, he⟩, rfl, q _ _ ?_ ?_ (I.hok.fresh (Nat.le_succ _))⟩
      · rw [← e1]
        exact h2.perm.map _
      · rw [List.map_map]
        exact List.pairwise_map.mpr (h1.imp fun {u v} h => lexB_le h)
  rcases hs with hs | hs
  · obtain ⟨its, rv, hl, hz⟩ := I.list hs
    obtain ⟨k1, k2⟩ := key its rv
    rw [Vals.ref1 r]
    exact SrtO.sorted_ord (SrtO.swo_lex (prOf s.heap)) hl.isList (by rw [← rv.length]; exact hz) k1 fun out h1 h2 => k2 out h1 h2 (by rw [← rv.length]; exact hz)
  · obtain ⟨its, rv, ht, hz⟩ := I.tuple hs
    obtain ⟨k1, k2⟩ := key its rv
    rw [Vals.ref1 r]
    exact sorted_ordT (SrtO.swo_lex (prOf s.heap)) (show s.heap.IsTuple a its.toArray from ht) (by rw [← rv.length]; exact hz) k1 fun out h1 h2 => k2 out h1 h2 (by rw [← rv.length]; exact hz)
/-- sorted of numbers, or of pairs -/
@[simp] def sortXD : D1 := fun x q => (∃ ns : List Int, (x = .list (ns.map PyData.int) ∨ x = .tuple (ns.map PyData.int)) ∧ ∀ ns' : List Int, ns'.Perm ns → ns'.Pairwise (· ≤ ·) → q (.list (ns'.map PyData.int))) ∨
  ∃ ps : List (Int × Int), (x = .list (ps.map dpr) ∨ x = .tuple (ps.map dpr)) ∧ ∀ ps' : List (Int × Int), ps'.Perm ps → ps'.Pairwise leP → q (.list (ps'.map dpr))
def rSortX (K : PySem.W.Frag) : List V → Hp → VK → Prop := fun vs H Q => rSortA K vs H Q ∨ rSortP K vs H Q
theorem cr_sortX {X : Cx} : CallR X (.builtin "sorted") (rSortX X.K) := fun pins s σ H vs us Q I r h => h.elim (cr_sortA pins s σ H vs us Q I r) (cr_sortP pins s σ H vs us Q I r)
theorem Iss.prs {K : PySem.W.Frag} {G H : Hp} (s : Sub G H) : ∀ {ps : List (Int × Int)} {vs : List V}, Iss K G vs (ps.map dpr) → PrsAt K H vs ps
  | [], _, h => by cases h; exact .nil
  | p :: ps, _, h => by
    cases h with
    | cons h1 h2 =>
      unfold dpr at h1
      cases h1 with
      | tup sa ha =>
        cases ha with
        | cons i1 ha =>
          cases ha with
          | cons i2 ha =>
            cases ha
            cases i1
            cases i2
            exact .cons (Sub.seqT s sa) (Iss.prs s h2)
theorem iss_zip {K : PySem.W.Frag} {G : Hp} : ∀ {vs : List V} {ps : List (Int × Int)}, Iss K G vs (ps.map dpr) → (∀ z ∈ vs.zip ps, Is K G z.1 (dpr z.2)) ∧ (vs.zip ps).map (·.2) = ps
  | [], [], _ => ⟨fun z hz => absurd hz (by simp), rfl⟩
  | [], p :: ps, h => by cases h
  | v :: vs, [], h => by cases h
  | v :: vs, p :: ps, h => by
    cases h with
    | cons h t =>
      obtain ⟨h1, h2⟩ := iss_zip t
      refine ⟨fun z hz => ?_, by simp at h2 ⊢; exact h2⟩
      rcases List.mem_cons.mp hz with rfl | hz
      · exact h
      · exact h1 z hz
theorem zip_iss {K : PySem.W.Frag} {G : Hp} : ∀ {zs : List (V × (Int × Int))}, (∀ z ∈ zs, Is K G z.1 (dpr z.2)) → Iss K G (zs.map (·.1)) ((zs.map (·.2)).map dpr)
  | [], _ => .nil
  | z :: zs, h => .cons (h z List.mem_cons_self) (zip_iss fun y hy => h y (List.mem_cons_of_mem _ hy))
theorem lkF_sortX {R : Res} {K : PySem.W.Frag} : LkF R K (fun v H Q => rSortX K [v] H Q) sortXD := by
  refine ⟨fun B G ρ σ H v x Q r hx h => ?_, fun x q q' hq h => ?_⟩
  · rcases h with ⟨ns, e, q⟩ | ⟨ps, e, q⟩
    · refine .inl (lkF_sort.to B G ρ σ H v x Q r hx ?_)
      rcases e with rfl | rfl
      · exact ⟨ns, rfl, q⟩
      · exact ⟨ns, rfl, q⟩
    · have fin : ∀ {a : Addr} {vs : List V}, (SqL K H a vs ∨ SqT K H a vs) → Iss K G vs (ps.map dpr) → rSortP K [.ref a] H Q := fun {a vs} hs ha => by
        obtain ⟨z1, z2⟩ := iss_zip ha
        refine ⟨a, vs, ps, rfl, hs, ha.prs r.sub, fun zs p hp hs np => ?_⟩
        have e : (zs.map (·.2)).Perm ps := by
          have := hp.map (·.2)
          rw [z2] at this
          exact this
        exact aftF (q _ e hs) r np (.lst (zip_iss fun z hz => z1 z (hp.mem_iff.mp hz)))
      rcases e with rfl | rfl
      · cases hx with
        | lst sa ha => exact .inr (fin (.inl (.of sa)) ha)
      · cases hx with
        | tup sa ha => exact .inr (fin (.inr (Sub.seqT r.sub sa)) ha)
  · exact h.imp (fun ⟨ns, e, k⟩ => ⟨ns, e, fun n h1 h2 => hq _ (k n h1 h2)⟩) fun ⟨ps, e, k⟩ => ⟨ps, e, fun n h1 h2 => hq _ (k n h1 h2)⟩
end DL
namespace DL
open PySem PySem.Spec PyProof.Rows L2
/-! ## a set of a list of numbers -/
section
variable {P : Program} {w : World} {A : Around} {E : Value → Shared → Prop} {s : Shared}
set_option maxHeartbeats 4000000 in
theorem set_of_list {b : Addr} {xs : Array Value} (ms : List Int) {Q : Value → Shared → Prop} (nh : A.handled = none) (hb : s.heap.IsList b xs) (hi : IntsAre xs.toList ms) (few : ms.length + 1 < scanBound)
    (fin : ∀ (h2 : Heap) (t2 c2 : Nat), SetR w h2 s.heap.objs.size (fun j => decide (j ∈ ms)) c2 → c2 ≤ ms.length → (∀ d o, s.heap.get? d = some o → h2.get? d = some o) → Q (.ref s.heap.objs.size) { s with heap := h2, toks := t2 }) :
    wpAny (model P w) A (call (.type "set") [.ref b]) Q E s := by
  have len : xs.size = ms.length := by
    have z := IntsAre.length hi
    rwa [Array.length_toList] at z
  obtain ⟨c0, t0, mro⟩ := PySem.F.called_set.mro
  have mk := PySem.F.called_set.made
  have sb := PySem.F.called_set.sub
  refine wpAny_call (codeAny_of_tree ?_)
  show wpAny _ _ (callAny (.type "set") _) _ _ _
  refine wpAny_pure ⟨Code.quiet_builtin _ (by decide +kernel), codeAny_builtin PySem.F.entry_type_call ?_⟩
  rw [Around.under_plain (weight_type_call_type "set" [.ref b] []) rfl]
  have nt := PySem.F.called_set.notType
  have cc := PySem.F.called_set.canCreate
  have tc := PySem.F.typeCall_set_1 (.ref b)
  repeat (any_goals (first | assumption | wp_step))
  refine codeAny_mono (code_set_led1 (.ref b) (E := E) (Q₁ := fun z z1 => z = .ref s.heap.objs.size ∧ z1 = { s with heap := s.heap.push { cls := .type "set", dict := none, data := .set #[] 0 (.fresh 0 0 (!w.params.followText "set-order")) } }) ⟨rfl, rfl⟩) fun r z1 hr => ?_
  cases r with
  | error e => exact hr
  | ok fl =>
    cases fl with
    | ret z =>
      obtain ⟨rfl, rfl⟩ := hr
      generalize hO : ({ cls := .type "set", dict := none, data := .set #[] 0 (.fresh 0 0 (!w.params.followText "set-order")) } : Obj) = O
      have gO : (s.heap.push O).get? s.heap.objs.size = some O := Heap.get?_push_size _ (by subst hO; rfl)
      have tO : Shared.TypeIs { s with heap := s.heap.push O } (.ref s.heap.objs.size) "set" := ⟨_, gO, by subst hO; rfl⟩
      have lk := PySem.F.called_set.init.lookup
      have bd := PySem.F.called_set.init.bind (.ref s.heap.objs.size)
      repeat (any_goals (first | assumption | wp_step))
      refine codeAny_mono (codeAny_call_builtin (R := wants (fun r z2 => r = .none ∧ ∃ h2 t2 c2, z2 = { s with heap := h2, toks := t2 } ∧ SetR w h2 s.heap.objs.size (fun j => decide (j ∈ ms)) c2 ∧ c2 ≤ ms.length ∧
          (∀ d o, s.heap.get? d = some o → h2.get? d = some o)) E) PySem.F.called_set.init.plain PySem.F.entry_set_init (check_set_init_1 tO ?_)) fun r2 z2 hr2 => ?_
      · subst hO
        obtain ⟨ob, gb, kb, nb, db⟩ := hb
        obtain ⟨obc, obd, obt, obs⟩ := ob
        simp only at kb db
        subst kb; subst db
        have gb' : (s.heap.push { cls := .type "set", dict := none, data := .set #[] 0 (.fresh 0 0 (!w.params.followText "set-order")) }).get? b = some { cls := .type "list", dict := obd, data := .seq xs nb, slots := obs } := Heap.get?_push_of_some _ gb
        have s1 := PySem.F.sub_list_set
        have s2 := PySem.F.sub_list_frozenset
        have ne : (Value.type "list" == Value.type "dict") = false := by decide
        have lb : (s.heap.push { cls := .type "set", dict := none, data := .set #[] 0 (.fresh 0 0 (!w.params.followText "set-order")) }).IsList b xs := ⟨_, gb', rfl, nb, rfl⟩
        unfold Builtin.«set.__init__» noKeywords Builtin.Frozenset.updateFrom
        generalize hit : pyIter = it
        wp_walk
        subst hit
        refine wpAny_pyIter_list lb ?_
        refine wpAny_bind (wpAny_runValue ?_)
        have ltb : b < s.heap.objs.size := Heap.lt_size gb
        have nh3 : A.in1.in1.in1.handled = none := by simp [nh]
        have neI : b ≠ (s.heap.push { cls := .type "set", dict := none, data := .set #[] 0 (.fresh 0 0 (!w.params.followText "set-order")) }).objs.size := by
          rw [Heap.size_push]
          exact Nat.ne_of_lt (Nat.le_succ_of_le ltb)
        have nin : s.heap.objs.size ∉ [(s.heap.push { cls := .type "set", dict := none, data := .set #[] 0 (.fresh 0 0 (!w.params.followText "set-order")) }).objs.size, b] := by
          rw [Heap.size_push]
          simp only [List.mem_cons, List.not_mem_nil, or_false, not_or]
          exact ⟨Nat.ne_of_lt (Nat.lt_succ_self _), (Nat.ne_of_lt ltb).symm⟩
        have val : ∀ (i : Nat) (v : Value), xs[i]? = some v → ∃ k t, ms[i]? = some k ∧ v = .int k t := fun i v hv => by
          have lti : i < ms.length := len ▸ (Array.getElem?_eq_some_iff.mp hv).1
          obtain ⟨t, et⟩ := PyProof.Rows.IntsAre.int_at hi i v (by rw [Array.getElem?_toList]; exact hv)
          refine ⟨ms[i], t, List.getElem?_eq_getElem lti, ?_⟩
          rw [et, List.getD_eq_getElem?_getD, List.getElem?_eq_getElem lti]
          rfl
        refine set_update_ints ((Walks.list nh3 _ b neI xs).toS) s.heap.objs.size nin ms len few val (xs.size - 0) 0 _ (by omega) (Nat.zero_le _) ⟨⟨_, Heap.get?_push_size _ rfl, rfl, rfl⟩, (lb.push _)⟩ ?first ?last
        case first =>
          refine ⟨0, Nat.le_refl 0, setR_new_at (Heap.get?_push_of_some _ (?_ : (s.heap.push { cls := .type "set", dict := none, data := .set #[] 0 (.fresh 0 0 (!w.params.followText "set-order")) }).get? s.heap.objs.size = _))⟩
          exact gO
        case last =>
          intro z3 c3 mv hc3 h3
          obtain ⟨h2, g2, d2, t2, o2⟩ := z3
          have q1 : g2 = s.gens := mv.gens
          have q2 : d2 = s.drawn := mv.drawn
          have q3 : o2 = s.os := mv.os
          subst q1; subst q2; subst q3
          show wpAny _ _ _ _ _ _
          refine wpAny_pure ?_
          show wpAny _ _ (ret Value.none) _ _ _
          refine wpAny_pure ⟨rfl, h2, t2, c3, rfl, h3, by rw [← len]; exact hc3, fun d o e => ?_⟩
          have l0 : d < s.heap.objs.size := Heap.lt_size e
          refine mv.heap d o ?_ (Heap.get?_push_of_some _ (Heap.get?_push_of_some _ e))
          rw [Heap.size_push]
          simp only [List.mem_cons, List.not_mem_nil, or_false, not_or]
          exact ⟨Nat.ne_of_lt l0, Nat.ne_of_lt (Nat.le_succ_of_le l0)⟩
      · cases r2 with
        | error e => exact hr2
        | ok f2 =>
          cases f2 with
          | ret r =>
            obtain ⟨rfl, h2, t2, c2, rfl, k1, k2, k3⟩ := hr2
            repeat (any_goals (first | assumption | wp_step))
            exact fin _ _ _ k1 k2 k3
          | _ => exact hr2.elim
    | _ => exact hr.elim
end
def rSetL (K : PySem.W.Frag) (w : World) : List V → Hp → VK → Prop := fun xs H Q => ∃ (b : Addr) (ms : List Int), xs = [V.ref b] ∧ SqL K H b (ms.map V.int) ∧ ms.length + 1 < scanBound ∧ (∀ l : List Int, l.Nodup → (∀ k ∈ l, k ∈ ms) → l.length < 64) ∧
  ∀ (a : Addr) (c : Nat), c < 64 → H a = none → Q (.ref a) (upd H a (SetO w a (fun j => decide (j ∈ ms)) c))
theorem cr_setL {X : Cx} (hc : X.calm = true) : CallR X (.type "set") (rSetL X.K X.w) := by
  intro pins s σ H xs us Q I r h
  obtain ⟨b, ms, rfl, hs, few, dist, q⟩ := h
  obtain ⟨its, rv, hl, hz⟩ := I.list hs
  rw [Vals.ref1 r]
  refine set_of_list ms (I.ok.hd hc) hl.isList (by simpa using rv.ints) few fun h2 t2 c2 k1 k2 k3 => ?_
  have c64 : c2 < 64 := by
    obtain ⟨o, es, ep, t, _, _, _, _, nd, hm, _, _, hn, _⟩ := id k1
    have := dist (es.toList.map keyOf) nd fun k hk => of_decide_eq_true ((hm k).mpr hk)
    rw [List.length_map, Array.length_toList] at this
    omega
  exact ⟨.ref _, upd H s.heap.objs.size (SetO X.w s.heap.objs.size (fun j => decide (j ∈ ms)) c2), I.laid (t' := t2) k3 (Nat.le_refl _) (setO_new k1), rfl, q _ _ c64 (I.hok.fresh (Nat.le_refl _))⟩
/-- sorted(set(xs)) -/
@[simp] def wSortSet (w : WE) : WE := fun ρ Q => w ρ fun d ρ' => ∃ ms : List Int, d = .list (ms.map PyData.int) ∧ ms.length ≤ 2000 ∧ (∀ k ∈ ms, 0 ≤ k ∧ k < 60) ∧ ∀ ns : List Int, ns.Pairwise (· < ·) → (∀ k, k ∈ ns ↔ k ∈ ms) → Q (.list (ns.map PyData.int)) ρ'
theorem nodup_lt : ∀ (n : Nat) (l : List Nat), l.Nodup → (∀ k ∈ l, k < n) → l.length ≤ n
  | 0, [], _, _ => Nat.le_refl _
  | 0, x :: _, _, h => absurd (h x List.mem_cons_self) (Nat.not_lt_zero _)
  | n + 1, l, nd, h => by
    by_cases hn : n ∈ l
    · have := nodup_lt n (l.erase n) (nd.erase n) fun k hk => by
        have h1 := h k (List.mem_of_mem_erase hk)
        have h2 : k ≠ n := fun z => by
          subst z
          exact (nd.not_mem_erase) hk
        omega
      rw [List.length_erase_of_mem hn] at this
      omega
    · have := nodup_lt n l nd fun k hk => by
        have h1 := h k hk
        have h2 : k ≠ n := fun z => hn (z ▸ hk)
        omega
      omega
theorem few_of {l : List Int} (nd : l.Nodup) : (∀ k ∈ l, 0 ≤ k ∧ k < 60) → l.length < 64 := fun h => by
  have e : (l.map Int.toNat).Nodup := by
    rw [List.nodup_iff_pairwise_ne, List.pairwise_map]
    refine List.Pairwise.imp_of_mem ?_ (List.nodup_iff_pairwise_ne.mp nd)
    intro a b ha hb ne z
    have := h a ha
    have := h b hb
    omega
  have s := nodup_lt 60 (l.map Int.toNat) e fun k hk => by
    obtain ⟨a, ha, rfl⟩ := List.mem_map.mp hk
    have := h a ha
    omega
  rw [List.length_map] at s
  omega
theorem sf_sortSet {R : Res} {X : Cx} {e : Expr} {w : WE} {p p2 pos pos2 : Pos} (hc : X.calm = true) (hg : Gl X "sorted") (hm : X.mg "sorted" = none) (hg2 : Gl X "set") (hm2 : X.mg "set" = none) (he : SE R X e w)
    (na : starEach [e] X.env = (false, eval e X.env) :: starEach [] X.env := by rfl) (nb : starEach [Expr.Call (.Name "set" p2) [e] [] pos2] X.env = (false, eval (.Call (.Name "set" p2) [e] [] pos2) X.env) :: starEach [] X.env := by rfl)
    (h1 : (backTo pos (starEach [] X.env)).any (·.1) = false := by rfl) (h2 : (backTo pos2 (starEach [] X.env)).any (·.1) = false := by rfl) : SF R X (.Call (.Name "sorted" p) [.Call (.Name "set" p2) [e] [] pos2] [] pos) (wSortSet w) := by
  refine ⟨fun B => PE.imp (pe_callB (cr_sortedSet hc) hg hm (by decide +kernel) (pa_cons (pe_callTy (cr_setL hc) hg2 hm2 (by decide +kernel) (pa_cons (he.pe B) pa_nil na) (by decide) (by decide) na h2) pa_nil nb) (by decide) (by decide) nb h1) fun σ H Q ⟨ρ, G, r, q⟩ => ⟨ρ, G, r, he.mono ρ _ _ (fun d ρ' ⟨ms, e, l, bd, q⟩ v G' H' s r' i => ?_) q⟩, fun ρ Q Q' hq => he.mono ρ _ _ fun d ρ' ⟨ms, e, l, bd, q⟩ => ⟨ms, e, l, bd, fun ns a b => hq _ _ (q ns a b)⟩⟩
  subst e
  cases i with
  | lst sa ha =>
    rw [ha.intsV] at sa
    refine ⟨_, ms, rfl, .of (r'.sub _ _ sa), Nat.lt_of_le_of_lt (Nat.succ_le_succ l) (by decide), fun l nd hl => few_of nd fun k hk => bd k (hl k hk), fun a c hc na => ?_⟩
    refine ⟨a, _, c, rfl, upd_same, hc, fun ns p h1 h2 h3 np => ?_⟩
    have h2' : ∀ k, k ∈ ns ↔ k ∈ ms := fun k => (h2 k).trans decide_eq_true_iff
    exact aftF (fun v G2 H2 s2 r2 n2 => q ns h1 h2' v G2 H2 (s.trans s2) r2 n2) (r'.up na) np (.lst (Iss.ints ns))
end DL
namespace DL
open PySem PySem.Spec PyProof.Rows L2
/-! ## many new objects at once -/
theorem Inv.more {X : Cx} {pins : List (Addr × Obj)} {σ : L2.St} {H H' : Hp} {s : Shared} {h' : Heap} {tk : Nat} (I : Inv X pins σ H s) (hk : ∀ b o, s.heap.get? b = some o → h'.get? b = some o) (old : ∀ b, b < s.heap.objs.size → H' b = H b)
    (new : ∀ b u, H' b = some u → b < s.heap.objs.size ∨ ObjOk X.prog X.w H' h' b u) : Inv X pins σ H' { s with heap := h', toks := tk } := by
  have low : ∀ b u, H b = some u → b < s.heap.objs.size := fun b u e => by
    by_cases hb : b < s.heap.objs.size
    · exact hb
    · rw [I.hok.fresh (Nat.le_of_not_lt hb)] at e
      cases e
  have kp : ∀ b u, H b = some u → H' b = some u := fun b u e => (old b (low b u e)).trans e
  refine I.call' (ch := []) rfl ⟨fun b o q _ _ _ => hk b o q, fun b o q _ _ _ => ⟨o.slots, hk b o q⟩, fun b o q n _ => (old b (Heap.lt_size q)).trans n, fun b o q _ => ⟨o, hk b o q⟩, fun b xs q => kp b _ q, fun b o u q => kp b _ q, fun b ps q => ⟨#[], by rw [kp b _ q]; simp⟩⟩ (fun b u q => ?_) I.bare fun b z => by simp at z
  rcases new b u q with z | z
  · exact (I.hok b u ((old b z).symm.trans q)).stay (fun d v _ y => hk d v y) (fun d y => kp d _ y) fun d xs y => kp d _ y
  · exact z
/-! ## list(zip(x, y)) -/
theorem zip_len : typeLookup (.type "zip") "__len__" = pure none := am_miss_of_fast (by decide +kernel)
theorem zip_hint : typeLookup (.type "zip") "__length_hint__" = pure none := am_miss_of_fast (by decide +kernel)
section
variable {prog : Program} {w : World} {A : Around} {E : Value → Shared → Prop} {s : Shared}
theorem hint_zip {z : Addr} {Q : Bool → Shared → Prop} (ht : s.TypeIs (.ref z) "zip") (h : Q true s) : wpAny (model prog w) A (Builtin.List.listLengthHint (.ref z)) Q E s := by
  unfold Builtin.List.listLengthHint
  refine wpAny_bind (wpAny_specialOf ht zip_len ?_)
  repeat (any_goals (first | assumption | wp_step))
  rw [show typeLookup (Value.type "zip") (Str.ofString "__length_hint__") = pure none from zip_hint]
  exact wpAny_pure (wpAny_pure h)
/-- a zip of two lists, so many turns on; S: an object that isn't of it -/
structure ZAt (h : Heap) (z TI TO i1 i2 l1 l2 S : Addr) (xs ys : Array Value) (k : Nat) : Prop where
  ti : IsPair h TI (.ref i1) (.ref i2)
  a : h.IsListIter i1 l1 k
  b : h.IsListIter i2 l2 k
  l : h.IsList l1 xs
  r : h.IsList l2 ys
  o : (IsZip h z TI TO .none ∧ ∃ u v, IsPair h TO u v) ∨ ∃ T f oT, PySem.IsZipHeld h z TI TO T f ∧ h.get? T = some oT ∧ T ≠ z ∧ T ≠ i1 ∧ T ≠ i2 ∧ T ≠ S
theorem ZAt.at {h h' : Heap} {z TI TO i1 i2 l1 l2 S : Addr} {xs ys : Array Value} {k : Nat} (x : ZAt h z TI TO i1 i2 l1 l2 S xs ys k) (n : z ≠ S ∧ TI ≠ S ∧ TO ≠ S ∧ i1 ≠ S ∧ i2 ≠ S ∧ l1 ≠ S ∧ l2 ≠ S) (up : ∀ c o, c ≠ S → h.get? c = some o → h'.get? c = some o) : ZAt h' z TI TO i1 i2 l1 l2 S xs ys k := by
  obtain ⟨n1, n2, n3, n4, n5, n6, n7⟩ := n
  refine ⟨up _ _ n2 x.ti, x.a.at fun o e => up _ o n4 e, x.b.at fun o e => up _ o n5 e, x.l.at fun o e => up _ o n6 e, x.r.at fun o e => up _ o n7 e, ?_⟩
  rcases x.o with ⟨q, u, v, q2⟩ | ⟨T, f, oT, q1, q2, q3, q4, q5, q6⟩
  · exact .inl ⟨up _ _ n1 q, u, v, up _ _ n3 q2⟩
  · exact .inr ⟨T, f, oT, up _ _ n1 q1, up _ _ q6 q2, q3, q4, q5, q6⟩
theorem zat_item {z TI TO i1 i2 l1 l2 S : Addr} {xs ys : Array Value} {k : Nat} {x y : Value} {Q : Option Value → Shared → Prop} (D : ZipApart z TI TO i1 i2 l1 l2) (ho : S ≠ TO) (hz : ZAt s.heap z TI TO i1 i2 l1 l2 S xs ys k) (hS : S < s.heap.objs.size)
    (hx : xs[k]? = some x) (hy : ys[k]? = some y) (q : ∀ h', ZAt h' z TI TO i1 i2 l1 l2 S xs ys (k + 1) → IsPair h' s.heap.objs.size x y → h'.objs.size = s.heap.objs.size + 1 → (∀ c o, c ≠ z → c ≠ TO → c ≠ i1 → c ≠ i2 → s.heap.get? c = some o → h'.get? c = some o) → Q (some (.ref s.heap.objs.size)) { s with heap := h' }) :
    wpAny (model prog w) A (pyNext (.ref z)) Q E s := by
  have nS : s.heap.objs.size ≠ S := (Nat.ne_of_lt hS).symm
  have ni : ∀ {c : Addr} {o : Obj}, s.heap.get? c = some o → s.heap.objs.size ≠ c := fun e => (Nat.ne_of_lt (Heap.lt_size e)).symm
  have n1 : s.heap.objs.size ≠ i1 := by
    obtain ⟨_, e, _⟩ := hz.a
    exact ni e
  have n2 : s.heap.objs.size ≠ i2 := by
    obtain ⟨_, e, _⟩ := hz.b
    exact ni e
  rcases hz.o with ⟨q0, u, v, q1⟩ | ⟨T, f, oT, q1, q2, q3, q4, q5, q6⟩
  · refine wpAny_pyNext_zip_item D q0 hz.ti q1 hz.a hz.b hz.l hz.r hx hy fun h' a1 a2 a3 a4 a5 a6 a7 => q h' ?_ a5 a6 a7
    exact ⟨a7 _ _ D.TIz D.TITO D.TIi1 D.TIi2 hz.ti, a3, a4, hz.l.at fun o e => a7 _ o D.l1z D.l1TO D.l1i1 D.l1i2 e, hz.r.at fun o e => a7 _ o D.l2z D.l2TO D.l2i1 D.l2i2 e, .inr ⟨_, _, _, a1, a5, ni q0, n1, n2, nS⟩⟩
  · refine PySem.wpAny_pyNext_zip_item_held D q1 q2 hz.ti hz.a hz.b hz.l hz.r hx hy fun h' a1 a3 a4 a5 a6 a7 => q h' ?_ a5 a6 fun c o c1 c2 c3 c4 e => a7 c o c1 c3 c4 e
    exact ⟨a7 _ _ D.TIz D.TIi1 D.TIi2 hz.ti, a3, a4, hz.l.at fun o e => a7 _ o D.l1z D.l1i1 D.l1i2 e, hz.r.at fun o e => a7 _ o D.l2z D.l2i1 D.l2i2 e, .inr ⟨T, true, oT, a1, a7 _ _ q3 q4 q5 q2, q3, q4, q5, q6⟩⟩
theorem zat_end {z TI TO i1 i2 l1 l2 S : Addr} {xs ys : Array Value} {k : Nat} {Q : Option Value → Shared → Prop} (nh : A.handled = none) (D : ZipApart z TI TO i1 i2 l1 l2) (hz : ZAt s.heap z TI TO i1 i2 l1 l2 S xs ys k) (he : xs[k]? = none ∨ ys[k]? = none)
    (q : ∀ h', (∀ c o, c ≠ z → c ≠ TO → c ≠ i1 → c ≠ i2 → s.heap.get? c = some o → h'.get? c = some o) → Q none { s with heap := h' }) : wpAny (model prog w) A (pyNext (.ref z)) Q E s := by
  rcases hz.o with ⟨q0, u, v, q1⟩ | ⟨T, f, oT, q1, q2, _⟩
  · exact wpAny_pyNext_zip_end nh D q0 hz.ti q1 hz.a hz.b hz.l hz.r he q
  · exact PySem.wpAny_pyNext_zip_end_held nh D q1 q2 hz.ti hz.a hz.b hz.l hz.r he fun h' a => q h' fun c o c1 _ c3 c4 e => a c o c1 c3 c4 e
/-- the tuples made so far -/
structure ZGot (h : Heap) (lo : Addr) (xs ys : Array Value) (as : List Addr) : Prop where
  rise : as.Pairwise (· < ·)
  above : ∀ a ∈ as, lo < a
  pr : ∀ (j : Nat) (a : Addr), as[j]? = some a → ∃ x y, xs[j]? = some x ∧ ys[j]? = some y ∧ IsPair h a x y
theorem zip_loop {R : Result → Shared → Prop} {z TI TO i1 i2 l1 l2 S : Addr} {xs ys : Array Value} {n : Nat} {res : Value} {g1 : Heap} (nh : A.handled = none) (D : ZipApart z TI TO i1 i2 l1 l2) (hn : n = min xs.size ys.size) (hl : n ≤ sizeLine)
    (ns : z ≠ S ∧ TI ≠ S ∧ TO ≠ S ∧ i1 ≠ S ∧ i2 ≠ S ∧ l1 ≠ S ∧ l2 ≠ S) {lo : Addr} (hlo : z ≤ lo ∧ TO ≤ lo ∧ i1 ≤ lo ∧ i2 ≤ lo ∧ S ≤ lo)
    (fin : ∀ h' tk acc c as, (∀ b o, b ≠ S → b ≠ z → b ≠ TO → b ≠ i1 → b ≠ i2 → g1.get? b = some o → h'.get? b = some o) → h'.get? S = some { cls := .type "list", dict := none, data := .seq acc c, slots := #[] } → as.length = n → ZGot h' lo xs ys as → acc.toList = as.map Value.ref → R (.ok (.ret res)) { s with heap := h', toks := tk }) :
    ∀ (k i : Nat) (h : Heap) (tk c : Nat) (acc : Array Value) (as : List Addr), n - i = k → i ≤ n → ZAt h z TI TO i1 i2 l1 l2 S xs ys i → (∀ b o, b ≠ S → b ≠ z → b ≠ TO → b ≠ i1 → b ≠ i2 → g1.get? b = some o → h.get? b = some o) →
      h.get? S = some { cls := .type "list", dict := none, data := .seq acc c, slots := #[] } → acc.toList = as.map Value.ref → as.length = i → ZGot h lo xs ys as → lo < h.objs.size →
      codeAny (model prog w) A (.builtin "list.extend.loop" ⟨[.ref S, .ref z, res], []⟩) R { s with heap := h, toks := tk } := by
  obtain ⟨z1, z2, z3, z4, z5, z6, z7⟩ := id ns
  obtain ⟨o1, o2, o3, o4, o5⟩ := hlo
  have far : ∀ {a : Addr}, lo < a → a ≠ z ∧ a ≠ TO ∧ a ≠ i1 ∧ a ≠ i2 ∧ a ≠ S := fun {a} h => ⟨(Nat.ne_of_lt (Nat.lt_of_le_of_lt o1 h)).symm, (Nat.ne_of_lt (Nat.lt_of_le_of_lt o2 h)).symm, (Nat.ne_of_lt (Nat.lt_of_le_of_lt o3 h)).symm, (Nat.ne_of_lt (Nat.lt_of_le_of_lt o4 h)).symm, (Nat.ne_of_lt (Nat.lt_of_le_of_lt o5 h)).symm⟩
  intro k
  induction k with
  | zero =>
    intro i h tk c acc as hk hi hz kp hS ha hal hg hL
    refine codeAny_builtin PySem.F.entry_extend_loop ?_
    rw [Around.under_plainId PySem.F.plain_extend_loop _]
    show wpAny _ A.in1 (pyNext (.ref z) >>= _) _ _ _
    refine wpAny_bind (zat_end (s := { s with heap := h, toks := tk }) (A := A.in1) nh D hz ?_ fun h' up => ?_)
    · by_cases q : xs.size ≤ i
      · exact .inl (Array.getElem?_eq_none q)
      · exact .inr (Array.getElem?_eq_none (by omega))
    · refine wpAny_pure (fin h' tk acc c as (fun b o b1 b2 b3 b4 b5 e => up b o b2 b3 b4 b5 (kp b o b1 b2 b3 b4 b5 e)) (up _ _ z1.symm z3.symm z4.symm z5.symm hS) (by omega) ⟨hg.rise, hg.above, fun j a hj => ?_⟩ ha)
      obtain ⟨x, y, e1, e2, e3⟩ := hg.pr j a hj
      obtain ⟨f1, f2, f3, f4, _⟩ := far (hg.above a (List.mem_of_getElem? hj))
      exact ⟨x, y, e1, e2, up _ _ f1 f2 f3 f4 e3⟩
  | succ k ih =>
    intro i h tk c acc as hk hi hz kp hS ha hal hg hL
    have li : i < n := by omega
    have hx : xs[i]? = some (xs[i]'(by omega)) := Array.getElem?_eq_getElem _
    have hy : ys[i]? = some (ys[i]'(by omega)) := Array.getElem?_eq_getElem _
    generalize xs[i]'(by omega) = x at hx
    generalize ys[i]'(by omega) = y at hy
    have sz : acc.size = i := by rw [← Array.length_toList, ha, List.length_map, hal]
    refine codeAny_builtin PySem.F.entry_extend_loop ?_
    rw [Around.under_plainId PySem.F.plain_extend_loop _]
    show wpAny _ A.in1 (pyNext (.ref z) >>= _) _ _ _
    refine wpAny_bind (zat_item (s := { s with heap := h, toks := tk }) (S := S) D z3.symm hz (Heap.lt_size hS) hx hy fun h' hz' hp hsz up => ?_)
    dsimp only at hp hsz up ⊢
    have hS' := up S _ z1.symm z3.symm z4.symm z5.symm hS
    have put : ∀ b o, b ≠ S → h'.get? b = some o → (h'.update S (Obj.mapSeq (·.push (Value.ref h.objs.size)))).get? b = some o := fun b o hb e => (Heap.get?_update_other _ _ (Ne.symm hb)).trans e
    show wpAny _ A.in1 (updateSeq S (·.push (Value.ref h.objs.size)) >>= _) _ _ _
    refine wpAny_bind ?_
    refine wpAny_updateSeq hS' rfl (wpAny_pure ⟨plainId_quiet PySem.F.plain_extend_loop _, ih (i + 1) _ tk _ (acc.push (Value.ref h.objs.size)) (as ++ [h.objs.size]) (by omega) li (hz'.at ns put) (fun b o b1 b2 b3 b4 b5 e => put b o b1 (up b o b2 b3 b4 b5 (kp b o b1 b2 b3 b4 b5 e)))
      (Heap.get?_update_self _ hS' rfl) (by rw [Array.toList_push, ha, List.map_append]; rfl) (by rw [List.length_append, hal]; rfl) ⟨?_, ?_, ?_⟩ ?_⟩) (by rw [sz]; omega) (by show (acc.push (Value.ref h.objs.size)).size ≤ sizeLine + 1; rw [Array.size_push, sz]; omega)
    · refine List.pairwise_append.mpr ⟨hg.rise, List.pairwise_singleton _ _, fun a ha b hb => ?_⟩
      rw [List.mem_singleton.mp hb]
      obtain ⟨j, hj⟩ := List.mem_iff_getElem?.mp ha
      obtain ⟨_, _, _, _, e⟩ := hg.pr j a hj
      exact Heap.lt_size e
    · intro a ha
      rcases List.mem_append.mp ha with ha | ha
      · exact hg.above a ha
      · rw [List.mem_singleton.mp ha]
        exact hL
    · intro j a hj
      by_cases q : j < as.length
      · rw [List.getElem?_append_left q] at hj
        obtain ⟨x', y', e1, e2, e3⟩ := hg.pr j a hj
        obtain ⟨f1, f2, f3, f4, f5⟩ := far (hg.above a (List.mem_of_getElem? hj))
        exact ⟨x', y', e1, e2, put _ _ f5 (up _ _ f1 f2 f3 f4 e3)⟩
      · have ej : j = as.length := by
          have := (List.getElem?_eq_some_iff.mp hj).1
          rw [List.length_append, List.length_singleton] at this
          omega
        subst ej
        rw [List.getElem?_append_right (Nat.le_refl _), Nat.sub_self] at hj
        cases hj
        rw [hal]
        exact ⟨x, y, hx, hy, put _ _ (far hL).2.2.2.2 hp⟩
    · have e : (h'.update S (Obj.mapSeq (·.push (Value.ref h.objs.size)))).get? h.objs.size = _ := put _ _ (far hL).2.2.2.2 hp
      exact Nat.lt_trans hL (Heap.lt_size e)
end
end DL
namespace DL
open PySem PySem.Spec PyProof.Rows L2
section
variable {prog : Program} {w : World} {A : Around} {E : Value → Shared → Prop} {s : Shared} {z TI TO i1 i2 l1 l2 : Addr} {xs ys : Array Value}
/-- what a zip has at its first turn -/
structure ZNew (h : Heap) (z TI TO i1 i2 l1 l2 : Addr) (xs ys : Array Value) : Prop where
  z : IsZip h z TI TO .none
  ti : IsPair h TI (.ref i1) (.ref i2)
  o : ∃ u v, IsPair h TO u v
  a : h.IsListIter i1 l1 0
  b : h.IsListIter i2 l2 0
  l : h.IsList l1 xs
  r : h.IsList l2 ys
theorem ZNew.at {h h' : Heap} {S : Addr} (x : ZNew h z TI TO i1 i2 l1 l2 xs ys) (n : z ≠ S ∧ TI ≠ S ∧ TO ≠ S ∧ i1 ≠ S ∧ i2 ≠ S ∧ l1 ≠ S ∧ l2 ≠ S) (up : ∀ c o, c ≠ S → h.get? c = some o → h'.get? c = some o) : ZNew h' z TI TO i1 i2 l1 l2 xs ys := by
  obtain ⟨n1, n2, n3, n4, n5, n6, n7⟩ := n
  obtain ⟨u, v, q⟩ := x.o
  exact ⟨up _ _ n1 x.z, up _ _ n2 x.ti, ⟨u, v, up _ _ n3 q⟩, x.a.at fun o e => up _ o n4 e, x.b.at fun o e => up _ o n5 e, x.l.at fun o e => up _ o n6 e, x.r.at fun o e => up _ o n7 e⟩
theorem zip_extend {R : Result → Shared → Prop} {S : Addr} {res : Value} {c0 : Nat} (nh : A.handled = none) (D : ZipApart z TI TO i1 i2 l1 l2) (hz : ZNew s.heap z TI TO i1 i2 l1 l2 xs ys) (hn : min xs.size ys.size ≤ sizeLine)
    (ns : z ≠ S ∧ TI ≠ S ∧ TO ≠ S ∧ i1 ≠ S ∧ i2 ≠ S ∧ l1 ≠ S ∧ l2 ≠ S) (hlo : z ≤ S ∧ TO ≤ S ∧ i1 ≤ S ∧ i2 ≤ S ∧ S ≤ S) (hS : s.heap.get? S = some { cls := .type "list", data := .seq #[] c0 })
    (fin : ∀ h' tk acc c as, (∀ b o, b ≠ S → b ≠ z → b ≠ TO → b ≠ i1 → b ≠ i2 → s.heap.get? b = some o → h'.get? b = some o) → h'.get? S = some { cls := .type "list", dict := none, data := .seq acc c, slots := #[] } → as.length = min xs.size ys.size → ZGot h' S xs ys as → acc.toList = as.map Value.ref → R (.ok (.ret res)) { s with heap := h', toks := tk }) :
    wpAny (model prog w) A.in1 (Builtin.List.listExtendWith (.ref S) (.ref z) res)
      (fun r s' => match r with | .done f => R (.ok f) s' | .again c' => c'.quiet = true ∧ codeAny (model prog w) A c' R s') (fun e s' => R (.error e) s') s := by
  have ty : s.TypeIs (.ref z) "zip" := ⟨_, hz.z, rfl⟩
  have key : ∀ (h : Heap) (c₁ tk : Nat), (∀ b o, b ≠ S → s.heap.get? b = some o → h.get? b = some o) → h.get? S = some { cls := .type "list", data := .seq #[] c₁ } → codeAny (model prog w) A (.builtin "list.extend.loop" ⟨[.ref S, .ref z, res], []⟩) R { s with heap := h, toks := tk } := by
    intro h c₁ tk hk h1
    have y := hz.at ns hk
    exact zip_loop (g1 := s.heap) nh D rfl hn ns hlo (fun h' tk' acc c as k1 k2 k3 k4 k5 => fin h' tk' acc c as k1 k2 k3 k4 k5) (min xs.size ys.size) 0 h tk c₁ #[] [] (Nat.sub_zero _) (Nat.zero_le _) ⟨y.ti, y.a, y.b, y.l, y.r, .inl ⟨y.z, y.o⟩⟩ (fun b o b1 _ _ _ _ e => hk b o b1 e) h1 rfl rfl ⟨List.Pairwise.nil, (fun _ ha => nomatch ha), (fun j a hj => by simp at hj)⟩ (Heap.lt_size h1)
  unfold Builtin.List.listExtendWith
  refine wpAny_bind (wpAny_typeOf (T := "zip") ty ?_)
  have q1 : Builtin.List.listSameRef (.ref S) (.ref z) = false := by simp [Builtin.List.listSameRef, ns.1.symm]
  have q2 : (Value.type "zip" == Value.type "list") = false := by decide
  have q3 : (Value.type "zip" == Value.type "tuple") = false := by decide
  simp only [q1, q2, q3, Bool.or_false, Bool.false_eq_true, if_false]
  refine wpAny_bind (wpAny_pyIter_zip hz.z ?_)
  refine wpAny_bind (wpAny_holding (hint_zip ty ?_))
  refine wpAny_ite_split (fun _ => ?_) (fun _ => wpAny_pure ⟨plainId_quiet PySem.F.plain_extend_loop _, key _ c0 _ (fun b o _ e => e) hS⟩)
  refine wpAny_bind (wpAny_rule ?_)
  refine wpAny_bind ?_
  show wpAny _ _ (updateSeq S (·.push .none) >>= fun _ => updateSeq S (·.pop)) _ _ _
  refine wpAny_bind (wpAny_updateSeq hS rfl ?_)
  have g2 := Heap.get?_update_self (Obj.mapSeq (·.push Value.none)) hS rfl
  refine wpAny_updateSeq (hz := by seq_fits) g2 rfl ?_
  have g3 := Heap.get?_update_self (Obj.mapSeq (·.pop)) g2 rfl
  refine wpAny_pure ⟨plainId_quiet PySem.F.plain_extend_loop _, key _ _ _ (fun b o hb e => ?_) g3⟩
  exact (Heap.get?_update_other _ _ (Ne.symm hb)).trans ((Heap.get?_update_other _ _ (Ne.symm hb)).trans e)
theorem list_of_zip {Q : Value → Shared → Prop} (nh : A.handled = none) (D : ZipApart z TI TO i1 i2 l1 l2) (hz : ZNew s.heap z TI TO i1 i2 l1 l2 xs ys) (hn : min xs.size ys.size ≤ sizeLine)
    (q : ∀ h' tk acc c as, (∀ b o, b ≠ z → b ≠ TO → b ≠ i1 → b ≠ i2 → s.heap.get? b = some o → h'.get? b = some o) → h'.get? s.heap.objs.size = some { cls := .type "list", dict := none, data := .seq acc c, slots := #[] } → as.length = min xs.size ys.size → ZGot h' s.heap.objs.size xs ys as → acc.toList = as.map Value.ref → Q (.ref s.heap.objs.size) { s with heap := h', toks := tk }) :
    wpAny (model prog w) A (call (.type "list") [.ref z]) Q E s := by
  have low : ∀ {c : Addr} {o : Obj}, s.heap.get? c = some o → c < s.heap.objs.size := fun e => Heap.lt_size e
  have lz := low hz.z
  have lTI := low hz.ti
  have lTO : TO < s.heap.objs.size := by
    obtain ⟨u, v, e⟩ := hz.o
    exact low e
  have l1' : i1 < s.heap.objs.size := by
    obtain ⟨_, e, _⟩ := hz.a
    exact low e
  have l2' : i2 < s.heap.objs.size := by
    obtain ⟨_, e, _⟩ := hz.b
    exact low e
  have l3' : l1 < s.heap.objs.size := by
    obtain ⟨_, e, _⟩ := hz.l
    exact low e
  have l4' : l2 < s.heap.objs.size := by
    obtain ⟨_, e, _⟩ := hz.r
    exact low e
  have ns : z ≠ s.heap.objs.size ∧ TI ≠ s.heap.objs.size ∧ TO ≠ s.heap.objs.size ∧ i1 ≠ s.heap.objs.size ∧ i2 ≠ s.heap.objs.size ∧ l1 ≠ s.heap.objs.size ∧ l2 ≠ s.heap.objs.size :=
    ⟨Nat.ne_of_lt lz, Nat.ne_of_lt lTI, Nat.ne_of_lt lTO, Nat.ne_of_lt l1', Nat.ne_of_lt l2', Nat.ne_of_lt l3', Nat.ne_of_lt l4'⟩
  refine PySem.callType_codes (Q₁ := fun o s1 => o = .ref s.heap.objs.size ∧ s1 = { s with heap := s.heap.push { cls := .type "list", data := .seq #[] } }) PySem.F.called_list (PySem.F.typeCall_list_1 _) PySem.F.entry_list_init (code_list_new _ ⟨rfl, rfl⟩) fun o s1 h1 => ?_
  obtain ⟨rfl, rfl⟩ := h1
  have gS : (s.heap.push { cls := .type "list", data := .seq #[] }).get? s.heap.objs.size = some { cls := .type "list", data := .seq #[] } := Heap.get?_push_size _ rfl
  refine ⟨⟨_, gS, rfl⟩, PySem.F.args_list_init_2 _ _, ?_⟩
  show wpAny _ _ (do let old ← Builtin.List.listItems (.ref s.heap.objs.size); Builtin.List.listUpdate (.ref s.heap.objs.size) (fun _ => #[]); letGo old.toList.reverse; Builtin.List.listExtendWith (.ref s.heap.objs.size) (.ref z) .none) _ _ _
  refine wpAny_bind ?_
  unfold Builtin.List.listItems
  refine wpAny_bind (wpAny_seqItems gS rfl (wpAny_pure ?_))
  show wpAny _ _ (updateSeq s.heap.objs.size (fun _ => #[]) >>= fun _ => letGo (#[] : Array Value).toList.reverse >>= fun _ => Builtin.List.listExtendWith (.ref s.heap.objs.size) (.ref z) .none) _ _ _
  refine wpAny_bind (wpAny_updateSeq gS rfl ?_)
  have gS2 := Heap.get?_update_self (Obj.mapSeq (fun _ => (#[] : Array Value))) gS rfl
  have up : ∀ b o, b ≠ s.heap.objs.size → s.heap.get? b = some o → ((s.heap.push { cls := .type "list", data := .seq #[] }).update s.heap.objs.size (Obj.mapSeq (fun _ => (#[] : Array Value)))).get? b = some o := fun b o hb e => (Heap.get?_update_other _ _ (Ne.symm hb)).trans (Heap.get?_push_of_some _ e)
  refine wpAny_bind (wpAny_letGo ?_)
  refine zip_extend (A := A.in1) nh D (hz.at ns up) hn ns ⟨Nat.le_of_lt lz, Nat.le_of_lt lTO, Nat.le_of_lt l1', Nat.le_of_lt l2', Nat.le_refl _⟩ gS2 fun h' tk acc c as k1 k2 k3 k4 k5 => ?_
  exact ⟨rfl, q h' tk acc c as (fun b o b1 b2 b3 b4 e => k1 b o (Nat.ne_of_lt (low e)) b1 b2 b3 b4 (up b o (Nat.ne_of_lt (low e)) e)) k2 k3 k4 k5⟩
end
end DL
namespace DL
open PySem PySem.Spec PyProof.Rows L2
/-- pairs laid at their addresses -/
def putZ : Hp → List Addr → List (V × V) → Hp
  | H, a :: as, p :: ps => putZ (upd H a (.tup [p.1, p.2])) as ps
  | H, _, _ => H
theorem putZ_off {b : Addr} : ∀ (as : List Addr) (ps : List (V × V)) (H : Hp), b ∉ as → putZ H as ps b = H b
  | [], _, _, _ => rfl
  | _ :: _, [], _, _ => rfl
  | a :: as, p :: ps, H, h => by
    show putZ (upd H a (.tup [p.1, p.2])) as ps b = H b
    have n1 : b ∉ as := fun z => h (List.mem_cons_of_mem _ z)
    have n2 : b ≠ a := fun z => h (by rw [z]; exact List.mem_cons_self)
    rw [putZ_off as ps _ n1, upd_ne n2]
theorem putZ_at : ∀ (as : List Addr) (ps : List (V × V)) (H : Hp), as.length = ps.length → as.Nodup → ∀ (j : Nat) (a : Addr), as[j]? = some a → ∃ p, ps[j]? = some p ∧ putZ H as ps a = some (.tup [p.1, p.2])
  | [], _, _, _, _, j, a, h => by simp at h
  | _ :: _, [], _, h, _, _, _, _ => by simp at h
  | a :: as, p :: ps, H, h, nd, 0, b, hj => by
    cases hj
    refine ⟨p, rfl, ?_⟩
    show putZ (upd H a (.tup [p.1, p.2])) as ps a = _
    rw [putZ_off as ps _ (List.nodup_cons.mp nd).1, upd_same]
  | a :: as, p :: ps, H, h, nd, j + 1, b, hj => by
    obtain ⟨q, h1, h2⟩ := putZ_at as ps (upd H a (.tup [p.1, p.2])) (by simpa using h) (List.nodup_cons.mp nd).2 j b (by simpa using hj)
    exact ⟨q, by simpa using h1, h2⟩
theorem vals_refs (as : List Addr) : Vals (as.map V.ref) (as.map Value.ref) := by
  induction as with
  | nil => exact .nil
  | cons a as ih => exact .cons rfl ih
def tListZip (K : PySem.W.Frag) (ta : TA) : TE := fun σ H Q => ta σ H fun vs H1 => ∃ (a b : Addr) (xs ys : List V), vs = [.ref a, .ref b] ∧ SqL K H1 a xs ∧ SqL K H1 b ys ∧
  ∀ (p : Addr) (as : List Addr), as.length = (xs.zip ys).length → as.Nodup → (∀ t ∈ as, H1 t = none) → H1 p = none → p ∉ as → Q (.ref p) (upd (putZ H1 as (xs.zip ys)) p (.lst (as.map V.ref)))
theorem pe_listZip {X : Cx} {e e2 : Expr} {ta : TA} {p p2 pos pos2 : Pos} (hc : X.calm = true) (hg : Gl X "list") (hm : X.mg "list" = none) (hg2 : Gl X "zip") (hm2 : X.mg "zip" = none) (ha : PA X [e, e2] ta)
    (hs : starEach [e, e2] X.env = (false, eval e X.env) :: starEach [e2] X.env := by rfl) (hpl : (backTo pos2 (starEach [e2] X.env)).any (·.1) = false := by rfl)
    (hs2 : starEach [.Call (.Name "zip" p2) [e, e2] [] pos2] X.env = (false, eval (.Call (.Name "zip" p2) [e, e2] [] pos2) X.env) :: starEach [] X.env := by rfl) :
    PE X (.Call (.Name "list" p) [.Call (.Name "zip" p2) [e, e2] [] pos2] [] pos) (tListZip X.K ta) := by
  refine ⟨fun pins s σ H Q I h => ?_⟩
  refine wpAny_Call_Name_kw (ld_blt I hg hm (show bootBuiltins "list" = some (.type "list") by decide +kernel) ?_)
  refine PyProof.Rows.callWith_type1 ?_ hs2 rfl
  rw [hs2]
  show wpAny _ _ (spliced ((false, eval (.Call (.Name "zip" p2) [e, e2] [] pos2) X.env) :: backTo pos (starEach [] X.env))) _ _ s
  refine Calls.spliced_cons ?_
  refine Call_ (ld_blt I hg2 hm2 PyProof.Rows.boot_zip (PyProof.Rows.callWith_type1 (thn (ha.run pos2 pins s σ H _ I h) fun us s1 ⟨vs, H1, I1, r1, q1⟩ => ?_) hs hpl))
  obtain ⟨a, b, xs, ys, ex, hx, hy, q⟩ := q1
  subst ex
  cases r1 with
  | cons r rr =>
  cases rr with
  | cons r' rr =>
  cases rr
  cases r
  cases r'
  obtain ⟨its, rv, p1, hz1⟩ := I1.list hx
  obtain ⟨its2, rv2, p3, _⟩ := I1.list hy
  have la : a < s1.heap.objs.size := p1.lt
  have lb : b < s1.heap.objs.size := p3.lt
  refine call_zip_2 p1.isList p3.isList fun h2 z1 z2 z3 z4 z5 sz hk => ?_
  have D : ZipApart (s1.heap.objs.size + 4) (s1.heap.objs.size + 2) (s1.heap.objs.size + 3) s1.heap.objs.size (s1.heap.objs.size + 1) a b := PySem.W.ktu_apart s1.heap.objs.size a b la lb
  refine Calls.spliced_nil ?_
  have hl : min its.toArray.size its2.toArray.size = (xs.zip ys).length := by
    rw [List.size_toArray, List.size_toArray, List.length_zip, rv.length, rv2.length]
  refine list_of_zip (s := { s1 with heap := h2 }) (I1.ok.hd hc) D ⟨z1, z2, ⟨_, _, z3⟩, z4, z5, p1.isList.at fun o e => hk _ o e, p3.isList.at fun o e => hk _ o e⟩ (by rw [List.size_toArray, List.size_toArray]; have := rv.length; omega) fun h3 tk acc c as k1 k2 k3 k4 k5 => ?_
  dsimp only at k1 k2 k4 ⊢
  have hsz : h2.objs.size = s1.heap.objs.size + 5 := sz
  have far : ∀ t ∈ as, s1.heap.objs.size ≤ t := fun t ht => Nat.le_of_lt (Nat.lt_of_le_of_lt (by rw [hsz]; exact Nat.le_add_right _ _) (k4.above t ht))
  have farp : s1.heap.objs.size ≤ h2.objs.size := by rw [hsz]; exact Nat.le_add_right _ _
  have pas : h2.objs.size ∉ as := fun z => Nat.lt_irrefl _ (k4.above _ z)
  have nd : as.Nodup := List.Pairwise.imp (fun {a b} (h : a < b) => Nat.ne_of_lt h) k4.rise
  have up : ∀ c o, s1.heap.get? c = some o → h3.get? c = some o := fun c o e => by
    have lc := Heap.lt_size e
    refine k1 c o ?_ ?_ ?_ ?_ (hk c o e)
    · exact Nat.ne_of_lt (Nat.lt_of_lt_of_le lc (Nat.le_add_right _ _))
    · exact Nat.ne_of_lt (Nat.lt_of_lt_of_le lc (Nat.le_add_right _ _))
    · exact Nat.ne_of_lt lc
    · exact Nat.ne_of_lt (Nat.lt_of_lt_of_le lc (Nat.le_add_right _ _))
  have e1 : as.length = (xs.zip ys).length := k3.trans hl
  have off : ∀ b, b < s1.heap.objs.size → upd (putZ H1 as (xs.zip ys)) h2.objs.size (.lst (as.map V.ref)) b = H1 b := fun b hb => by
    have n1 : b ≠ h2.objs.size := Nat.ne_of_lt (Nat.lt_of_lt_of_le hb farp)
    have n2 : b ∉ as := fun z => Nat.lt_irrefl _ (Nat.lt_of_lt_of_le hb (far b z))
    rw [upd_ne n1, putZ_off as _ _ n2]
  refine ⟨.ref h2.objs.size, _, Inv.more I1 (H' := upd (putZ H1 as (xs.zip ys)) h2.objs.size (.lst (as.map V.ref))) (tk := tk) up off fun b u e => ?_, rfl, q _ as e1 nd (fun t ht => I1.hok.fresh (far t ht)) (I1.hok.fresh farp) pas⟩
  by_cases hb : b = h2.objs.size
  · subst hb
    rw [upd_same] at e
    cases e
    refine .inr ⟨?_, acc.toList, c, by rw [k5]; exact vals_refs as, ?_⟩
    · rw [List.length_map, e1, List.length_zip]
      omega
    · rw [Array.toArray_toList]
      exact k2
  · rw [upd_ne hb] at e
    by_cases hb2 : b ∈ as
    · obtain ⟨j, hj⟩ := List.mem_iff_getElem?.mp hb2
      obtain ⟨pr, f1, f2⟩ := putZ_at as (xs.zip ys) H1 e1 nd j b hj
      rw [f2] at e
      cases e
      obtain ⟨x, y, g1, g2, g3⟩ := k4.pr j b hj
      obtain ⟨f3, f4⟩ := List.getElem?_zip_eq_some.mp f1
      obtain ⟨x', m1, m2⟩ := rv.get f3
      obtain ⟨y', m3, m4⟩ := rv2.get f4
      have x1 : its[j]? = some x := by simpa using g1
      have y1 : its2[j]? = some y := by simpa using g2
      rw [m1] at x1
      rw [m3] at y1
      cases x1
      cases y1
      exact .inr ⟨by show 2 ≤ sizeLine; decide, [x, y], .cons m2 (.cons m4 .nil), ⟨_, g3, rfl, _, rfl⟩⟩
    · rw [putZ_off as _ _ hb2] at e
      by_cases lt : b < s1.heap.objs.size
      · exact .inl lt
      · rw [I1.hok.fresh (Nat.le_of_not_lt lt)] at e
        cases e
/-! ### over data -/
@[simp] def wListZip (w1 w2 : WE) : WE := fun ρ Q => wEs [w1, w2] ρ fun ds ρ' => ∃ xs ys, ds = [.list xs, .list ys] ∧ Q (.list ((xs.zip ys).map fun p => .tuple [p.1, p.2])) ρ'
theorem iss_zip2 {K : PySem.W.Frag} {G : Hp} : ∀ {vs us : List V} {ds es : List PyData}, Iss K G vs ds → Iss K G us es → (vs.zip us).length = (ds.zip es).length ∧ ∀ (j : Nat) (p : V × V), (vs.zip us)[j]? = some p → ∃ d, (ds.zip es)[j]? = some d ∧ Is K G p.1 d.1 ∧ Is K G p.2 d.2
  | _, _, _, _, .nil, _ => ⟨by simp, fun j p h => by simp at h⟩
  | _, _, _, _, .cons _ _, .nil => ⟨by simp, fun j p h => by simp at h⟩
  | _, _, _, _, .cons h t, .cons h' t' => by
    obtain ⟨e, f⟩ := iss_zip2 t t'
    refine ⟨by simpa using e, fun j p q => ?_⟩
    cases j with
    | zero =>
      cases q
      exact ⟨_, rfl, h, h'⟩
    | succ j => exact f j p (by simpa using q)
theorem Rel.putZ {R : Res} {K : PySem.W.Frag} {B : Bs} {ρ : Sls} {σ : L2.St} : ∀ {as : List Addr} {ps : List (V × V)} {ds : List (PyData × PyData)} {G H : Hp}, Rel R K B G ρ σ H → as.length = ps.length → ps.length = ds.length → as.Nodup → (∀ t ∈ as, H t = none) →
    (∀ (j : Nat) (p : V × V), ps[j]? = some p → ∃ d, ds[j]? = some d ∧ Is K G p.1 d.1 ∧ Is K G p.2 d.2) → ∃ G', Sub G G' ∧ Rel R K B G' ρ σ (DL.putZ H as ps) ∧ Iss K G' (as.map V.ref) (ds.map fun p => .tuple [p.1, p.2])
  | [], [], [], G, H, r, _, _, _, _, _ => ⟨G, Same.refl G, r, .nil⟩
  | [], _ :: _, _, _, _, _, h, _, _, _, _ => by simp at h
  | _ :: _, [], _, _, _, _, h, _, _, _, _ => by simp at h
  | _, [], _ :: _, _, _, _, _, h, _, _, _ => by simp at h
  | _, _ :: _, [], _, _, _, _, h, _, _, _ => by simp at h
  | a :: as, p :: ps, d :: ds, G, H, r, e1, e2, nd, new, hp => by
    have na := new a List.mem_cons_self
    have sg : Sub G (upd G a (.tup [p.1, p.2])) := upd_new (r.sub.free na)
    obtain ⟨nd1, nd2⟩ := List.nodup_cons.mp nd
    obtain ⟨d0, f1, f2, f3⟩ := hp 0 p rfl
    cases f1
    obtain ⟨G', s', r', i'⟩ := Rel.putZ (as := as) (ps := ps) (ds := ds) (r.laid (o := .tup [p.1, p.2]) na) (by simpa using e1) (by simpa using e2) nd2 (fun t ht => by
      have nt : t ≠ a := fun z => nd1 (by rw [← z]; exact ht)
      rw [upd_ne nt]
      exact new t (List.mem_cons_of_mem _ ht)) fun j q hj => by
      obtain ⟨d1, k1, k2, k3⟩ := hp (j + 1) q (by simpa using hj)
      exact ⟨d1, by simpa using k1, k2.mono sg, k3.mono sg⟩
    exact ⟨G', sg.trans s', r', .cons (.tup (.inl (.inl (s' _ _ upd_same))) (.cons ((f2.mono sg).mono s') (.cons ((f3.mono sg).mono s') .nil))) i'⟩
theorem se_listZip {R : Res} {X : Cx} {e e2 : Expr} {w1 w2 : WE} {p p2 pos pos2 : Pos} (hc : X.calm = true) (hg : Gl X "list") (hm : X.mg "list" = none) (hg2 : Gl X "zip") (hm2 : X.mg "zip" = none) (h : SEs R X [e, e2] [w1, w2])
    (hs : starEach [e, e2] X.env = (false, eval e X.env) :: starEach [e2] X.env := by rfl) (hpl : (backTo pos2 (starEach [e2] X.env)).any (·.1) = false := by rfl)
    (hs2 : starEach [.Call (.Name "zip" p2) [e, e2] [] pos2] X.env = (false, eval (.Call (.Name "zip" p2) [e, e2] [] pos2) X.env) :: starEach [] X.env := by rfl) :
    SE R X (.Call (.Name "list" p) [.Call (.Name "zip" p2) [e, e2] [] pos2] [] pos) (wListZip w1 w2) := by
  refine ⟨fun B => PE.imp (pe_listZip hc hg hm hg2 hm2 (h.pa B) hs hpl hs2) fun σ H Q ⟨ρ, G, r, q⟩ => ⟨ρ, G, r, h.mono.run (fun ds ρ' ⟨xs, ys, ed, q⟩ vs G' H' s r' iv => ?_) q⟩, fun ρ Q Q' hq => h.mono.run fun ds ρ' ⟨xs, ys, ed, q⟩ => ⟨xs, ys, ed, hq _ _ q⟩⟩
  subst ed
  cases iv with
  | cons i1 iv =>
  cases iv with
  | cons i2 iv =>
  cases iv
  cases i1 with
  | @lst a1 vs1 _ sa ha =>
  cases i2 with
  | @lst a2 vs2 _ sb hb =>
  obtain ⟨z1, z2⟩ := iss_zip2 ha hb
  refine ⟨_, _, _, _, rfl, .of (r'.sub _ _ sa), .of (r'.sub _ _ sb), fun p as e1 nd new np pas => ?_⟩
  obtain ⟨G2, s2, r2, i2⟩ := Rel.putZ r' e1 z1 nd new z2
  have np2 := (putZ_off as (vs1.zip vs2) H' pas).trans np
  have sg := upd_new (ho := .lst (as.map V.ref)) (r2.sub.free np2)
  exact q _ _ _ ((s.trans s2).trans sg) (r2.laid np2) (.lst upd_same (Iss.mono sg i2))
end DL
namespace DL
open PySem PySem.Spec PyProof.Rows L2
/-! ## dicts with numbers and texts as keys -/
def kEq : PyData → PyData → Bool
  | .int i, .int j => i == j
  | .str x, .str y => x == y
  | _, _ => false
def isKey : PyData → Bool
  | .int _ => true
  | .str _ => true
  | _ => false
theorem kEq_kD (k l : Key) : kEq (kD k) (kD l) = decide (k = l) := by
  cases k <;> cases l <;> simp [kD, kEq] <;> rfl
def lookD (ps : List (PyData × PyData)) (k : PyData) : Option PyData := (ps.find? fun p => kEq p.1 k).map (·.2)
def putD (ps : List (PyData × PyData)) (k d : PyData) : List (PyData × PyData) := if ps.any (fun p => kEq p.1 k) = true then ps.map (fun p => if kEq p.1 k = true then (p.1, d) else p) else ps ++ [(k, d)]
section
variable {K : PySem.W.Frag} {G : Hp}
theorem Isd.look {k : Key} {d : PyData} : ∀ {kvs : List (Key × V)} {ps : List (PyData × PyData)}, Isd K G kvs ps → lookD ps (kD k) = some d → ∃ v, valV kvs k = some v ∧ Is K G v d
  | _, _, .nil, h => by simp [lookD] at h
  | _, _, .cons (k := l) (v := v) h t, e => by
    by_cases q : l = k
    · subst q
      have : kEq (kD l) (kD l) = true := by rw [kEq_kD]; simp
      simp [lookD, List.find?_cons, this] at e
      subst e
      exact ⟨v, valV_pos rfl, h⟩
    · have : kEq (kD l) (kD k) = false := by rw [kEq_kD]; simpa using q
      simp only [lookD, List.find?_cons, this] at e
      obtain ⟨v', h1, h2⟩ := Isd.look t (k := k) (d := d) (by simpa [lookD] using e)
      exact ⟨v', by rw [valV_neg q]; exact h1, h2⟩
theorem Isd.len : ∀ {kvs : List (Key × V)} {ps : List (PyData × PyData)}, Isd K G kvs ps → kvs.length = ps.length
  | _, _, .nil => rfl
  | _, _, .cons _ t => congrArg (· + 1) (Isd.len t)
theorem Isd.any {k : Key} : ∀ {kvs : List (Key × V)} {ps : List (PyData × PyData)}, Isd K G kvs ps → (kvs.any fun kv => decide (kv.1 = k)) = ps.any fun p => kEq p.1 (kD k)
  | _, _, .nil => rfl
  | _, _, .cons (k := l) _ t => by
    rw [List.any_cons, List.any_cons, Isd.any t, kEq_kD]
theorem Isd.app : ∀ {kvs lvs : List (Key × V)} {ps qs : List (PyData × PyData)}, Isd K G kvs ps → Isd K G lvs qs → Isd K G (kvs ++ lvs) (ps ++ qs)
  | _, _, _, _, .nil, h => h
  | _, _, _, _, .cons h t, q => .cons h (Isd.app t q)
theorem Isd.subst {k : Key} {v : V} {d : PyData} (hv : Is K G v d) : ∀ {kvs : List (Key × V)} {ps : List (PyData × PyData)}, Isd K G kvs ps → Isd K G (kvs.map fun kv => if kv.1 = k then (kv.1, v) else kv) (ps.map fun p => if kEq p.1 (kD k) = true then (p.1, d) else p)
  | _, _, .nil => .nil
  | _, _, .cons (k := l) h t => by
    rw [List.map_cons, List.map_cons, kEq_kD]
    by_cases q : l = k
    · simp only [q, if_true, decide_true]
      exact .cons hv (Isd.subst hv t)
    · simp only [q, if_false, decide_false, Bool.false_eq_true]
      exact .cons h (Isd.subst hv t)
theorem Isd.put {k : Key} {v : V} {d : PyData} {kvs : List (Key × V)} {ps : List (PyData × PyData)} (h : Isd K G kvs ps) (hv : Is K G v d) : Isd K G (putK kvs k v) (putD ps (kD k) d) := by
  unfold putK putD
  rw [h.any]
  by_cases q : (ps.any fun p => kEq p.1 (kD k)) = true
  · rw [if_pos q, if_pos q]
    exact Isd.subst hv h
  · rw [if_neg q, if_neg q]
    exact h.app (.cons hv .nil)
end
/-- a dict of this kind: its first key is no None -/
def noMk : List (PyData × PyData) → Bool
  | (.none, _) :: _ => false
  | _ => true
theorem noMk_put {ps : List (PyData × PyData)} {k d : PyData} (h : noMk ps = true) (hk : isKey k = true) : noMk (putD ps k d) = true := by
  unfold putD
  split
  · cases ps with
    | nil => rfl
    | cons p ps =>
      obtain ⟨a, b⟩ := p
      rw [List.map_cons]
      cases a <;> first
        | (simp [noMk] at h; done)
        | (split <;> rfl)
  · cases ps with
    | nil => cases k <;> first | rfl | cases hk
    | cons p ps =>
      obtain ⟨a, b⟩ := p
      cases a <;> first
        | (simp [noMk] at h; done)
        | rfl
theorem Isn.lookD_none {K : PySem.W.Frag} {G : Hp} {es : List (NestedKey × Addr × V)} {ps : List (PyData × PyData)} (h : Isn K G es ps) (y : PyData) : lookD ps y = none := by
  unfold lookD
  induction ps generalizing es with
  | nil => rfl
  | cons p ps ih =>
    cases h with
    | @cons k b v es d _ hp hk hv t =>
      have : kEq (nkD k) y = false := by
        cases k <;> rw [nkD] at hk ⊢ <;> first
          | (cases hk; done)
          | (unfold kEq; rfl)
      rw [List.find?_cons]
      simp only [this]
      exact ih t
@[simp] def dgetD : D2
  | .dict ps, k, q => isKey k = true ∧ ∃ d, lookD ps k = some d ∧ q d
  | _, _, _ => False
def rDGet : R2 := fun x y H Q => ∃ a v, x = .ref a ∧ DGet H a y (some v) ∧ Q v H
theorem key_of {k : PyData} (h : isKey k = true) : ∃ l : Key, k = kD l := by
  cases k <;> simp [isKey] at h
  · rename_i i
    exact ⟨.inl i, rfl⟩
  · rename_i x
    exact ⟨.inr x, rfl⟩
theorem IsH.key {K : PySem.W.Frag} {G H : Hp} {v : V} {l : Key} (h : IsH K G H v (kD l)) : v = kV l := by
  cases l <;> cases h <;> rfl
theorem lk_dget {R : Res} {K : PySem.W.Frag} : Lk2 R K rDGet dgetD := by
  refine ⟨fun B G ρ σ H v u x y Q r hx hy h => ?_, fun x y q q' hq h => ?_⟩
  · cases hx <;> first
      | exact h.elim
      | skip
    case kdt a es ps ob sa ha =>
      obtain ⟨hk, d, e, q⟩ := h
      obtain ⟨l, rfl⟩ := key_of hk
      have : lookD ((.none, kmark) :: ps) (kD l) = none := by
        have := ha.lookD_none (kD l)
        unfold lookD at this ⊢
        rw [List.find?_cons]
        have e : kEq .none (kD l) = false := by cases l <;> rfl
        simp only [e]
        exact this
      rw [this] at e
      cases e
    rename_i a kvs ps sa ha
    obtain ⟨hk, d, e, q⟩ := h
    obtain ⟨l, rfl⟩ := key_of hk
    obtain ⟨w, e1, i1⟩ := ha.look e
    have := hy.key
    subst this
    exact ⟨a, w, rfl, by rw [← e1]; exact DGet.k sa, aft q r i1⟩
  · unfold dgetD at h ⊢
    split at h
    · obtain ⟨a, d, b, c⟩ := h
      exact ⟨a, d, b, hq _ c⟩
    · exact h.elim
theorem se_dget {R : Res} {X : Cx} {e1 e2 : Expr} {a b : Od} {pos : Pos} (hu : X.A.units + 1 < cLine) (ha : SO R X e1 a) (hb : SO R X e2 b) (hs : NoSl e2) : SE R X (.Subscript e1 e2 pos) (wOp2 dgetD a b) := by
  refine ⟨fun B => PE.imp (pe_dget hu (ha.pe B) (hb.pe B) hs) fun σ H Q ⟨ρ, G, rl, h⟩ => ?_, mono_op2 ((lk_dget (R := R) (K := X.K)).mono) ha.mono hb.mono⟩
  refine od_step ha.mono rl h fun ga ρ1 v G1 H1 s1 r1 i1 h1 => ?_
  refine od_step hb.mono r1 h1 fun gb ρ2 u G2 H2 s2 r2 i2 h2 => ?_
  obtain ⟨x, y, e1, e2, q⟩ := h2
  exact (lk_dget (R := R) (K := X.K)).to B G2 ρ2 σ H2 v u x y _ r2 ((i1.mono s2).at r2 e1) (i2.at r2 e2) (lk_dget.mono (R := R) (K := X.K) _ _ _ _ (fun z q v' G3 H3 s3 r3 n => q v' G3 H3 ((s1.trans s2).trans s3) r3 n) q)
/-! ### d[k] = v, of one's own dict -/
section
variable {R : Res} {K : PySem.W.Frag} {B : Bs} {G : Hp} {ρ : Sls} {σ : L2.St} {H : Hp}
theorem Rel.ownD (r : Rel R K B G ρ σ H) {i : Nat} {ps : List (PyData × PyData)} (h : ρ[i]? = some (.own (.dict ps))) (m : noMk ps = true) : ∃ a kvs, σ[i]? = some (some (.ref a)) ∧ H a = some (.dK kvs) ∧ Isd K G kvs ps := by
  obtain ⟨a, ho, e1, _, _, e4, e5, _⟩ := r.o i _ h
  cases e5 with
  | kdt hv => cases m
  | dct hv => exact ⟨a, _, e1, e4, hv⟩
end
@[simp] def wgDsub (i : Nat) (w : WE) : WG := fun d ρ Q => (∃ ps, ρ[i]? = some (.own (.dict ps)) ∧ noMk ps = true) ∧ w ρ fun k ρ1 => ∃ ps, isKey k = true ∧ ρ1[i]? = some (.own (.dict ps)) ∧ noMk ps = true ∧ ps.length < sizeLine ∧ Q (ρ1.set i (.own (.dict (putD ps k d))))
section
variable {R : Res} {X : Cx} {i : Nat} {x : Str} {p pos : Pos} {e : Expr} {w : WE}
theorem sg_dsub (hu : X.A.units + 1 < cLine) (h : PE X (.Name x p) (tVar i)) (he : SE R X e w) (ha : ∀ v, assign (.Subscript (.Name x p) e pos) X.env v = (do
      let ov ← holding [v] (eval (.Name x p) X.env)
      let iv ← holding [v, ov] (eval e X.env)
      standAt pos
      holding [v, ov, iv] (setItem ov iv v)
      release [v, ov, iv] []) := by intro _; rfl) : SG R X (.Subscript (.Name x p) e pos) (gSub (tVar i) (fun σ H Q => ∃ B, liftE R X.K B w σ H Q) rSetD) (wgDsub i w) [] := by
  refine ⟨pg_sub h ⟨fun pins s σ H Q I ⟨B, q⟩ => (he.pe B).run pins s σ H Q I q⟩ (set_dict hu) ha, fun B ρ G σ H v d q r iv ⟨⟨ds0, e0, m0⟩, k⟩ => ?_, fun d ρ Q Q' hq ⟨z, k⟩ => ⟨z, he.mono ρ _ _ (fun k ρ1 ⟨ps, a, b, m, c, q⟩ => ⟨ps, a, b, m, c, hq _ q⟩) k⟩⟩
  obtain ⟨a, vs0, ea, eH, _⟩ := r.ownD e0 m0
  refine ⟨_, ea, B, ρ, G, r, he.mono ρ _ _ (fun k ρ1 ⟨ps, hk, e1, m1, hl, k⟩ u G' H' s r' iu => ?_) k⟩
  obtain ⟨l, rfl⟩ := key_of hk
  obtain ⟨a', kvs, ea', eH', iv'⟩ := r'.ownD e1 m1
  rw [ea] at ea'
  cases ea'
  have := (iu.h r'.sub).key
  subst this
  exact ⟨a, _, rfl, DPut.k eH' (by rw [iv'.len]; exact hl), k σ G' _ (Off.refl [] σ) s (r'.put e1 ea (.dct (iv'.put (iv.mono s))))⟩
end
theorem hu1 {A : Around} {k : Nat} (hr : Room k A) : A.units + 1 < cLine := by
  have := hr.un
  omega
end DL
namespace DL
open PySem PySem.Spec PyProof.Rows L2
/-! ## the resource of the second kind: a dict with a list of deep numbers and two numbers -/
def urnHO (fa : Addr) (st tm : Int) : HO := .dK [(.inr "deep", .ref fa), (.inr "state", .int st), (.inr "turn", .int tm)]
def urnR : Res where
  ok H la fp := ∃ (fa : Addr) (far : List Int) (st tm : Int), fp = [la, fa] ∧ la ≠ fa ∧ H la = some (urnHO fa st tm) ∧ H fa = some (.lst (far.map V.int)) ∧ far.length ≤ 63
  loc := fun H H' a fp h ⟨fa, far, st, tm, e, n, h1, h2, h3⟩ => by
    subst e
    exact ⟨fa, far, st, tm, rfl, n, by rw [h a (by simp)]; exact h1, by rw [h fa (by simp)]; exact h2, h3⟩
  there := fun H a fp ⟨fa, far, st, tm, e, n, h1, h2, h3⟩ b hb => by
    subst e
    rcases List.mem_cons.mp hb with z | z
    · rw [z, h1]
      exact nofun
    · rw [List.mem_singleton.mp z, h2]
      exact nofun
  rd := fun H a fp ⟨fa, far, st, tm, e, n, h1, h2, h3⟩ => by
    subst e
    simp
theorem get_deep {la fa : Addr} {st tm : Int} {H : Hp} (h : H la = some (urnHO fa st tm)) : DGet H la (.str "deep") (some (.ref fa)) := DGet.k (k := .inr "deep") h
theorem get_state {la fa : Addr} {st tm : Int} {H : Hp} (h : H la = some (urnHO fa st tm)) : DGet H la (.str "state") (some (.int st)) := DGet.k (k := .inr "state") h
theorem get_turn {la fa : Addr} {st tm : Int} {H : Hp} (h : H la = some (urnHO fa st tm)) : DGet H la (.str "turn") (some (.int tm)) := DGet.k (k := .inr "turn") h
theorem put_turn {la fa : Addr} {st tm t2 : Int} {H : Hp} (h : H la = some (urnHO fa st tm)) : DPut H la (.str "turn") (.int t2) (upd H la (urnHO fa st t2)) := DPut.k (k := .inr "turn") h (show 3 < sizeLine by decide)
theorem put_state {la fa : Addr} {st tm t2 : Int} {H : Hp} (h : H la = some (urnHO fa st tm)) : DPut H la (.str "state") (.int t2) (upd H la (urnHO fa t2 tm)) := DPut.k (k := .inr "state") h (show 3 < sizeLine by decide)
theorem put_deep {la fa fb : Addr} {st tm : Int} {H : Hp} (h : H la = some (urnHO fa st tm)) : DPut H la (.str "deep") (.ref fb) (upd H la (urnHO fb st tm)) := DPut.k (k := .inr "deep") h (show 3 < sizeLine by decide)
instance plain_loom : Plain loomR := ⟨fun _ _ _ _ => True.intro⟩
instance plain_urn : Plain urnR := ⟨fun _ _ _ _ => True.intro⟩
end DL
namespace DL
open PySem PySem.Spec PyProof.Rows L2 BM
/-! ## kinds, rows, books, lines, standings as data -/
abbrev dis (is : List Int) : List PyData := is.map PyData.int
def dop : Option Int → PyData
  | none => .none
  | some i => .int i
@[simp] theorem dop_none : dop none = .none := rfl
@[simp] theorem dop_some (i : Int) : dop (some i) = .int i := rfl
def dbk (b : Bk) : PyData := .tuple (b.map dpr)
def dln (l : List Bk) : PyData := .tuple (l.map dbk)
def dst (s : List (Option Int)) : PyData := .tuple (s.map dop)
def drw (r : List Int) : PyData := .tuple (dis r)
@[simp] theorem eqv_dpr (p q : Int × Int) : PyData.eqv (dpr p) (dpr q) = (p == q) := by
  obtain ⟨a, b⟩ := p
  obtain ⟨c, d⟩ := q
  simp only [dpr, PyData.eqv, PyData.eqvAll, Bool.and_true]
  rfl
@[simp] theorem eqv_dpr1 (p : Int × Int) (x h : Int) : PyData.eqv (dpr p) (.tuple [.int x, .int h]) = (p == (x, h)) := eqv_dpr p (x, h)
theorem any_dpr (b : Bk) (x h : Int) : ((b.map dpr).any fun z => PyData.eqv z (.tuple [.int x, .int h])) = b.contains (x, h) := by
  have e : PyData.tuple [.int x, .int h] = dpr (x, h) := rfl
  rw [e]
  induction b with
  | nil => rfl
  | cons p b ih =>
    rw [List.map_cons, List.any_cons, ih, eqv_dpr, List.contains_cons, Bool.beq_comm]
@[simp] theorem any_dpr2 (b : Bk) (x h : Int) : (b.any ((fun z => PyData.eqv z (.tuple [.int x, .int h])) ∘ dpr)) = decide ((x, h) ∈ b) := by
  have := any_dpr b x h
  rw [List.any_map] at this
  rw [this]
  simp
theorem canLay_map {α : Type} {f : α → PyData} (h : ∀ x, (f x).canLay0 = true) : ∀ xs : List α, PyData.canLayAll0 (xs.map f) = true
  | [] => rfl
  | x :: xs => by simp [PyData.canLayAll0, h x, canLay_map h xs]
theorem depth_map {α : Type} {f : α → PyData} {n : Nat} (h : ∀ x, (f x).depth ≤ n) : ∀ xs : List α, PyData.depthAll (xs.map f) ≤ n
  | [] => Nat.zero_le _
  | x :: xs => by
    simp only [List.map_cons, PyData.depthAll]
    have := h x
    have := depth_map h xs
    omega
/-- may be laid, so deep at most -/
structure Lay (n : Nat) (d : PyData) : Prop where
  c : d.canLay0 = true
  d : d.depth ≤ n
theorem Lay.shaped {n : Nat} {d : PyData} (h : Lay n d) (hn : n ≤ 20) : SeqAt.shaped d = true := by
  unfold SeqAt.shaped
  rw [h.c, Bool.true_and]
  have := h.d
  exact decide_eq_true (by omega)
theorem Lay.int (i : Int) : Lay 0 (.int i) := ⟨rfl, Nat.le_refl _⟩
theorem Lay.non : Lay 0 .none := ⟨rfl, Nat.le_refl _⟩
theorem Lay.bl (b : Bool) : Lay 0 (.bool b) := ⟨rfl, Nat.le_refl _⟩
theorem Lay.op (o : Option Int) : Lay 0 (dop o) := by
  cases o
  · exact .non
  · exact .int _
theorem Lay.up {n m : Nat} {d : PyData} (h : Lay n d) (l : n ≤ m) : Lay m d := ⟨h.c, Nat.le_trans h.d l⟩
theorem Lay.tup {α : Type} {f : α → PyData} {n : Nat} (h : ∀ x, Lay n (f x)) (xs : List α) : Lay (n + 1) (.tuple (xs.map f)) := ⟨by simp [PyData.canLay0, canLay_map fun x => (h x).c], by
  have := depth_map (fun x => (h x).d) xs
  simp only [PyData.depth]
  omega⟩
theorem Lay.lst {α : Type} {f : α → PyData} {n : Nat} (h : ∀ x, Lay n (f x)) (xs : List α) : Lay (n + 1) (.list (xs.map f)) := ⟨by simp [PyData.canLay0, canLay_map fun x => (h x).c], by
  have := depth_map (fun x => (h x).d) xs
  simp only [PyData.depth]
  omega⟩
theorem Lay.pr (p : Int × Int) : Lay 1 (dpr p) := ⟨rfl, by simp [dpr, PyData.depth, PyData.depthAll]⟩
theorem Lay.bk (b : Bk) : Lay 2 (dbk b) := Lay.tup Lay.pr b
theorem Lay.ln (l : List Bk) : Lay 3 (dln l) := Lay.tup Lay.bk l
theorem Lay.st (s : List (Option Int)) : Lay 1 (dst s) := Lay.tup Lay.op s
theorem Lay.rw (r : List Int) : Lay 1 (drw r) := Lay.tup Lay.int r
@[simp] theorem shaped_pr (x h : Int) : SeqAt.shaped (.tuple [.int x, .int h]) = true := (Lay.pr (x, h)).shaped (by decide)
theorem shaped_bk (b : Bk) : SeqAt.shaped (.tuple (b.map dpr)) = true := (Lay.bk b).shaped (by decide)
/-! ### how long their texts are -/
def OkK (k : Int) : Prop := 0 ≤ k ∧ k < 8
structure OkB (b : Bk) : Prop where
  k : ∀ p ∈ b, OkK p.1 ∧ OkK p.2
  l : b.length ≤ 56
structure OkL (m : Nat) (l : List Bk) : Prop where
  b : ∀ b ∈ l, OkB b
  l : l.length ≤ m
structure OkR (m : Nat) (r : List Int) : Prop where
  k : ∀ k ∈ r, OkK k
  l : r.length ≤ m
structure OkS (m : Nat) (r : List (Option Int)) : Prop where
  k : ∀ k, some k ∈ r → OkK k
  l : r.length ≤ m
theorem sz_k {k : Int} (h : OkK k) : Sz 0 4 (.int k) := (sz_int h.1 (by have := h.2; omega)).le (Nat.le_refl _) (by decide)
theorem sz_op {o : Option Int} (h : ∀ k, o = some k → OkK k) : Sz 0 4 (dop o) := by
  cases o with
  | none => exact ⟨rfl, Nat.le_refl _, Nat.le_refl _⟩
  | some k => exact sz_k (h k rfl)
theorem sz_pr {p : Int × Int} (h : OkK p.1 ∧ OkK p.2) : Sz 1 15 (dpr p) := (SzA.cons (sz_k h.1) (SzA.cons (sz_k h.2) (SzA.nil (n := 0)))).tup (by decide)
theorem sz_map {α : Type} {f : α → PyData} {m n k : Nat} {xs : List α} (h : ∀ x ∈ xs, Sz m n (f x)) (hl : xs.length ≤ k) : SzA m ((n + 2) * k) (xs.map f) := SzA.all (fun x hx => by
  obtain ⟨y, hy, rfl⟩ := List.mem_map.mp hx
  exact h y hy) (by rw [List.length_map]; exact hl)
theorem sz_bk {b : Bk} (h : OkB b) : Sz 2 1091 (dbk b) := (sz_map (fun p hp => sz_pr (h.k p hp)) h.l).tup (by decide)
theorem sz_ln {m : Nat} {l : List Bk} (h : OkL m l) : Sz 3 (1093 * m + 3) (dln l) := (sz_map (fun b hb => sz_bk (h.b b hb)) h.l).tup (Nat.le_refl _)
theorem sz_rw {m : Nat} {r : List Int} (h : OkR m r) : Sz 1 (6 * m + 3) (drw r) := (sz_map (fun b hb => sz_k (h.k b hb)) h.l).tup (Nat.le_refl _)
theorem sz_st {m : Nat} {r : List (Option Int)} (h : OkS m r) : Sz 1 (6 * m + 3) (dst r) := (sz_map (fun o ho => sz_op fun k e => h.k k (e ▸ ho)) h.l).tup (Nat.le_refl _)
theorem sz_l2 {m n k : Nat} {a b : PyData} (h1 : Sz m n a) (h2 : Sz m k b) : Sz (m + 1) (n + k + 6) (.list [a, b]) := (SzA.cons h1 (SzA.cons h2 (SzA.nil (n := 0)))).lst (by omega)
theorem sz_l3 {m n k j : Nat} {a b c : PyData} (h1 : Sz m n a) (h2 : Sz m k b) (h3 : Sz m j c) : Sz (m + 1) (n + k + j + 8) (.list [a, b, c]) := (SzA.cons h1 (SzA.cons h2 (SzA.cons h3 (SzA.nil (n := 0))))).lst (by omega)
theorem sz_t2 {m n k : Nat} {a b : PyData} (h1 : Sz m n a) (h2 : Sz m k b) : Sz (m + 1) (n + k + 7) (.tuple [a, b]) := (SzA.cons h1 (SzA.cons h2 (SzA.nil (n := 0)))).tup (by omega)
/-! ### enumerate -/
theorem enum_cons (i : Int) (d : PyData) (ds : List PyData) : enumD i (d :: ds) = .tuple [.int i, d] :: enumD (i + 1) ds := rfl
theorem enum_nil (i : Int) : enumD i [] = [] := rfl
theorem enum_map {α : Type} (f : α → PyData) : ∀ (xs : List α) (i : Int), enumD i (xs.map f) = (xs.zipIdx).map fun p => .tuple [.int (i + (p.2 : Nat)), f p.1] := by
  intro xs
  have : ∀ (xs : List α) (i : Int) (k : Nat), enumD (i + (k : Nat)) (xs.map f) = (xs.zipIdx k).map fun p => .tuple [.int (i + (p.2 : Nat)), f p.1] := fun xs => by
    induction xs with
    | nil => intro i k; rfl
    | cons x xs ih =>
      intro i k
      rw [List.map_cons, enum_cons, List.zipIdx_cons, List.map_cons]
      have := ih i (k + 1)
      rw [← this]
      congr 2
      omega
  intro i
  have h := this xs i 0
  simpa using h
theorem rep_one (d : PyData) (n : Nat) : repD [d] (n : Int) = List.replicate n d := by
  unfold repD
  rw [Int.toNat_natCast]
  induction n with
  | zero => rfl
  | succ n ih => simp [List.replicate_succ, ih]
theorem fit_nat {n : Nat} (h : n ≤ 100000) : Fit63 (n : Int) := ⟨by omega, by omega⟩
theorem lt_big {n : Nat} (h : n ≤ 100000) : n < sizeLine := Nat.lt_of_le_of_lt h (by decide)
theorem le_big {n : Nat} (h : n ≤ 100000) : n ≤ sizeLine := Nat.le_of_lt (lt_big h)
end DL
namespace DL
open PySem PySem.Spec PyProof.Rows L2
/-! ## x.extend(y), y a list or a tuple -/
open PySem.AutoSeq1 (wpAny_loadPart' idx_int) in
theorem ext_tup (l b : Addr) (xs ys : Array Value) (n m : Nat) (od : Option Addr) (os : Array (Option Value)) (h0 : ¬ (!xs.isEmpty && Builtin.List.listTooLong (xs.size + ys.size)) = true) (h1 : xs.size ≤ sizeLine) (h2 : xs.size + ys.size ≤ sizeLine + 1) :
    Meets (Builtin.«list.extend» ⟨[.ref l, .ref b], []⟩) (fun _ R z => z.heap.get? l = some { cls := .type "list", dict := none, data := .seq xs n, slots := #[] } ∧ z.heap.get? b = some { cls := .type "tuple", dict := od, data := .seq ys m, slots := os } ∧
      R (.ok (.ret Value.none)) { z with heap := z.heap.update l (Obj.mapSeq fun q => q ++ ys), toks := z.toks }) :=
  .of_wp fun P w A R z h => by
    obtain ⟨hp, g, d, tk, ot⟩ := z
    obtain ⟨gl, gb, h⟩ := h
    have q1 := idx_int
    have q2 := PyProof.Rows.sub_tuple_tuple
    have q3 := PyProof.Rows.sub_list_list
    have q4 := PyProof.Rows.sub_tuple_list
    have q5 := PyProof.Rows.sub_list_tuple
    have fit : (xs ++ ys).size ≤ sizeLine + 1 := by
      rw [Array.size_append]
      exact h2
    wp_walk using (wpAny_updateSeq gl rfl (hz := h1) (_hz' := fit)), wpAny_loadPart' gl, wpAny_loadPart' gb
    exact ⟨_, rfl, h⟩
def rExtT (K : PySem.W.Frag) : V → List V → Hp → VK → Prop := fun x vs H Q => ∃ l b xs zs, x = V.ref l ∧ vs = [V.ref b] ∧ H l = some (.lst xs) ∧ SqT K H b zs ∧ xs.length + zs.length ≤ sizeLine ∧ Q .non (upd H l (.lst (xs ++ zs)))
theorem mt_extT {X : Cx} : MtR X "list.extend" (rExtT X.K) := by
  intro pins s σ H x vs v us Q I rx rv h
  obtain ⟨l, b, xs, zs, rfl, rfl, hH, hB, hz, q⟩ := h
  cases rx
  obtain ⟨u, rfl, ru⟩ := rv.one
  cases ru
  obtain ⟨z, its, n, r, hl, e⟩ := I.lstM hH
  obtain ⟨its2, r2, ⟨o2, e2, c2, n2, d2⟩, z2⟩ := I.tuple hB
  have l2 := r2.length
  have sz : its.toArray.size + its2.toArray.size ≤ sizeLine := by
    rw [List.size_toArray, List.size_toArray]
    omega
  have nl : ¬ (!its.toArray.isEmpty && Builtin.List.listTooLong (its.toArray.size + its2.toArray.size)) = true := by
    rw [notLongL sz, Bool.and_false]
    exact Bool.false_ne_true
  obtain ⟨oc, od, ot, os⟩ := o2
  simp only at c2 d2
  subst c2 d2
  refine call_meets PySem.F.slot_list_extend ⟨_, e, rfl⟩ PySem.F.entry_list_extend (PySem.F.args_list_extend_2 _ _) (ext_tup l b its.toArray its2.toArray n n2 od os nl (by rw [List.size_toArray]; omega) (by omega)) ⟨e, e2, ?_⟩
  refine ⟨.non, _, I.lset (its' := its ++ its2) hH e (by simp) (r.append r2) ?_, rfl, q⟩
  rw [List.length_append]
  omega
@[simp] def wExtX (i : Nat) (w : WE) : WE := fun ρ Q => (∃ ds, ρ[i]? = some (.own (.list ds))) ∧ w ρ fun d ρ1 => ∃ ds es, (d = .list es ∨ d = .tuple es) ∧ ρ1[i]? = some (.own (.list ds)) ∧ ds.length + es.length ≤ sizeLine ∧ Q .none (ρ1.set i (.own (.list (ds ++ es))))
def rExtX (K : PySem.W.Frag) : V → List V → Hp → VK → Prop := fun x vs H Q => rExtend x vs H Q ∨ rExtT K x vs H Q
theorem mt_extX {X : Cx} : MtR X "list.extend" (rExtX X.K) := fun pins s σ H x vs v us Q I rx rv h => h.elim (mt_extend pins s σ H x vs v us Q I rx rv) (mt_extT pins s σ H x vs v us Q I rx rv)
section
variable {R : Res} {X : Cx} {i : Nat} {x : Str} {p apos cpos : Pos} {e : Expr} {w : WE}
theorem se_extendX (h : PE X (.Name x p) (tVar i)) (he : SE R X e w) (hbase : attributeBase (.Name x p) "extend" X.env (eval (.Name x p) X.env) = eval (.Name x p) X.env := by rfl)
    (hfew : ((backTo cpos (starEach [e] X.env)).all (fun x => !x.1) && (backToKw cpos (keywordEach [] X.env)).all (fun x => x.1.isSome) && decide ([e].length + ([] : List Keyword).length + (if ([] : List Keyword).isEmpty then 0 else 1) < 30)) = true := by rfl)
    (hline : (apos.endLine == cpos.line) = true := by rfl) (hs : starEach [e] X.env = (false, eval e X.env) :: starEach [] X.env := by rfl) (hplain : (backTo cpos (starEach [] X.env)).any (·.1) = false := by rfl) :
    SE R X (.Call (.Attribute (.Name x p) "extend" apos) [e] [] cpos) (wExtX i w) := by
  refine ⟨fun B => PE.imp (pe_bm PySem.F.plainAttrs_list PySem.F.slot_list_extend PySem.F.type_list_extend mt_extX h ((ses_cons he ses_nil hs).pa B) hbase hfew hline hs hplain) fun σ H Q ⟨ρ, G, r, ⟨ds0, e0⟩, q⟩ => ?_, fun ρ Q Q' hq ⟨z, q⟩ => ⟨z, he.mono ρ _ _ (fun d ρ1 ⟨ds, es, a, b, c, q⟩ => ⟨ds, es, a, b, c, hq _ _ q⟩) q⟩⟩
  obtain ⟨a, vs0, ea, eH, _⟩ := r.ownL e0
  refine ⟨_, ea, tyL eH, ρ, G, r, he.mono ρ _ _ (fun d ρ1 ⟨ds, es, ed, e1, hl, q⟩ us G' H' s r' iv => ?_) q⟩
  obtain ⟨a', vs, ea', eH', iv'⟩ := r'.ownL e1
  rw [ea] at ea'
  cases ea'
  cases iv with
  | cons i1 i2 =>
    cases i2
    rcases ed with rfl | rfl
    · cases i1 with
      | lst sa ha => exact .inl ⟨a, _, vs, _, rfl, rfl, eH', r'.sub _ _ sa, by rw [iv'.length, ha.length]; exact hl, q _ G' _ s (r'.put e1 ea (.lst (iv'.append ha))) .non⟩
    · cases i1 with
      | tup sa ha => exact .inr ⟨a, _, vs, _, rfl, rfl, eH', Sub.seqT r'.sub sa, by rw [iv'.length, ha.length]; exact hl, q _ G' _ s (r'.put e1 ea (.lst (iv'.append ha))) .non⟩
end
/-! ## comprehensions over what is told -/
theorem wLcL_mapT {α : Type} {g : WG} {tt : WT} {te : WE} {vs : List Nat} {ρ0 : Sls} (I : Sls → Prop) (en : α → PyData) (f : α → List PyData) (hf : ∀ a, (f a).length ≤ 1) {Q : List PyData → Sls → Prop} : ∀ (as : List α) (acc : List PyData) (ρ : Sls),
    (∀ a, a ∈ as → ∀ ρ, I ρ → ∀ k : List PyData → Sls → Prop, (∀ ρ', I ρ' → k (f a) ρ') → g (en a) (wipS ρ vs) fun ρ1 => tt ρ1 fun c ρ2 => if c = true then te ρ2 fun d ρ3 => k [d] ρ3 else k [] ρ2) →
    acc.length + as.length ≤ sizeLine → I ρ → (∀ ρ', I ρ' → Q (acc ++ as.flatMap f) (backS ρ0 ρ' vs)) → wLcL g tt te vs ρ0 (as.map en) acc ρ Q
  | [], acc, ρ, _, _, hi, h => by
    have := h ρ hi
    rw [List.flatMap_nil, List.append_nil] at this
    exact this
  | a :: as, acc, ρ, stp, hl, hi, h => by
    show g (en a) (wipS ρ vs) fun ρ1 => tt ρ1 fun c ρ2 => if c = true then te ρ2 fun d ρ3 => acc.length < sizeLine ∧ wLcL g tt te vs ρ0 (as.map en) (acc ++ [d]) ρ3 Q else wLcL g tt te vs ρ0 (as.map en) acc ρ2 Q
    have key := stp a List.mem_cons_self ρ hi (fun ys ρ' => (ys ≠ [] → acc.length < sizeLine) ∧ wLcL g tt te vs ρ0 (as.map en) (acc ++ ys) ρ' Q) fun ρ' hi' => ⟨fun _ => by simp at hl; omega, ?_⟩
    · simpa using key
    · have hy := hf a
      refine wLcL_mapT I en f hf as (acc ++ f a) ρ' (fun y hy => stp y (List.mem_cons_of_mem _ hy)) (by simp at hl ⊢; omega) hi' fun ρ2 hi2 => ?_
      rw [List.append_assoc]
      have := h ρ2 hi2
      rw [List.flatMap_cons] at this
      exact this
/-- [y(a) for a in as] -/
theorem wLcL_mp {α : Type} {g : WG} {te : WE} {vs : List Nat} {ρ0 : Sls} (I : Sls → Prop) (en : α → PyData) (y : α → PyData) {Q : List PyData → Sls → Prop} (as : List α) (ρ : Sls)
    (stp : ∀ a, a ∈ as → ∀ ρ, I ρ → ∀ k : PyData → Sls → Prop, (∀ ρ', I ρ' → k (y a) ρ') → g (en a) (wipS ρ vs) fun ρ1 => te ρ1 k)
    (hl : as.length ≤ sizeLine) (hi : I ρ) (h : ∀ ρ', I ρ' → Q (as.map y) (backS ρ0 ρ' vs)) : wLcL g wYes te vs ρ0 (as.map en) [] ρ Q := by
  refine wLcL_mapT I en (fun a => [y a]) (fun a => Nat.le_refl _) as [] ρ (fun a ha ρ hi k hk => ?_) (by simpa using hl) hi fun ρ' hi' => ?_
  · show g (en a) (wipS ρ vs) fun ρ1 => te ρ1 fun d ρ3 => k [d] ρ3
    exact stp a ha ρ hi (fun d ρ3 => k [d] ρ3) hk
  · have : as.flatMap (fun a => [y a]) = as.map y := by
      clear stp hl h
      induction as with
      | nil => rfl
      | cons a as ih =>
        rw [List.flatMap_cons, ih]
        rfl
    rw [List.nil_append, this]
    exact h ρ' hi'
/-- [y(a) for a in as if c(a)] -/
theorem wLcL_fl {α : Type} {g : WG} {tt : WT} {te : WE} {vs : List Nat} {ρ0 : Sls} (I : Sls → Prop) (en : α → PyData) (c : α → Bool) (y : α → PyData) {Q : List PyData → Sls → Prop} (as : List α) (ρ : Sls)
    (stp : ∀ a, a ∈ as → ∀ ρ, I ρ → ∀ k1 : PyData → Sls → Prop, ∀ k0 : Sls → Prop, (c a = true → ∀ ρ', I ρ' → k1 (y a) ρ') → (c a = false → ∀ ρ', I ρ' → k0 ρ') → g (en a) (wipS ρ vs) fun ρ1 => tt ρ1 fun c ρ2 => if c = true then te ρ2 k1 else k0 ρ2)
    (hl : as.length ≤ sizeLine) (hi : I ρ) (h : ∀ ρ', I ρ' → Q ((as.filter c).map y) (backS ρ0 ρ' vs)) : wLcL g tt te vs ρ0 (as.map en) [] ρ Q := by
  refine wLcL_mapT I en (fun a => if c a = true then [y a] else []) (fun a => by split <;> simp) as [] ρ (fun a ha ρ hi k hk => ?_) (by simpa using hl) hi fun ρ' hi' => ?_
  · exact stp a ha ρ hi (fun d ρ3 => k [d] ρ3) (fun ρ2 => k [] ρ2) (fun e ρ' hi' => by have := hk ρ' hi'; rwa [if_pos e] at this) fun e ρ' hi' => by have := hk ρ' hi'; rwa [if_neg (by rw [e]; exact Bool.false_ne_true)] at this
  · have : as.flatMap (fun a => if c a = true then [y a] else []) = (as.filter c).map y := by
      clear stp hl h
      induction as with
      | nil => rfl
      | cons a as ih =>
        rw [List.flatMap_cons, ih, List.filter_cons]
        split <;> simp
    rw [List.nil_append, this]
    exact h ρ' hi'
/-! ## pairs, read -/
@[simp high] theorem ixD_dpr0 (p : Int × Int) (q : PyData → Prop) : ixD (dpr p) (.int 0) q = q (.int p.1) := by
  have : L2.atI [PyData.int p.1, PyData.int p.2] 0 = some (.int p.1) := L2.atI_nat (j := 0) rfl
  unfold ixD dpr
  simp [this]
@[simp high] theorem ixD_dpr1 (p : Int × Int) (q : PyData → Prop) : ixD (dpr p) (.int 1) q = q (.int p.2) := by
  have : L2.atI [PyData.int p.1, PyData.int p.2] 1 = some (.int p.2) := L2.atI_nat (j := 1) rfl
  unfold ixD dpr
  simp [this]
@[simp high] theorem isND_dpr (neg : Bool) (p : Int × Int) (q : PyData → Prop) : isND neg (dpr p) .none q = q (.bool neg) := by
  unfold isND dpr
  simp
@[simp] theorem dpr_tup (p : Int × Int) (ds : List PyData) : (dpr p = .tuple ds) = (ds = [.int p.1, .int p.2]) := by
  unfold dpr
  simp [eq_comm]
@[simp] theorem tup_dpr (p : Int × Int) (ds : List PyData) : (.tuple ds = dpr p) = (ds = [.int p.1, .int p.2]) := by
  unfold dpr
  simp
@[simp] theorem shaped_dpr (p : Int × Int) : SeqAt.shaped (dpr p) = true := (Lay.pr p).shaped (by decide)
theorem dpr_eq (x h : Int) : PyData.tuple [.int x, .int h] = dpr (x, h) := rfl
end DL
namespace DL
open PySem PySem.Spec PyProof.Rows L2
/-! ## min and max of two numbers, list.remove of a number -/
theorem lk_two {R : Res} {K : PySem.W.Frag} {g : Int → Int → Int} : Lk2 R K (fun v u H Q => (fun (xs : List V) H Q => ∃ i j, xs = [V.int i, V.int j] ∧ Q (V.int (g i j)) H) [v, u] H Q) (intD0 fun i j => .int (g i j)) := by
  refine ⟨fun B G ρ σ H v u x y Q r hx hy h => ?_, fun x y q q' hq h => ?_⟩
  · cases hx <;> first
      | (unfold intD0 at h; exact h.elim)
      | skip
    cases hy <;> first
      | (unfold intD0 at h; exact h.elim)
      | skip
    exact ⟨_, _, rfl, aft h r (.int _)⟩
  · unfold intD0 at h ⊢
    split at h <;> first
      | exact hq _ h
      | exact h
@[simp] abbrev max2D : D2 := intD0 fun i j => .int (if j > i then j else i)
@[simp] abbrev min2D : D2 := intD0 fun i j => .int (if j < i then j else i)
@[simp] def wRem (i : Nat) (w : WE) : WE := fun ρ Q => (∃ ds, ρ[i]? = some (.own (.list ds))) ∧ w ρ fun d ρ1 => ∃ (ns : List Int) (k : Int) (j : Nat), d = .int k ∧ ρ1[i]? = some (.own (.list (ns.map PyData.int))) ∧ ns[j]? = some k ∧ (∀ m : Nat, m < j → ns[m]? ≠ some k) ∧ Q .none (ρ1.set i (.own (.list ((ns.eraseIdx j).map PyData.int))))
section
variable {R : Res} {X : Cx} {i : Nat} {x : Str} {p apos cpos : Pos} {e : Expr} {w : WE}
theorem se_remove (h : PE X (.Name x p) (tVar i)) (he : SE R X e w) (hbase : attributeBase (.Name x p) "remove" X.env (eval (.Name x p) X.env) = eval (.Name x p) X.env := by rfl)
    (hfew : ((backTo cpos (starEach [e] X.env)).all (fun x => !x.1) && (backToKw cpos (keywordEach [] X.env)).all (fun x => x.1.isSome) && decide ([e].length + ([] : List Keyword).length + (if ([] : List Keyword).isEmpty then 0 else 1) < 30)) = true := by rfl)
    (hline : (apos.endLine == cpos.line) = true := by rfl) (hs : starEach [e] X.env = (false, eval e X.env) :: starEach [] X.env := by rfl) (hplain : (backTo cpos (starEach [] X.env)).any (·.1) = false := by rfl) :
    SE R X (.Call (.Attribute (.Name x p) "remove" apos) [e] [] cpos) (wRem i w) := by
  refine ⟨fun B => PE.imp (pe_bm PySem.F.plainAttrs_list PySem.F.slot_list_remove PySem.F.type_list_remove mt_remove h ((ses_cons he ses_nil hs).pa B) hbase hfew hline hs hplain) fun σ H Q ⟨ρ, G, r, ⟨ds0, e0⟩, q⟩ => ?_, fun ρ Q Q' hq ⟨z, q⟩ => ⟨z, he.mono ρ _ _ (fun d ρ1 ⟨ns, k, j, a, b, c, d', q⟩ => ⟨ns, k, j, a, b, c, d', hq _ _ q⟩) q⟩⟩
  obtain ⟨a, vs0, ea, eH, _⟩ := r.ownL e0
  refine ⟨_, ea, tyL eH, ρ, G, r, he.mono ρ _ _ (fun d ρ1 ⟨ns, k, j, ed, e1, hj, hno, q⟩ us G' H' s r' iv => ?_) q⟩
  subst ed
  obtain ⟨a', vs, ea', eH', iv'⟩ := r'.ownL e1
  rw [ea] at ea'
  cases ea'
  have ev := Iss.intsV iv'
  subst ev
  cases iv with
  | cons i1 i2 =>
    cases i2
    cases i1
    exact ⟨a, ns, k, j, rfl, rfl, eH', hj, hno, q _ G' _ s (r'.put e1 ea (.lst (Iss.ints _))) .non⟩
end
end DL
namespace DL
open PySem PySem.Spec PyProof.Rows L2
/-! ## pairs: at most, sorted(set(..)); the least of triples -/
theorem hu64 {A : Around} {k : Nat} (hr : Room k A) : A.units + 64 < cLine := by
  have := hr.units
  omega
theorem hu0 {A : Around} {k : Nat} (hr : Room k A) : A.units < cLine := by
  have := hr.units
  omega
theorem lexAt_pair (a b c d : Int) : Ob.lexAt (fun j => decide ([a, b].getD j 0 = [c, d].getD j 0)) (fun j => decide ([a, b].getD j 0 ≤ [c, d].getD j 0)) (decide ([a, b].length ≤ [c, d].length)) 0 (min [a, b].length [c, d].length) = decide (leP (a, b) (c, d)) := by
  show Ob.lexAt _ _ _ 0 2 = _
  rw [Ob.lexAt_succ, Ob.lexAt_succ, Ob.lexAt_zero]
  simp only [List.getD_cons_zero, List.getD_cons_succ, List.length_cons, List.length_nil, decide_eq_true_eq, Nat.le_refl]
  unfold leP
  by_cases h : a = c
  · by_cases h2 : b = d
    · simp [h, h2]
    · have e : (b ≤ d) ↔ b ≤ d := Iff.rfl
      simp [h, h2]
  · have : (a ≤ c) ↔ (a < c) := by omega
    simp [h, this]
/-- <= of numbers, or of pairs -/
@[simp] def leXD : D2 := fun x y q => (∃ i j, x = .int i ∧ y = .int j ∧ q (.bool (decide (i ≤ j)))) ∨ ∃ p r : Int × Int, x = dpr p ∧ y = dpr r ∧ q (.bool (decide (leP p r)))
theorem lk_leX {R : Res} {K : PySem.W.Frag} : Lk2 R K (rLeT K) (fun x y q => ∃ p r : Int × Int, x = dpr p ∧ y = dpr r ∧ q (.bool (decide (leP p r)))) := by
  refine ⟨fun B G ρ σ H v u x y Q r hx hy ⟨p, t, e1, e2, h⟩ => ?_, fun x y q q' hq ⟨p, t, e1, e2, h⟩ => ⟨p, t, e1, e2, hq _ h⟩⟩
  subst e1
  subst e2
  unfold dpr at hx hy
  cases hx with
  | tup sa ha =>
    cases hy with
    | tup sb hb =>
      have ea := Iss.intsV (ys := [p.1, p.2]) ha
      have eb := Iss.intsV (ys := [t.1, t.2]) hb
      subst ea
      subst eb
      refine ⟨_, _, [p.1, p.2], [t.1, t.2], rfl, rfl, Sub.seqT r.sub sa, Sub.seqT r.sub sb, ?_⟩
      rw [lexAt_pair]
      exact aft h r (.bl _)
def rLeX (K : PySem.W.Frag) : R2 := fun x y H Q => rI0 (fun i j => .bl (decide (i ≤ j))) x y H Q ∨ rLeT K x y H Q
theorem op_leX {X : Cx} (hu : X.A.units < cLine) : OpR X (compareOp .LtE) (rLeX X.K) := fun pins s σ H x y v u Q I rx ry h => h.elim (op_le pins s σ H x y v u Q I rx ry) (op_leT hu pins s σ H x y v u Q I rx ry)
theorem lk_leXD {R : Res} {K : PySem.W.Frag} : Lk2 R K (rLeX K) leXD := by
  refine ⟨fun B G ρ σ H v u x y Q r hx hy h => ?_, fun x y q q' hq h => ?_⟩
  · rcases h with ⟨i, j, e1, e2, h⟩ | h
    · subst e1
      subst e2
      exact .inl (lk_le.to B G ρ σ H v u (.int i) (.int j) Q r hx hy h)
    · exact .inr (lk_leX.to B G ρ σ H v u x y Q r hx hy h)
  · rcases h with ⟨i, j, e1, e2, h⟩ | h
    · exact .inl ⟨i, j, e1, e2, hq _ h⟩
    · obtain ⟨p, t, e1, e2, h⟩ := h
      exact .inr ⟨p, t, e1, e2, hq _ h⟩
/-! ### the least of triples -/
abbrev Tr := Int × Int × Int
def dtr (t : Tr) : PyData := .tuple [.int t.1, .int t.2.1, .int t.2.2]
def ltTr (a b : Tr) : Prop := a.1 < b.1 ∨ (a.1 = b.1 ∧ (a.2.1 < b.2.1 ∨ (a.2.1 = b.2.1 ∧ a.2.2 < b.2.2)))
instance (p q : Tr) : Decidable (ltTr p q) := by unfold ltTr; exact inferInstance
theorem dataLt_tr (a b : Tr) : PySem.W.dataLt (dtr a) (dtr b) = decide (ltTr a b) := by
  obtain ⟨a1, a2, a3⟩ := a
  obtain ⟨b1, b2, b3⟩ := b
  unfold dtr ltTr
  rw [PySem.W.dataLt_tuple]
  have e : ∀ x y z : Int, PySem.W.keyToksAll [.int x, .int y, .int z] = [.inl 1, .inl x, .inl 1, .inl y, .inl 1, .inl z, .inl 0] := fun x y z => rfl
  rw [e, e]
  have go : ∀ (x y : Int) (r t : List (Int ⊕ List Nat)), PyProof.Rows.lexLt itemOrd (.inl x :: r) (.inl y :: t) = (decide (x < y) || (!decide (y < x) && PyProof.Rows.lexLt itemOrd r t)) := fun x y r t => PyProof.Rows.lex_cons (O := itemOrd) _ _ _ _
  rw [go, go, go, go, go, go, go]
  have z : PyProof.Rows.lexLt itemOrd [] [] = false := rfl
  rw [z, Bool.eq_iff_iff]
  simp only [Int.lt_irrefl, decide_false, Bool.not_false, Bool.true_and, Bool.false_or, Bool.and_false, Bool.or_false, Bool.or_eq_true, Bool.and_eq_true, Bool.not_eq_true', decide_eq_true_eq, decide_eq_false_iff_not]
  refine Iff.trans ?_ decide_eq_true_iff.symm
  omega
theorem alike_tr (a b : Tr) : PySem.W.alike (dtr a) (dtr b) = true := rfl
theorem ltTr_trans {a b c : Tr} (h1 : ltTr a b) (h2 : ltTr b c) : ltTr a c := by
  unfold ltTr at *
  omega
theorem minD_tr : ∀ (ts : List Tr) (t : Tr), ∃ m : Tr, PySem.W.minD (dtr t) (ts.map dtr) = dtr m ∧ m ∈ t :: ts ∧ ∀ y ∈ t :: ts, ¬ ltTr y m
  | [], t => ⟨t, rfl, List.mem_singleton_self _, fun y hy => by
    rw [List.mem_singleton.mp hy]
    unfold ltTr
    omega⟩
  | u :: ts, t => by
    have e : PySem.W.minD (dtr t) ((u :: ts).map dtr) = PySem.W.minD (if ltTr u t then dtr u else dtr t) (ts.map dtr) := by
      show List.foldl _ (if PySem.W.dataLt (dtr u) (dtr t) then dtr u else dtr t) _ = _
      rw [dataLt_tr]
      by_cases c : ltTr u t <;> simp [c, PySem.W.minD]
    rw [e]
    by_cases c : ltTr u t
    · rw [if_pos c]
      obtain ⟨m, e1, e2, e3⟩ := minD_tr ts u
      refine ⟨m, e1, List.mem_cons_of_mem _ e2, fun y hy => ?_⟩
      rcases List.mem_cons.mp hy with rfl | hy
      · intro z
        have h1 := e3 u List.mem_cons_self
        exact h1 (ltTr_trans c z)
      · exact e3 y hy
    · rw [if_neg c]
      obtain ⟨m, e1, e2, e3⟩ := minD_tr ts t
      have hm : m ∈ t :: u :: ts := by
        rcases List.mem_cons.mp e2 with h | h
        · rw [h]; exact List.mem_cons_self
        · exact List.mem_cons_of_mem _ (List.mem_cons_of_mem _ h)
      refine ⟨m, e1, hm, fun y hy => ?_⟩
      rcases List.mem_cons.mp hy with rfl | hy
      · exact e3 y List.mem_cons_self
      · rcases List.mem_cons.mp hy with rfl | hy
        · intro z
          have h1 := e3 t List.mem_cons_self
          unfold ltTr at *
          omega
        · exact e3 y (List.mem_cons_of_mem _ hy)
def rMinT (K : PySem.W.Frag) : List V → Hp → VK → Prop := fun vs H Q => ∃ (a : Addr) (xs : List V) (ts : List Tr), vs = [V.ref a] ∧ SqL K H a xs ∧ Iss K H xs (ts.map dtr) ∧ ts ≠ [] ∧ ∀ (i : Nat) (m : Tr) (x : V), xs[i]? = some x → ts[i]? = some m → (∀ y ∈ ts, ¬ ltTr y m) → Q x H
theorem cr_minT {X : Cx} (hc : X.calm = true) (hu : X.A.units + 64 < cLine) : CallR X (.builtin "min") (rMinT X.K) := by
  intro pins s σ H vs us Q I r h
  obtain ⟨a, xs, ts, rfl, hs, hx, hne, q⟩ := h
  obtain ⟨its, rv, hl, _⟩ := I.list hs
  rw [Vals.ref1 r]
  obtain ⟨as, hr, _⟩ := Iss.reads I (.inr (canLay_map (fun t => by simp [dtr, PyData.canLay0, PyData.canLayAll0]) ts)) hx rv
  cases ts with
  | nil => exact absurd rfl hne
  | cons t ts =>
    have dp : ∀ ts : List Tr, PyData.depthAll (ts.map dtr) ≤ 1 := fun ts => depth_map (fun t => by simp [dtr, PyData.depth, PyData.depthAll]) ts
    refine PySem.W.min_list_data (I.ok.hd hc) hl.isList (x := dtr t) (xs := ts.map dtr) (by simpa using hr) ⟨fun x hx y hy => ?_, fun x hx => ?_⟩ (by have := dp (t :: ts); simp only [List.map_cons] at this; omega) fun i v h' tk bs hv rd keep => ?_
    · have hx : x ∈ (t :: ts).map dtr := hx
      have hy : y ∈ (t :: ts).map dtr := hy
      obtain ⟨a, _, rfl⟩ := List.mem_map.mp hx
      obtain ⟨b, _, rfl⟩ := List.mem_map.mp hy
      exact alike_tr a b
    · have hx : x ∈ (t :: ts).map dtr := hx
      obtain ⟨a, _, rfl⟩ := List.mem_map.mp hx
      exact fun z => nomatch z
    · obtain ⟨m, e1, e2, e3⟩ := minD_tr ts t
      obtain ⟨bs', r1, r2, _, _⟩ := PySem.W.readsAll_atA hr i v hv
      have e4 : PySem.W.minD (dtr t) (ts.map dtr) = ((t :: ts).map dtr).getD i .none := (reads_det (fun b o e _ => keep b o e) r1 rd).1
      have hi : i < (t :: ts).length := by simpa using r2
      have e5 : dtr m = dtr (t :: ts)[i] := by
        rw [← e1, e4, List.getD_eq_getElem?_getD, List.getElem?_map, List.getElem?_eq_getElem hi]
        rfl
      have e6 : (t :: ts)[i] = m := by
        unfold dtr at e5
        simp only [PyData.tuple.injEq, List.cons.injEq, PyData.int.injEq, and_true] at e5
        exact (Prod.ext e5.1 (Prod.ext e5.2.1 e5.2.2)).symm
      have hv' : its[i]? = some v := by simpa using hv
      have lx : i < xs.length := by
        have := (List.getElem?_eq_some_iff.mp hv').1
        have := rv.length
        omega
      obtain ⟨u, hu1, hu2⟩ := rv.get (List.getElem?_eq_getElem lx)
      rw [hv'] at hu1
      cases hu1
      exact ⟨xs[i], H, I.kept keep, hu2, q i m xs[i] (List.getElem?_eq_getElem lx) (by rw [List.getElem?_eq_getElem hi, e6]) e3⟩
/-- the least of numbers, or of triples -/
@[simp] def minXD : D1 := fun x q => (∃ ns : List Int, x = .list (ns.map PyData.int) ∧ 0 < ns.length ∧ ∀ m, m ∈ ns → (∀ y, y ∈ ns → m ≤ y) → q (.int m)) ∨
  ∃ ts : List Tr, x = .list (ts.map dtr) ∧ ts ≠ [] ∧ ∀ m ∈ ts, (∀ y ∈ ts, ¬ ltTr y m) → q (dtr m)
def rMinX (K : PySem.W.Frag) : List V → Hp → VK → Prop := fun vs H Q => rMin K vs H Q ∨ rMinT K vs H Q
theorem cr_minX {X : Cx} (hc : X.calm = true) (hu : X.A.units + 64 < cLine) : CallR X (.builtin "min") (rMinX X.K) := fun pins s σ H vs us Q I r h => h.elim (cr_min hc pins s σ H vs us Q I r) (cr_minT hc hu pins s σ H vs us Q I r)
theorem lk_minX {R : Res} {K : PySem.W.Frag} : Lk1 R K (fun v H Q => rMinX K [v] H Q) minXD := by
  refine ⟨fun B G ρ σ H v x Q r hx h => ?_, fun x q q' hq h => ?_⟩
  · rcases h with ⟨ns, e, h0, q⟩ | ⟨ts, e, h0, q⟩
    · subst e
      cases hx with
      | lst sa ha =>
        rw [ha.intsV] at sa
        exact .inl ⟨_, ns, rfl, .of sa, h0, fun m h1 h2 => aft (q m h1 h2) r (.int _)⟩
    · subst e
      cases hx with
      | lst sa ha =>
        refine .inr ⟨_, _, ts, rfl, .of sa, ha.mono r.sub, h0, fun i m x e1 e2 h2 => ?_⟩
        obtain ⟨d, e3, hd⟩ := ha.getV e1
        rw [List.getElem?_map, e2] at e3
        cases e3
        exact aft (q m (List.mem_of_getElem? e2) h2) r hd
  · exact h.imp (fun ⟨ns, e, a, k⟩ => ⟨ns, e, a, fun n h1 h2 => hq _ (k n h1 h2)⟩) fun ⟨ts, e, a, k⟩ => ⟨ts, e, a, fun n h1 h2 => hq _ (k n h1 h2)⟩
/-! ### sorted(set(pairs)) -/
def ltP (p q : Int × Int) : Prop := p.1 < q.1 ∨ (p.1 = q.1 ∧ p.2 < q.2)
theorem iss_refs {K : PySem.W.Frag} {G : Hp} : ∀ {vs : List V} {ps : List (Int × Int)}, Iss K G vs (ps.map dpr) → ∃ ks : List (Addr × List Int), vs = ks.map (fun p => V.ref p.1) ∧ (∀ p ∈ ks, SqT K G p.1 (p.2.map V.int)) ∧ ks.map (·.2) = ps.map fun p => [p.1, p.2]
  | [], [], _ => ⟨[], rfl, fun p hp => absurd hp (by simp), rfl⟩
  | [], p :: ps, h => by cases h
  | v :: vs, [], h => by cases h
  | v :: vs, p :: ps, h => by
    cases h with
    | cons h1 h2 =>
      obtain ⟨ks, e1, e2, e3⟩ := iss_refs h2
      unfold dpr at h1
      cases h1 with
      | tup sa ha =>
        rename_i a ws
        have ea := Iss.intsV (ys := [p.1, p.2]) ha
        subst ea
        refine ⟨(a, [p.1, p.2]) :: ks, by rw [e1]; rfl, fun q hq => ?_, by rw [List.map_cons, e3]; rfl⟩
        rcases List.mem_cons.mp hq with rfl | hq
        · exact sa
        · exact e2 q hq
theorem refs_iss {K : PySem.W.Frag} {G : Hp} : ∀ {L : List (Addr × List Int)}, (∀ z ∈ L, SqT K G z.1 (z.2.map V.int) ∧ ∃ p : Int × Int, z.2 = [p.1, p.2]) → ∃ qs : List (Int × Int), Iss K G (L.map fun z => V.ref z.1) (qs.map dpr) ∧ L.map (·.2) = qs.map fun p => [p.1, p.2]
  | [], _ => ⟨[], .nil, rfl⟩
  | z :: L, h => by
    obtain ⟨h1, p, h2⟩ := h z List.mem_cons_self
    obtain ⟨qs, i, e⟩ := refs_iss (L := L) fun y hy => h y (List.mem_cons_of_mem _ hy)
    rw [h2] at h1
    exact ⟨p :: qs, .cons (.tup h1 (Iss.ints [p.1, p.2])) i, by rw [List.map_cons, e, h2]; rfl⟩
@[simp] def wSortSetP (w : WE) : WE := fun ρ Q => w ρ fun d ρ' => ∃ ps : List (Int × Int), d = .list (ps.map dpr) ∧ ps.length < 64 ∧ (∀ p ∈ ps, (0 ≤ p.1 ∧ p.1 < 64) ∧ (0 ≤ p.2 ∧ p.2 < 64)) ∧ ∀ qs : List (Int × Int), qs.Pairwise ltP → (∀ p, p ∈ qs ↔ p ∈ ps) → Q (.list (qs.map dpr)) ρ'
theorem sf_sortSetP {R : Res} {X : Cx} {e : Expr} {w : WE} {p p2 pos pos2 : Pos} (hc : X.calm = true) (hu : X.A.units + 64 < cLine) (hg : Gl X "sorted") (hm : X.mg "sorted" = none) (hg2 : Gl X "set") (hm2 : X.mg "set" = none) (he : SE R X e w)
    (na : starEach [e] X.env = (false, eval e X.env) :: starEach [] X.env := by rfl) (nb : starEach [Expr.Call (.Name "set" p2) [e] [] pos2] X.env = (false, eval (.Call (.Name "set" p2) [e] [] pos2) X.env) :: starEach [] X.env := by rfl)
    (h1 : (backTo pos (starEach [] X.env)).any (·.1) = false := by rfl) (h2 : (backTo pos2 (starEach [] X.env)).any (·.1) = false := by rfl) : SF R X (.Call (.Name "sorted" p) [.Call (.Name "set" p2) [e] [] pos2] [] pos) (wSortSetP w) := by
  refine ⟨fun B => PE.imp (pe_callB (cr_sortedT hc) hg hm (by decide +kernel) (pa_cons (pe_callTy (cr_setOfT hc hu) hg2 hm2 (by decide +kernel) (pa_cons (he.pe B) pa_nil na) (by decide) (by decide) na h2) pa_nil nb) (by decide) (by decide) nb h1) fun σ H Q ⟨ρ, G, r, q⟩ => ⟨ρ, G, r, he.mono ρ _ _ (fun d ρ' ⟨ps, e, l, bd, q⟩ v G' H' s r' i => ?_) q⟩, fun ρ Q Q' hq => he.mono ρ _ _ fun d ρ' ⟨ps, e, l, bd, q⟩ => ⟨ps, e, l, bd, fun qs a b => hq _ _ (q qs a b)⟩⟩
  subst e
  cases i with
  | lst sa ha =>
    obtain ⟨ks, e1, e2, e3⟩ := iss_refs ha
    subst e1
    have hk : ∀ z ∈ ks, ∃ p ∈ ps, z.2 = [p.1, p.2] := fun z hz => by
      have : z.2 ∈ ks.map (·.2) := List.mem_map_of_mem hz
      rw [e3] at this
      obtain ⟨p, hp, e⟩ := List.mem_map.mp this
      exact ⟨p, hp, e.symm⟩
    have len : ks.length = ps.length := by
      have := congrArg List.length e3
      simpa using this
    refine ⟨_, ks, rfl, .of (r'.sub _ _ sa), fun z hz => Sub.seqT r'.sub (e2 z hz), by omega, fun a L na hL1 hL2 => ?_⟩
    refine ⟨a, L, 2, 64, rfl, upd_same, fun z hz => ?_, by decide, fun z hz => ?_, fun L' p pm nd few pw np => ?_⟩
    · exact Sub.seqT (r'.up na).sub (e2 z (hL1 z hz))
    · obtain ⟨p, hp, e⟩ := hk z (hL1 z hz)
      have := bd p hp
      rw [e]
      exact ⟨rfl, fun n hn => by
        simp at hn
        rcases hn with rfl | rfl
        · exact this.1
        · exact this.2⟩
    · have hz : ∀ z ∈ L', SqT X.K G' z.1 (z.2.map V.int) ∧ ∃ p : Int × Int, z.2 = [p.1, p.2] := fun z hz => by
        have hzk := hL1 z (pm.mem_iff.mp hz)
        obtain ⟨p, _, e⟩ := hk z hzk
        exact ⟨e2 z hzk, p, e⟩
      obtain ⟨qs, i, eq⟩ := refs_iss hz
      have mem : ∀ p : Int × Int, p ∈ qs ↔ p ∈ ps := fun p => by
        have inj : ∀ ps : List (Int × Int), [p.1, p.2] ∈ ps.map (fun p : Int × Int => [p.1, p.2]) ↔ p ∈ ps := fun ps => by
          rw [List.mem_map]
          refine ⟨fun ⟨q, hq, e⟩ => ?_, fun h => ⟨p, h, rfl⟩⟩
          simp only [List.cons.injEq, and_true] at e
          rw [← Prod.ext e.1 e.2]
          exact hq
        rw [← inj qs, ← inj ps, ← eq, ← e3]
        refine ⟨fun h => ?_, fun h => ?_⟩
        · obtain ⟨z, hz, e⟩ := List.mem_map.mp h
          exact List.mem_map.mpr ⟨z, hL1 z (pm.mem_iff.mp hz), e⟩
        · obtain ⟨z, hz, e⟩ := List.mem_map.mp h
          have := hL2 z hz
          rw [e] at this
          obtain ⟨y, hy, e'⟩ := List.mem_map.mp this
          exact List.mem_map.mpr ⟨y, pm.mem_iff.mpr hy, e'⟩
      have pair : qs.Pairwise ltP := by
        have p1 : (L'.map (·.2)).Pairwise (fun a b => TS.code 64 a ≤ TS.code 64 b) := List.pairwise_map.mpr pw
        rw [eq] at p1 nd
        have p2 := List.pairwise_map.mp p1
        have p3 := List.pairwise_map.mp (List.nodup_iff_pairwise_ne.mp nd)
        refine List.Pairwise.imp_of_mem ?_ (p2.and p3)
        intro a b ha hb ⟨h1, h2⟩
        have b1 := bd a ((mem a).mp ha)
        have b2 := bd b ((mem b).mp hb)
        exact pair_lt h1 h2 b1.1 b1.2 b2.1 b2.2
      exact aftF (fun v G2 H2 s2 r2 n2 => q qs pair mem v G2 H2 (s.trans s2) r2 n2) (r'.up na) np (.lst i)
theorem sf_or {R : Res} {X : Cx} {e : Expr} {w1 w2 : WE} (h1 : SF R X e w1) (h2 : SF R X e w2) : SF R X e (fun ρ Q => w1 ρ Q ∨ w2 ρ Q) := by
  refine ⟨fun B => ⟨fun pins s σ H Q I h => ?_⟩, fun ρ Q Q' hq h => h.imp (h1.mono ρ Q Q' hq) (h2.mono ρ Q Q' hq)⟩
  obtain ⟨ρ, G, r, h | h⟩ := h
  · exact (h1.pe B).run pins s σ H Q I ⟨ρ, G, r, h⟩
  · exact (h2.pe B).run pins s σ H Q I ⟨ρ, G, r, h⟩
@[simp] def wSortSetX (w : WE) : WE := fun ρ Q => wSortSet w ρ Q ∨ wSortSetP w ρ Q
end DL
namespace DL
open PySem PySem.Spec PyProof.Rows L2
/-! ## dicts with keys of any depth -/
mutual
theorem eqv_nkB : ∀ k l : NestedKey, PyData.eqv (nkD k) (nkD l) = NestedKey.beq k l
  | .none, .none => rfl
  | .none, .num _ => rfl
  | .none, .text _ => rfl
  | .none, .tup _ => rfl
  | .num i, .none => rfl
  | .num i, .num j => rfl
  | .num _, .text _ => rfl
  | .num _, .tup _ => rfl
  | .text _, .none => rfl
  | .text _, .num _ => rfl
  | .text x, .text y => by
    rw [nkD, nkD, PyData.eqv, NestedKey.beq]
    exact Bool.eq_iff_iff.mpr (by simp)
  | .text _, .tup _ => rfl
  | .tup _, .none => rfl
  | .tup _, .num _ => rfl
  | .tup _, .text _ => rfl
  | .tup ks, .tup ls => by
    rw [nkD, nkD, PyData.eqv, NestedKey.beq, eqv_nkBs ks ls]
theorem eqv_nkBs : ∀ k l : List NestedKey, PyData.eqvAll (nkDs k) (nkDs l) = NestedKey.beqAll k l
  | [], [] => rfl
  | [], _ :: _ => rfl
  | _ :: _, [] => rfl
  | k :: ks, l :: ls => by
    rw [nkDs, nkDs, PyData.eqvAll, NestedKey.beqAll, eqv_nkB k l, eqv_nkBs ks ls]
end
theorem eqv_nk (k l : NestedKey) : PyData.eqv (nkD k) (nkD l) = decide (k = l) := by
  rw [eqv_nkB, NestedKey.decide_eq]
def lookN (ps : List (PyData × PyData)) (y : PyData) : Option PyData := (ps.find? fun p => PyData.eqv p.1 y).map (·.2)
def putN (ps : List (PyData × PyData)) (y d : PyData) : List (PyData × PyData) := if (lookN ps y).isSome = true then ps.map (fun p => if PyData.eqv p.1 y = true then (p.1, d) else p) else ps ++ [(y, d)]
abbrev KEs := List (NestedKey × Addr × V)
def valE (es : KEs) (k : NestedKey) : Option V := (es.find? fun e => decide (e.1 = k)).map (·.2.2)
def putE (es : KEs) (k : NestedKey) (b : Addr) (v : V) : KEs := if (valE es k).isSome = true then es.map (fun e => if e.1 = k then (e.1, e.2.1, v) else e) else es ++ [(k, b, v)]
abbrev KR : KEs → List (NestedKey × Addr × Value) → Prop := Paired fun (e : NestedKey × Addr × V) (x : NestedKey × Addr × Value) => e.1 = x.1 ∧ e.2.1 = x.2.1 ∧ RelV e.2.2 x.2.2
section
variable {K : PySem.W.Frag} {G : Hp}
theorem Isn.len {es : KEs} {ps : List (PyData × PyData)} (h : Isn K G es ps) : es.length = ps.length := by
  induction ps generalizing es with
  | nil => cases h; rfl
  | cons p ps ih =>
    cases h with
    | cons _ _ _ t => simp [ih t]
theorem Isn.find {k : NestedKey} {es : KEs} {ps : List (PyData × PyData)} (h : Isn K G es ps) : (valE es k = none ∧ lookN ps (nkD k) = none) ∨ ∃ v d, valE es k = some v ∧ lookN ps (nkD k) = some d ∧ Is K G v d := by
  induction ps generalizing es with
  | nil => cases h; exact .inl ⟨rfl, rfl⟩
  | cons p ps ih =>
    cases h with
    | @cons l b v es d _ hp hk hv t =>
      by_cases q : l = k
      · refine .inr ⟨v, d, ?_, ?_, hv⟩
        · simp [valE, List.find?_cons, q]
        · simp [lookN, List.find?_cons, eqv_nk, q]
      · have := ih t
        simp only [valE, lookN, List.find?_cons, eqv_nk, q, decide_false] at this ⊢
        exact this
theorem Isn.keys {es : KEs} {ps : List (PyData × PyData)} (h : Isn K G es ps) : ∀ e ∈ es, okNK e.1 = true ∧ Is K G (.ref e.2.1) (nkD e.1) := by
  induction ps generalizing es with
  | nil => cases h; exact fun e he => absurd he (by simp)
  | cons p ps ih =>
    cases h with
    | @cons l b v es d _ hp hk hv t =>
      intro e he
      rcases List.mem_cons.mp he with rfl | he
      · exact ⟨hp, hk⟩
      · exact ih t e he
theorem Isn.app {es fs : KEs} {ps qs : List (PyData × PyData)} (h : Isn K G es ps) (q : Isn K G fs qs) : Isn K G (es ++ fs) (ps ++ qs) := by
  induction ps generalizing es with
  | nil => cases h; exact q
  | cons p ps ih =>
    cases h with
    | cons hp hk hv t => exact .cons hp hk hv (ih t)
theorem Isn.subst {k : NestedKey} {v : V} {d : PyData} (hv : Is K G v d) {es : KEs} {ps : List (PyData × PyData)} (h : Isn K G es ps) : Isn K G (es.map fun e => if e.1 = k then (e.1, e.2.1, v) else e) (ps.map fun p => if PyData.eqv p.1 (nkD k) = true then (p.1, d) else p) := by
  induction ps generalizing es with
  | nil => cases h; exact .nil
  | cons p ps ih =>
    cases h with
    | @cons l b w es d' _ hp hk hw t =>
      rw [List.map_cons, List.map_cons]
      simp only [eqv_nk]
      by_cases q : l = k
      · subst q
        simp only [if_true, decide_true]
        exact .cons hp hk hv (ih t)
      · simp only [q, if_false, decide_false, Bool.false_eq_true]
        exact .cons hp hk hw (ih t)
theorem Isn.put {k : NestedKey} {b : Addr} {v : V} {d : PyData} {es : KEs} {ps : List (PyData × PyData)} (h : Isn K G es ps) (hp : okNK k = true) (hk : Is K G (.ref b) (nkD k)) (hv : Is K G v d) : Isn K G (putE es k b v) (putN ps (nkD k) d) := by
  unfold putE putN
  rcases h.find (k := k) with ⟨e1, e2⟩ | ⟨v', d', e1, e2, _⟩
  · rw [e1, e2]
    exact h.app (.cons hp hk hv .nil)
  · rw [e1, e2]
    exact h.subst hv
theorem KR.val {es : KEs} {xs : List (NestedKey × Addr × Value)} (r : KR es xs) (k : NestedKey) : RelO (valE es k) ((atKey xs k).map (·.2)) := by
  induction r with
  | nil => exact True.intro
  | @cons e x es xs h t ih =>
    obtain ⟨e1, e2, e3⟩ := h
    unfold valE atKey at ih ⊢
    rw [List.find?_cons, List.find?_cons]
    by_cases q : e.1 = k
    · have q' : x.1 = k := by rw [← e1]; exact q
      simp only [q, q', decide_true]
      exact e3
    · have q' : ¬ x.1 = k := by rw [← e1]; exact q
      simp only [q, q', decide_false]
      exact ih
theorem KR.put {es : KEs} {xs : List (NestedKey × Addr × Value)} (r : KR es xs) (k : NestedKey) (b : Addr) {v : V} {u : Value} (rv : RelV v u) : KR (putE es k b v) (storedH xs k b u) := by
  have hv := r.val k
  have e := hv.isSome_eq
  rw [Option.isSome_map] at e
  unfold putE storedH
  rw [e]
  cases q : (atKey xs k).isSome with
  | true =>
    simp only [if_true]
    clear e hv q
    induction r with
    | nil => exact .nil
    | @cons e x es xs h t ih =>
      obtain ⟨e1, e2, e3⟩ := h
      rw [List.map_cons, List.map_cons]
      refine .cons ?_ ih
      unfold putAt
      by_cases q : e.1 = k
      · have q' : x.1 = k := by rw [← e1]; exact q
        rw [if_pos q, if_pos q']
        exact ⟨e1, e2, rv⟩
      · have q' : ¬ x.1 = k := by rw [← e1]; exact q
        rw [if_neg q, if_neg q']
        exact ⟨e1, e2, e3⟩
  | false =>
    simp only [Bool.false_eq_true, if_false]
    exact paired_app r (.cons ⟨rfl, rfl, rv⟩ .nil)
end
section
variable {X : Cx} {pins : List (Addr × Obj)} {σ : L2.St} {H : Hp} {s : Shared}
mutual
theorem Is.nested (I : Inv X pins σ H s) : ∀ (k : NestedKey) {v : V} {u : Value}, plainK k = true → Is X.K H v (nkD k) → RelV v u → NestedIs s.heap k u
  | .none, _, _, _, h, r => by
    rw [nkD] at h
    cases h
    cases r
    exact .none
  | .num i, _, _, _, h, r => by
    rw [nkD] at h
    cases h
    obtain ⟨t, rfl⟩ := r
    exact .int i t
  | .text x, _, _, c, h, r => by
    rw [plainK] at c
    cases c
  | .tup ks, _, _, c, h, r => by
    rw [nkD] at h
    rw [plainK] at c
    cases h with
    | tup sa ha =>
      cases r
      obtain ⟨its, rv, ⟨o, ho, hc, n, hd⟩, _⟩ := I.tuple sa
      exact .tup ho hc hd (by simpa using Iss.nested I ks c ha rv)
theorem Iss.nested (I : Inv X pins σ H s) : ∀ (ks : List NestedKey) {vs : List V} {us : List Value}, plainKs ks = true → Iss X.K H vs (nkDs ks) → Vals vs us → NestedAll s.heap ks us
  | [], _, _, _, h, r => by
    rw [nkDs] at h
    cases h
    cases r
    exact .nil
  | k :: ks, _, _, c, h, r => by
    rw [nkDs] at h
    rw [plainKs, Bool.and_eq_true] at c
    cases h with
    | cons h1 h2 =>
      cases r with
      | cons r1 r2 => exact .cons (Is.nested I k c.1 h1 r1) (Iss.nested I ks c.2 h2 r2)
end
theorem okNK_iff {k : NestedKey} (h : okNK k = true) : plainK k = true ∧ k.depth ≤ 8 := by
  unfold okNK at h
  rw [Bool.and_eq_true] at h
  exact ⟨h.1, of_decide_eq_true h.2⟩
theorem nk_is (I : Inv X pins σ H s) {k : NestedKey} {b : Addr} (p : okNK k = true) (h : Is X.K H (.ref b) (nkD k)) : (nestedKind X.prog X.w).is s.heap k b :=
  ⟨Is.nested I k (okNK_iff p).1 h rfl, (okNK_iff p).2⟩
theorem kd_of (I : Inv X pins σ H s) {a : Addr} {es : KEs} {ps : List (PyData × PyData)} {ob : Obj} (e : H a = some (KD a es ob)) (h : Isn X.K H es ps) : es.length ≤ sizeLine ∧ (a == sysModules) = false ∧ ∃ xs, KR es xs ∧ s.heap.DictOfH (nestedKind X.prog X.w) a xs := by
  obtain ⟨⟨z, y, xs, r, ds, ep, h1, h2, h3, h4, h5⟩, h6⟩ := (show ObjOk X.prog X.w H s.heap a (KD a es ob) from I.hok a _ e)
  clear h6
  have hk := h.keys
  have all : ∀ x ∈ xs, okNK x.1 = true ∧ Is X.K H (.ref x.2.1) (nkD x.1) := by
    clear h3 h4 h5 e z h
    induction r with
    | nil => exact fun x hx => absurd hx (by simp)
    | @cons e x es xs h t ih =>
      intro y hy
      rcases List.mem_cons.mp hy with rfl | hy
      · rw [← h.1, ← h.2.1]
        exact hk e List.mem_cons_self
      · exact ih (fun e he => hk e (List.mem_cons_of_mem _ he)) y hy
  refine ⟨z, y, xs, r, ob, ds, ep, h1, h2, h3, ?_, fun x hx => nk_is I (all x hx).1 (all x hx).2, h5⟩
  rw [h4]
  refine List.map_congr_left fun x hx => ?_
  unfold entryOfKey
  rw [show (nestedKind X.prog X.w).hash x.1 = hash0 x.1 from hash_plain X.w x.1 (okNK_iff (all x hx).1).1]
theorem kd_ok {P : Program} {w : World} {H : Hp} {h : Heap} {a : Addr} {es : KEs} {xs : List (NestedKey × Addr × Value)} (z : es.length ≤ sizeLine) (hd : (a == sysModules) = false) (r : KR es xs) (pl : ∀ e ∈ es, plainK e.1 = true) (dd : h.DictOfH (nestedKind P w) a xs) : ∃ ob, h.get? a = some ob ∧ ObjOk P w H h a (KD a es ob) := by
  obtain ⟨o, ds, ep, h1, h2, h3, h4, h6, h5⟩ := dd
  clear h6
  have all : ∀ x ∈ xs, plainK x.1 = true := by
    clear h4 h5 z
    induction r with
    | nil => exact fun x hx => absurd hx (by simp)
    | @cons e x es xs h t ih =>
      intro y hy
      rcases List.mem_cons.mp hy with rfl | hy
      · rw [← h.1]
        exact pl e List.mem_cons_self
      · exact ih (fun e he => pl e (List.mem_cons_of_mem _ he)) y hy
  refine ⟨o, h1, ⟨z, hd, xs, r, ds, ep, h1, h2, h3, ?_, h5⟩, ⟨o, h1⟩, fun g1 g2 ⟨z, y, xs, r, ds, ep, h1, h2, h3, h4, h5⟩ k => ⟨z, y, xs, r, ds, ep, k o h1, h2, h3, h4, h5⟩⟩
  rw [h4]
  refine List.map_congr_left fun x hx => ?_
  unfold entryOfKey
  rw [show (nestedKind P w).hash x.1 = hash0 x.1 from hash_plain w x.1 (all x hx)]
theorem valE_plain {es : KEs} {k : NestedKey} {b : Addr} {v : V} (h : ∀ e ∈ es, plainK e.1 = true) (hk : plainK k = true) : ∀ e ∈ putE es k b v, plainK e.1 = true := by
  unfold putE
  intro e he
  split at he
  · obtain ⟨e', he', rfl⟩ := List.mem_map.mp he
    split
    · exact h e' he'
    · exact h e' he'
  · rcases List.mem_append.mp he with he | he
    · exact h e he
    · rw [List.mem_singleton.mp he]
      exact hk
theorem putE_len (es : KEs) (k : NestedKey) (b : Addr) (v : V) : (putE es k b v).length ≤ es.length + 1 := by
  unfold putE
  split <;> simp
theorem nkRoom {A : Around} (hu : A.units + 64 < cLine) : (nestedKind X.prog X.w).room A.in1 := by
  show A.units + 1 + 8 < cLine
  omega
variable {A : Around} {E : Value → Shared → Prop} {a b : Addr} {es : KEs} {ps : List (PyData × PyData)} {k : NestedKey} {v : V} {r : Value}
theorem dn_get {Q : Value → Shared → Prop} {ob : Obj} (hu : A.units + 64 < cLine) (I : Inv X pins σ H s) (e : H a = some (KD a es ob)) (h : Isn X.K H es ps) (p : okNK k = true) (hk : Is X.K H (.ref b) (nkD k)) (l : valE es k = some v) (fin : ∀ w' s', Inv X pins σ H s' → RelV v w' → Q w' s') :
    wpAny (model X.prog X.w) A (getItem (.ref a) (.ref b)) Q E s := by
  obtain ⟨z, hd, xs, rel, dd⟩ := kd_of I e h
  obtain ⟨w', hw, rw'⟩ := RelO.some_of (v := v) (o := (atKey xs k).map (·.2)) (by rw [← l]; exact rel.val k)
  obtain ⟨q, hq, hq2⟩ := Option.map_eq_some_iff.mp hw
  refine wpAny_getItem_heap (nkRoom hu) (nk_is I p hk) dd hq ?_
  rw [hq2]
  exact fin w' _ (I.tok _) rw'
theorem dn_in {Q : Value → Shared → Prop} {ob : Obj} (hu : A.units + 64 < cLine) (I : Inv X pins σ H s) (e : H a = some (KD a es ob)) (h : Isn X.K H es ps) (p : okNK k = true) (hk : Is X.K H (.ref b) (nkD k)) (fin : ∀ s', Inv X pins σ H s' → Q (.bool (valE es k).isSome) s') :
    wpAny (model X.prog X.w) A (compareOp .In (.ref b) (.ref a)) Q E s := by
  obtain ⟨z, hd, xs, rel, dd⟩ := kd_of I e h
  refine wpAny_in_heap (nkRoom hu) (nk_is I p hk) hd dd ?_
  have q := (rel.val k).isSome_eq
  rw [Option.isSome_map] at q
  rw [← q]
  exact fin _ (I.tok _)
theorem dn_notIn {Q : Value → Shared → Prop} {ob : Obj} (hu : A.units + 64 < cLine) (I : Inv X pins σ H s) (e : H a = some (KD a es ob)) (h : Isn X.K H es ps) (p : okNK k = true) (hk : Is X.K H (.ref b) (nkD k)) (fin : ∀ s', Inv X pins σ H s' → Q (.bool (!(valE es k).isSome)) s') :
    wpAny (model X.prog X.w) A (compareOp .NotIn (.ref b) (.ref a)) Q E s := by
  obtain ⟨z, hd, xs, rel, dd⟩ := kd_of I e h
  refine wpAny_notIn_heap (nkRoom hu) (nk_is I p hk) hd dd ?_
  have q := (rel.val k).isSome_eq
  rw [Option.isSome_map] at q
  rw [← q]
  exact fin _ (I.tok _)
theorem dn_set {Q : Unit → Shared → Prop} {ob : Obj} (hu : A.units + 64 < cLine) (I : Inv X pins σ H s) (e : H a = some (KD a es ob)) (h : Isn X.K H es ps) (p : okNK k = true) (hk : Is X.K H (.ref b) (nkD k)) (l : es.length < sizeLine) (rv : RelV v r)
    (fin : ∀ s' ob', Inv X pins σ (upd H a (KD a (putE es k b v) ob')) s' → Q () s') : wpAny (model X.prog X.w) A (setItem (.ref a) (.ref b) r) Q E s := by
  obtain ⟨z, hd, xs, rel, dd⟩ := kd_of I e h
  refine wpAny_setItem_heap (hsz := by rw [← Paired.length rel]; exact z) (nkRoom hu) (nk_is I p hk) dd fun h' dd' hs => ?_
  obtain ⟨q, hq, ok⟩ := kd_ok (H := upd H a (KD a (putE es k b v) ob0)) (by have := putE_len es k b v; omega) hd (rel.put k b rv) (valE_plain (fun e he => (okNK_iff (h.keys e he).1).1) (okNK_iff p).1) dd'
  exact fin _ q (d_write I (by rw [e]; exact True.intro) hs ⟨q, hq⟩ ok)
end
/-! ### keys among the data -/
mutual
def nkB : PyData → Bool
  | .none => true
  | .int _ => true
  | .tuple ds => nkBs ds
  | .bool _ => false
  | .str _ => false
  | .list _ => false
  | .dict _ => false
def nkBs : List PyData → Bool
  | [] => true
  | d :: ds => nkB d && nkBs ds
end
mutual
theorem nkB_of : ∀ y : PyData, nkB y = true → ∃ k, y = nkD k ∧ plainK k = true ∧ k.depth = y.depth
  | .none, _ => ⟨.none, rfl, rfl, rfl⟩
  | .int i, _ => ⟨.num i, rfl, rfl, rfl⟩
  | .tuple ds, h => by
    rw [nkB] at h
    obtain ⟨ks, e, p, dp⟩ := nkBs_of ds h
    exact ⟨.tup ks, by rw [nkD, e], by rw [plainK]; exact p, by rw [NestedKey.depth, PyData.depth, dp]⟩
  | .bool _, h => by
    rw [nkB] at h
    cases h
  | .str _, h => by
    rw [nkB] at h
    cases h
  | .list _, h => by
    rw [nkB] at h
    cases h
  | .dict _, h => by
    rw [nkB] at h
    cases h
theorem nkBs_of : ∀ y : List PyData, nkBs y = true → ∃ ks, y = nkDs ks ∧ plainKs ks = true ∧ NestedKey.depthAll ks = PyData.depthAll y
  | [], _ => ⟨[], rfl, rfl, rfl⟩
  | d :: ds, h => by
    rw [nkBs, Bool.and_eq_true] at h
    obtain ⟨k, e1, p1, d1⟩ := nkB_of d h.1
    obtain ⟨ks, e2, p2, d2⟩ := nkBs_of ds h.2
    exact ⟨k :: ks, by rw [nkDs, ← e1, ← e2], by rw [plainKs, p1, p2]; rfl, by rw [NestedKey.depthAll, PyData.depthAll, d1, d2]⟩
end
def isTupD : PyData → Bool
  | .tuple _ => true
  | _ => false
def isNK (y : PyData) : Bool := isTupD y && nkB y && decide (y.depth ≤ 8)
theorem isNK_of {y : PyData} (h : isNK y = true) : ∃ ks, y = nkD (.tup ks) ∧ okNK (.tup ks) = true := by
  unfold isNK at h
  rw [Bool.and_eq_true, Bool.and_eq_true] at h
  obtain ⟨⟨h1, h2⟩, h3⟩ := h
  obtain ⟨k, e, p, dp⟩ := nkB_of y h2
  have h3 := of_decide_eq_true h3
  cases k with
  | tup ks => exact ⟨ks, e, by unfold okNK; rw [p, dp, decide_eq_true h3]; rfl⟩
  | none => rw [e] at h1; cases h1
  | num i => rw [e] at h1; cases h1
  | text x => rw [e] at h1; cases h1
theorem nkBs_map {α : Type} {f : α → PyData} (h : ∀ x, nkB (f x) = true) : ∀ xs : List α, nkBs (xs.map f) = true
  | [] => rfl
  | x :: xs => by rw [List.map_cons, nkBs, h, nkBs_map h xs]; rfl
theorem kdd_inj {ps qs : List (PyData × PyData)} : kdd ps = kdd qs ↔ ps = qs := by
  unfold kdd
  constructor
  · intro h
    cases h
    rfl
  · rintro rfl
    rfl
section
variable {K : PySem.W.Frag} {G H : Hp} {v : V} {ps : List (PyData × PyData)}
theorem Isd.noN {kvs : List (Key × V)} {p : PyData × PyData} (h : Isd K G kvs (p :: ps)) : p.1 ≠ .none := by
  cases h with
  | @cons k _ _ _ _ _ _ => cases k <;> exact nofun
theorem IsH.kd (h : IsH K G H v (kdd ps)) : ∃ a es ob, v = .ref a ∧ H a = some (KD a es ob) ∧ Isn K G es ps := by
  unfold kdd at h
  cases h with
  | dct sa ha => exact absurd rfl ha.noN
  | kdt sa ha => exact ⟨_, _, _, rfl, sa, ha⟩
theorem IsH.nk {ks : List NestedKey} (h : IsH K G H v (nkD (.tup ks))) : ∃ b, v = .ref b ∧ Is K G (.ref b) (nkD (.tup ks)) := by
  rw [nkD] at h ⊢
  cases h with
  | tup sa ha => exact ⟨_, rfl, .tup sa ha⟩
end
/-! ### d[k] -/
@[simp] def ngetD : D2 := fun x y q => ∃ ps, x = kdd ps ∧ isNK y = true ∧ ∃ d, lookN ps y = some d ∧ q d
@[simp] def ninD (neg : Bool) : D2 := fun x y q => ∃ ps, y = kdd ps ∧ isNK x = true ∧ q (.bool ((lookN ps x).isSome != neg))
def KHas (K : PySem.W.Frag) (H : Hp) (x y : V) (a b : Addr) (es : KEs) (k : NestedKey) : Prop := x = .ref a ∧ y = .ref b ∧ (∃ ob, H a = some (KD a es ob)) ∧ (∃ ps, Isn K H es ps) ∧ okNK k = true ∧ Is K H (.ref b) (nkD k)
def rNGet (K : PySem.W.Frag) : R2 := fun x y H Q => ∃ a b es k v, KHas K H x y a b es k ∧ valE es k = some v ∧ Q v H
def rNIn (K : PySem.W.Frag) : R2 := fun x y H Q => ∃ a b es k, KHas K H y x a b es k ∧ Q (.bl (valE es k).isSome) H
def rNNot (K : PySem.W.Frag) : R2 := fun x y H Q => ∃ a b es k, KHas K H y x a b es k ∧ Q (.bl (!(valE es k).isSome)) H
theorem khas {R : Res} {K : PySem.W.Frag} {B : Bs} {G : Hp} {ρ : Sls} {σ : L2.St} {H : Hp} {v u : V} {ps : List (PyData × PyData)} {y : PyData} (r : Rel R K B G ρ σ H) (hx : IsH K G H v (kdd ps)) (hy : IsH K G H u y) (hk : isNK y = true) :
    ∃ a b es k, y = nkD k ∧ KHas K H v u a b es k ∧ Isn K G es ps ∧ v = .ref a ∧ u = .ref b := by
  obtain ⟨a, es, ob, rfl, ha, hs⟩ := hx.kd
  obtain ⟨ks, rfl, p⟩ := isNK_of hk
  obtain ⟨b, rfl, hb⟩ := hy.nk
  exact ⟨a, b, es, .tup ks, rfl, ⟨rfl, rfl, ⟨ob, ha⟩, ⟨ps, hs.mono r.sub⟩, p, hb.mono r.sub⟩, hs, rfl, rfl⟩
theorem lk_nget {R : Res} {K : PySem.W.Frag} : Lk2 R K (rNGet K) ngetD := by
  refine ⟨fun B G ρ σ H v u x y Q r hx hy ⟨ps, e, hk, d, hl, q⟩ => ?_, fun x y q q' hq ⟨ps, e, hk, d, hl, q⟩ => ⟨ps, e, hk, d, hl, hq _ q⟩⟩
  subst e
  obtain ⟨a, b, es, k, rfl, hh, hs, rfl, rfl⟩ := khas r hx hy hk
  rcases hs.find (k := k) with ⟨_, e2⟩ | ⟨v, d', e1, e2, iv⟩
  · rw [hl] at e2
    cases e2
  · rw [hl] at e2
    cases e2
    exact ⟨a, b, es, k, v, hh, e1, aft q r iv⟩
theorem isn_some {K : PySem.W.Frag} {G : Hp} {es : KEs} {ps : List (PyData × PyData)} (h : Isn K G es ps) (k : NestedKey) : (valE es k).isSome = (lookN ps (nkD k)).isSome := by
  rcases h.find (k := k) with ⟨e1, e2⟩ | ⟨v, d', e1, e2, iv⟩ <;> rw [e1, e2] <;> rfl
theorem lk_nin {R : Res} {K : PySem.W.Frag} : Lk2 R K (rNIn K) (ninD false) := by
  refine ⟨fun B G ρ σ H v u x y Q r hx hy ⟨ps, e, hk, q⟩ => ?_, fun x y q q' hq ⟨ps, e, hk, q⟩ => ⟨ps, e, hk, hq _ q⟩⟩
  subst e
  obtain ⟨a, b, es, k, rfl, hh, hs, rfl, rfl⟩ := khas r hy hx hk
  refine ⟨a, b, es, k, hh, ?_⟩
  rw [isn_some hs]
  have q := aft q r (.bl _)
  simpa using q
theorem lk_nnot {R : Res} {K : PySem.W.Frag} : Lk2 R K (rNNot K) (ninD true) := by
  refine ⟨fun B G ρ σ H v u x y Q r hx hy ⟨ps, e, hk, q⟩ => ?_, fun x y q q' hq ⟨ps, e, hk, q⟩ => ⟨ps, e, hk, hq _ q⟩⟩
  subst e
  obtain ⟨a, b, es, k, rfl, hh, hs, rfl, rfl⟩ := khas r hy hx hk
  refine ⟨a, b, es, k, hh, ?_⟩
  rw [isn_some hs]
  have q := aft q r (.bl _)
  simpa using q
theorem op_nin {X : Cx} (hu : X.A.units + 64 < cLine) : OpR X (compareOp .In) (rNIn X.K) := by
  intro pins s σ H x y v u Q I rx ry ⟨a, b, es, k, ⟨ey, ex, ⟨ob, e⟩, ⟨ps, h⟩, p, hb⟩, q⟩
  subst ex ey
  cases rx
  cases ry
  exact dn_in hu I e h p hb fun s' I' => ⟨.bl _, H, I', rfl, q⟩
theorem op_nnot {X : Cx} (hu : X.A.units + 64 < cLine) : OpR X (compareOp .NotIn) (rNNot X.K) := by
  intro pins s σ H x y v u Q I rx ry ⟨a, b, es, k, ⟨ey, ex, ⟨ob, e⟩, ⟨ps, h⟩, p, hb⟩, q⟩
  subst ex ey
  cases rx
  cases ry
  exact dn_notIn hu I e h p hb fun s' I' => ⟨.bl _, H, I', rfl, q⟩
theorem kd_type {X : Cx} {pins : List (Addr × Obj)} {σ : L2.St} {H : Hp} {s : Shared} {a : Addr} {es : KEs} {o : Obj} (I : Inv X pins σ H s) (e : H a = some (KD a es o)) : s.TypeIs (.ref a) "dict" := by
  obtain ⟨⟨_, _, _, _, _, _, h1, h2, _⟩, _⟩ := (show ObjOk X.prog X.w H s.heap a (KD a es o) from I.hok a _ e)
  exact ⟨o, h1, h2.1⟩
theorem pe_nget {X : Cx} {o i : Expr} {pos : Pos} {td ty : TE} (hu : X.A.units + 64 < cLine) (ho : PE X o td) (hi : PE X i ty) (hs : NoSl i) : PE X (.Subscript o i pos) (fun σ H Q => td σ H fun x H1 => ty σ H1 fun y H2 => rNGet X.K x y H2 Q) := by
  refine ⟨fun pins s σ H Q I h => ?_⟩
  refine subD_of PySem.F.slot_dict_getitem.lookup hs (thn (ho.run pins s σ H _ I h) fun u s1 ⟨x, H1, I1, rx, q1⟩ => thn (hi.run pins s1 σ H1 _ I1 q1) fun iv s2 ⟨y, H2, I2, ry, a, b, es, k, v, ⟨ex, ey, ⟨ob, e⟩, ⟨ps, hn⟩, p, hb⟩, hl, q2⟩ => ?_)
  subst ex ey
  cases rx
  cases ry
  exact ⟨kd_type I2 e, dn_get hu I2 e hn p hb hl fun w' s3 I3 rw' => ⟨v, H2, I3, rw', q2⟩⟩
theorem se_nget {R : Res} {X : Cx} {e1 e2 : Expr} {a b : Od} {pos : Pos} (hu : X.A.units + 64 < cLine) (ha : SO R X e1 a) (hb : SO R X e2 b) (hs : NoSl e2) : SE R X (.Subscript e1 e2 pos) (wOp2 ngetD a b) := by
  refine ⟨fun B => PE.imp (pe_nget hu (ha.pe B) (hb.pe B) hs) fun σ H Q ⟨ρ, G, rl, h⟩ => ?_, mono_op2 ((lk_nget (R := R) (K := X.K)).mono) ha.mono hb.mono⟩
  refine od_step ha.mono rl h fun ga ρ1 v G1 H1 s1 r1 i1 h1 => ?_
  refine od_step hb.mono r1 h1 fun gb ρ2 u G2 H2 s2 r2 i2 h2 => ?_
  obtain ⟨x, y, e1, e2, q⟩ := h2
  exact (lk_nget (R := R) (K := X.K)).to B G2 ρ2 σ H2 v u x y _ r2 ((i1.mono s2).at r2 e1) (i2.at r2 e2) (lk_nget.mono (R := R) (K := X.K) _ _ _ _ (fun z q v' G3 H3 s3 r3 n => q v' G3 H3 ((s1.trans s2).trans s3) r3 n) q)
/-! ### d[k] = v, of one's own dict -/
section
variable {R : Res} {K : PySem.W.Frag} {B : Bs} {G : Hp} {ρ : Sls} {σ : L2.St} {H : Hp}
theorem Rel.ownN (r : Rel R K B G ρ σ H) {i : Nat} {ps : List (PyData × PyData)} (h : ρ[i]? = some (.own (kdd ps))) : ∃ a es ob, σ[i]? = some (some (.ref a)) ∧ H a = some (KD a es ob) ∧ Isn K G es ps := by
  obtain ⟨a, ho, e1, _, _, e4, e5, _⟩ := r.o i _ h
  unfold kdd at e5
  cases e5 with
  | dct hv => exact absurd rfl hv.noN
  | kdt hv => exact ⟨a, _, _, e1, e4, hv⟩
end
def rSetN (K : PySem.W.Frag) : TSet := fun o i v H Q => ∃ a b es k, KHas K H o i a b es k ∧ es.length < sizeLine ∧ ∀ ob', Q (upd H a (KD a (putE es k b v) ob'))
theorem set_nd {X : Cx} (hu : X.A.units + 64 < cLine) : PSet X (rSetN X.K) := by
  intro pins s σ H o i v ov iv u Q I ro ri rv h
  obtain ⟨a, b, es, k, ⟨ex, ey, ⟨ob, e⟩, ⟨ps, hn⟩, p, hb⟩, hl, q⟩ := h
  subst ex ey
  cases ro
  cases ri
  exact dn_set hu I e hn p hb hl rv fun s' ob' I' => ⟨_, I', q ob'⟩
@[simp] def wgNsub (i : Nat) (w : WE) : WG := fun d ρ Q => (∃ ps, ρ[i]? = some (.own (kdd ps))) ∧ w ρ fun k ρ1 => ∃ ps, isNK k = true ∧ ρ1[i]? = some (.own (kdd ps)) ∧ ps.length < sizeLine ∧ Q (ρ1.set i (.own (kdd (putN ps k d))))
section
variable {R : Res} {X : Cx} {i : Nat} {x : Str} {p pos : Pos} {e : Expr} {w : WE}
theorem sg_nsub (hu : X.A.units + 64 < cLine) (h : PE X (.Name x p) (tVar i)) (he : SE R X e w) (ha : ∀ v, assign (.Subscript (.Name x p) e pos) X.env v = (do
      let ov ← holding [v] (eval (.Name x p) X.env)
      let iv ← holding [v, ov] (eval e X.env)
      standAt pos
      holding [v, ov, iv] (setItem ov iv v)
      release [v, ov, iv] []) := by intro _; rfl) : SG R X (.Subscript (.Name x p) e pos) (gSub (tVar i) (fun σ H Q => ∃ B, liftE R X.K B w σ H Q) (rSetN X.K)) (wgNsub i w) [] := by
  refine ⟨pg_sub h ⟨fun pins s σ H Q I ⟨B, q⟩ => (he.pe B).run pins s σ H Q I q⟩ (set_nd hu) ha, fun B ρ G σ H v d q r iv ⟨⟨ds0, e0⟩, k⟩ => ?_, fun d ρ Q Q' hq ⟨z, k⟩ => ⟨z, he.mono ρ _ _ (fun k ρ1 ⟨ps, a, b, c, q⟩ => ⟨ps, a, b, c, hq _ q⟩) k⟩⟩
  obtain ⟨a, vs0, ob0', ea, eH, _⟩ := r.ownN e0
  refine ⟨_, ea, B, ρ, G, r, he.mono ρ _ _ (fun k ρ1 ⟨ps, hk, e1, hl, k⟩ u G' H' s r' iu => ?_) k⟩
  obtain ⟨a', es, ob1, ea', eH', iv'⟩ := r'.ownN e1
  rw [ea] at ea'
  cases ea'
  obtain ⟨ks, rfl, p⟩ := isNK_of hk
  obtain ⟨b, rfl, hb⟩ := (iu.h r'.sub).nk
  exact ⟨a, b, es, .tup ks, ⟨rfl, rfl, ⟨ob1, eH'⟩, ⟨ps, iv'.mono r'.sub⟩, p, hb.mono r'.sub⟩, by rw [iv'.len]; exact hl, fun ob' => k σ G' _ (Off.refl [] σ) s (r'.put e1 ea (.kdt (iv'.put p hb (iv.mono s))))⟩
end
/-! ### {} -/
theorem kd_empty {P : Program} {w : World} {H : Hp} (h : Heap) (hb : sysModules < h.objs.size) : ObjOk P w H (h.push { cls := .type "dict", data := .dict #[] }) h.objs.size (KD h.objs.size [] ob0) := by
  obtain ⟨ob, e, ok⟩ := kd_ok (P := P) (w := w) (H := H) (es := []) (Nat.zero_le _) (beq_eq_false_iff_ne.mpr (Ne.symm (Nat.ne_of_lt hb))) .nil (fun e he => absurd he (by simp)) (Heap.DictOfH.new h)
  have e2 : (h.push { cls := .type "dict", data := .dict #[] }).get? h.objs.size = some ob0 := Heap.get?_push_size _ rfl
  rw [e2] at e
  cases e
  exact ok
theorem pe_ndnew {X : Cx} {pos : Pos} : PE X (.Dict [] [] pos) (fun _ H Q => ∀ p, H p = none → Q (.ref p) (upd H p (KD p [] ob0))) := ⟨fun pins s σ H Q I h =>
  wpAny_Dict_empty ⟨.ref s.heap.objs.size, _, I.laid (a := s.heap.objs.size) (o := KD s.heap.objs.size [] ob0) (t' := s.toks) (fun _ _ q => Heap.get?_push_of_some _ q) (Nat.le_refl _) (kd_empty s.heap I.big), rfl, h _ (I.hok.fresh (Nat.le_refl _))⟩⟩
theorem sf_nd0 {R : Res} {X : Cx} {pos : Pos} : SF R X (.Dict [] [] pos) (wC (kdd [])) :=
  ⟨fun B => PE.imp pe_ndnew fun σ H Q ⟨ρ, G, r, q⟩ p np => q _ G _ (Same.refl G) (r.up np) (IsNew.of r np (.kdt .nil)), fun ρ Q Q' hq q => hq _ _ q⟩
end DL
namespace DL
open PySem PySem.Spec PyProof.Rows L2
/-! ## {k: v}, one pair -/
theorem dict_pairsH {prog : Program} {w : World} {K : Type} [DecidableEq K] {knd : HeapKind prog w K} {A : Around} {E : Value → Shared → Prop} {s : Shared} {env : PySem.Env} {keys : List (Option Expr)} {values : List Expr} {pos : Pos} {pairs : List (Sem Value × Sem Value)} {Q : Value → Shared → Prop} (hu : knd.room A)
    (hshape : (evalEachOpt keys env).zip ((evalEach values env).map fun v => do let x ← v; standAt pos; pure x) = pairs.map fun p => (some p.1, p.2)) (h0 : pairs ≠ []) (hlen : pairs.length ≤ 15)
    (h : wpAny (model prog w) A (evalPairs pairs) (fun vs s₁ => ∃ ps, CarriesH knd s₁.heap vs ps ∧ s₁.heap.DictOfH knd s.heap.objs.size [] ∧
      ∀ h' tk, h'.DictOfH knd s.heap.objs.size (storedAllH [] ps) → Heap.SameBut s.heap.objs.size s₁.heap h' → Q (.ref s.heap.objs.size) { s₁ with heap := h', toks := tk }) E
      { s with heap := s.heap.push { cls := .type "dict", data := .dict #[] } }) :
    wpAny (model prog w) A (eval (.Dict keys values pos) env) Q E s := by
  rw [arm_eval_Dict, hshape, dictDisplay_pairs pairs h0 (by omega)]
  exact wpAny_bind (wpAny_standAt (wpAny_bind (wpAny_subDictH (knd := knd) (Q := fun d s' => wpAny (model prog w) A (pure (Value.ref d)) Q E s') hu hlen
    (wpAny_mono h (fun vs s₁ h₁ => by obtain ⟨ps, hc, hm, hq⟩ := h₁; exact ⟨ps, hc, hm, fun h' tk a b => wpAny_pure (hq h' tk a b)⟩) fun _ _ e => e))))
section
variable {X : Cx} {pos : Pos}
theorem pe_ndisp {k v : Expr} {tk tv : TE} (hu : X.A.units + 64 < cLine) (hk : PE X k tk) (hv : PE X v tv) : PE X (.Dict [some k] [v] pos) (fun σ H Q => ∀ p, H p = none → tk σ (upd H p (KD p [] ob0)) fun y H1 => tv σ H1 fun w H2 =>
    H2 p = some (KD p [] ob0) ∧ ∃ b kk, y = .ref b ∧ okNK kk = true ∧ Is X.K H2 (.ref b) (nkD kk) ∧ ∀ ob', Q (.ref p) (upd H2 p (KD p [(kk, b, w)] ob'))) := by
  refine ⟨fun pins s σ H Q I q => ?_⟩
  have hn := I.hok.fresh (Nat.le_refl s.heap.objs.size)
  have I1 := I.laid (a := s.heap.objs.size) (o := KD s.heap.objs.size [] ob0) (h' := s.heap.push { cls := .type "dict", data := .dict #[] }) (t' := s.toks) (fun _ _ q => Heap.get?_push_of_some _ q) (Nat.le_refl _) (kd_empty s.heap I.big)
  refine dict_pairsH (knd := nestedKind X.prog X.w) (pairs := pairTrees [some k] [v] X.env pos) (by show X.A.units + 8 < cLine; omega) (zip_pairTrees _ _ _ _ rfl rfl) (fun z => nomatch z) (by simp [pairTrees]) ?_
  refine pairTrees_cons_walk (thn (hk.run pins _ σ _ _ I1 (q _ hn)) fun u s1 ⟨y, H1, I2, ry, q1⟩ => thn (hv.run pins s1 σ H1 _ I2 q1) fun r s2 ⟨w, H2, I3, rw', e, b, kk, ey, pk, hb, q2⟩ => pairTrees_nil_walk ?_)
  subst ey
  cases ry
  obtain ⟨z, hd, xs, rel, dd⟩ := kd_of (es := []) (ps := []) I3 e .nil
  cases rel
  refine ⟨[(kk, b, r)], ⟨rfl, rfl, nk_is I3 pk hb, True.intro⟩, dd, fun h' tk dd' hs => ?_⟩
  obtain ⟨o, ho, ok⟩ := kd_ok (H := upd H2 s.heap.objs.size (KD s.heap.objs.size [(kk, b, w)] ob0)) (es := [(kk, b, w)]) (xs := [(kk, b, r)]) (by rw [sizeLine_eq]; simp) hd (.cons ⟨rfl, rfl, rw'⟩ .nil) (fun e he => by rw [List.mem_singleton.mp he]; exact (okNK_iff pk).1) dd'
  exact ⟨.ref s.heap.objs.size, _, d_write I3 (by rw [e]; exact True.intro) hs ⟨o, ho⟩ ok, rfl, q2 o⟩
@[simp] def wNdisp (wk wv : WE) : WE := fun ρ Q => wk ρ fun k ρ1 => wv ρ1 fun d ρ2 => isNK k = true ∧ Q (kdd [(k, d)]) ρ2
theorem sf_ndisp {R : Res} {k v : Expr} {wk wv : WE} (hu : X.A.units + 64 < cLine) (hk : SE R X k wk) (hv : SE R X v wv) : SF R X (.Dict [some k] [v] pos) (wNdisp wk wv) := by
  refine ⟨fun B => PE.imp (pe_ndisp hu hk.any hv.any) fun σ H Q ⟨ρ, G, r, q⟩ => fun p np => ?_, fun ρ Q Q' hq => hk.mono ρ _ _ fun d ρ1 => hv.mono ρ1 _ _ fun z ρ2 ⟨a, q⟩ => ⟨a, hq _ _ q⟩⟩
  have g0 : B.G0 p = none := by
    cases z : B.G0 p with
    | none => rfl
    | some o =>
      have := r.sub _ _ (r.g0 _ _ z)
      rw [np] at this
      cases this
  have nf : p ∉ B.fp := fun hb => (r.fp0 p hb).2.2 np
  refine ⟨_, ρ, G, r.beginH (oo := KD p [] ob0) np, hk.mono ρ _ _ (fun kd ρ1 q v1 G1 H1 s1 r1 i1 => ?_) q⟩
  refine ⟨_, ρ1, G1, r1, hv.mono ρ1 _ _ (fun d ρ2 q v2 G2 H2 s2 r2 i2 => ?_) q⟩
  obtain ⟨nk, q⟩ := q
  obtain ⟨ks, rfl, pk⟩ := isNK_of nk
  obtain ⟨hD, gD⟩ := r2.apartH g0 nf
  obtain ⟨b, rfl, hb⟩ := (i1.h r1.sub).nk
  refine ⟨hD, b, .tup ks, rfl, pk, (hb.mono s2).mono r2.sub, fun ob' => ?_⟩
  have rt := r2.turnH g0 nf (KD p [(.tup ks, b, v2)] ob')
  obtain ⟨r3, n3⟩ := Rel.overH (vs := []) r (s1.trans s2) np rt (Own1.kdt (.cons pk (hb.mono s2) i2 .nil))
  rw [backS_nil] at r3 n3
  exact q _ _ _ (s1.trans s2) r3 n3
end
/-! ## len -/
def rNLen (K : PySem.W.Frag) : V → Hp → VK → Prop := fun v H Q => ∃ a es, v = .ref a ∧ (∃ ob, H a = some (KD a es ob)) ∧ (∃ ps, Isn K H es ps) ∧ Q (.int ((es.length : Nat) : Int)) H
@[simp] def nlenD : D1 := fun x q => ∃ ps, x = kdd ps ∧ q (.int ((ps.length : Nat) : Int))
theorem call_nlen {X : Cx} : CallR X (.builtin "len") (fun xs H Q => ∃ v, xs = [v] ∧ rNLen X.K v H Q) := by
  intro pins s σ H xs us Q I r h
  obtain ⟨v, rfl, a, es, rfl, ⟨ob, e⟩, ⟨ps, hn⟩, q⟩ := h
  obtain ⟨u, rfl, rx⟩ := vals1 r
  cases rx
  obtain ⟨z, hd, ys, rel, dd⟩ := kd_of I e hn
  have hl : es.length = ys.length := Paired.length rel
  refine call_len_dictH hd dd (by rw [← hl]; rw [sizeLine_eq] at z; omega) ?_
  rw [← hl]
  exact ⟨.int ((es.length : Nat) : Int), H, I.tok _, ⟨_, rfl⟩, q⟩
theorem lk_nlen {R : Res} {K : PySem.W.Frag} : Lk1 R K (fun v H Q => (fun xs H Q => ∃ v, xs = [v] ∧ rNLen K v H Q) [v] H Q) nlenD := by
  refine ⟨fun B G ρ σ H v x Q r hx ⟨ps, e, q⟩ => ?_, fun x q q' hq ⟨ps, e, q⟩ => ⟨ps, e, hq _ q⟩⟩
  subst e
  obtain ⟨a, es, ob, rfl, ha, hs⟩ := hx.kd
  exact ⟨_, rfl, a, es, rfl, ⟨ob, ha⟩, ⟨ps, hs.mono r.sub⟩, by rw [hs.len]; exact aft q r (.int _)⟩
/-! ## d.get(k, x), d.setdefault(k, x) -/
section
variable {X : Cx} {o e f : Expr} {apos cpos : Pos} {td ty tx : TE}
def IsKD (K : PySem.W.Frag) (H : Hp) (x : V) : Prop := ∃ a es ob, x = .ref a ∧ H a = some (KD a es ob)
theorem kd_noDict {pins : List (Addr × Obj)} {σ : L2.St} {H : Hp} {s : Shared} {a : Addr} {es : KEs} {o : Obj} (I : Inv X pins σ H s) (e : H a = some (KD a es o)) : ∀ b, Value.ref a = .ref b → ∃ ob, s.heap.get? b = some ob ∧ ob.dict = none := fun b q => by
  cases q
  obtain ⟨⟨_, _, _, _, _, _, h1, h2, _⟩, _⟩ := (show ObjOk X.prog X.w H s.heap a (KD a es o) from I.hok a _ e)
  exact ⟨o, h1, h2.2.1⟩
theorem dn_get2 {A : Around} {E : Value → Shared → Prop} {pins : List (Addr × Obj)} {σ : L2.St} {H : Hp} {s : Shared} {a b : Addr} {es : KEs} {ps : List (PyData × PyData)} {k : NestedKey} {z : V} {r : Value} {Q : Value → Shared → Prop} {ob : Obj} (hu : A.units + 64 < cLine) (I : Inv X pins σ H s) (e : H a = some (KD a es ob)) (h : Isn X.K H es ps) (p : okNK k = true) (hk : Is X.K H (.ref b) (nkD k))
    (rz : RelV z r) (fin : ∀ w' s', Inv X pins σ H s' → RelV ((valE es k).getD z) w' → Q w' s') : wpAny (model X.prog X.w) A (call (.builtin "dict.get") [.ref a, .ref b, r]) Q E s := by
  obtain ⟨_, hd, xs, rel, dd⟩ := kd_of I e h
  refine call_meetsIn PySem.F.slot_dict_get dd.typeIs PySem.F.entry_dict_get (PySem.F.args_dict_get_3 _ _ _) (meetsH_dict_get_default (nestedKind X.prog X.w) a b hd r) ⟨nkRoom hu, k, xs, nk_is I p hk, dd, fin _ _ (I.tok _) ?_⟩
  exact (rel.val k).getD rz
theorem dn_get1 {A : Around} {E : Value → Shared → Prop} {pins : List (Addr × Obj)} {σ : L2.St} {H : Hp} {s : Shared} {a b : Addr} {es : KEs} {ps : List (PyData × PyData)} {k : NestedKey} {Q : Value → Shared → Prop} {ob : Obj} (hu : A.units + 64 < cLine) (I : Inv X pins σ H s) (e : H a = some (KD a es ob)) (h : Isn X.K H es ps) (p : okNK k = true) (hk : Is X.K H (.ref b) (nkD k))
    (fin : ∀ w' s', Inv X pins σ H s' → RelV ((valE es k).getD .non) w' → Q w' s') : wpAny (model X.prog X.w) A (call (.builtin "dict.get") [.ref a, .ref b]) Q E s := by
  obtain ⟨_, hd, xs, rel, dd⟩ := kd_of I e h
  refine call_meetsIn PySem.F.slot_dict_get dd.typeIs PySem.F.entry_dict_get (PySem.F.args_dict_get_2 _ _) (meetsH_dict_get (nestedKind X.prog X.w) a b hd) ⟨nkRoom hu, k, xs, nk_is I p hk, dd, fin _ _ (I.tok _) ?_⟩
  exact (rel.val k).getD rfl
theorem dn_setdef {A : Around} {E : Value → Shared → Prop} {pins : List (Addr × Obj)} {σ : L2.St} {H : Hp} {s : Shared} {a b : Addr} {es : KEs} {ps : List (PyData × PyData)} {k : NestedKey} {z : V} {r : Value} {Q : Value → Shared → Prop} {ob : Obj} (hu : A.units + 64 < cLine) (I : Inv X pins σ H s) (e : H a = some (KD a es ob)) (h : Isn X.K H es ps) (p : okNK k = true) (hk : Is X.K H (.ref b) (nkD k)) (l : es.length < sizeLine)
    (rz : RelV z r) (f1 : ∀ v w' s', valE es k = some v → Inv X pins σ H s' → RelV v w' → Q w' s') (f2 : valE es k = none → ∀ s' ob', Inv X pins σ (upd H a (KD a (putE es k b z) ob')) s' → Q r s') : wpAny (model X.prog X.w) A (call (.builtin "dict.setdefault") [.ref a, .ref b, r]) Q E s := by
  obtain ⟨hz, hd, xs, rel, dd⟩ := kd_of I e h
  have hv := rel.val k
  refine call_setdefault_heap (hsz := by rw [← Paired.length rel]; exact hz) (nkRoom hu) (nk_is I p hk) hd dd (fun q hq => ?_) fun hn h' dd' hs => ?_
  · rw [hq] at hv
    cases hx : valE es k with
    | none => rw [hx] at hv; exact hv.elim
    | some v =>
      rw [hx] at hv
      exact f1 v _ _ hx (I.tok _) hv
  · rw [hn] at hv
    cases hx : valE es k with
    | some v => rw [hx] at hv; exact hv.elim
    | none =>
      obtain ⟨q, hq, ok⟩ := kd_ok (H := upd H a (KD a (putE es k b z) ob0)) (by have := putE_len es k b z; omega) hd (rel.put k b rz) (valE_plain (fun e he => (okNK_iff (h.keys e he).1).1) (okNK_iff p).1) dd'
      exact f2 hx _ q (d_write I (by rw [e]; exact True.intro) hs ⟨q, hq⟩ ok)
theorem pe_nget2 (hu : X.A.units + 64 < cLine) (ho : PE X o td) (he : PE X e ty) (hf : PE X f tx) (m : M2 X o "get" apos e f cpos) : PE X (.Call (.Attribute o "get" apos) [e, f] [] cpos)
    (fun σ H Q => td σ H fun x H1 => IsKD X.K H1 x ∧ ty σ H1 fun y H2 => tx σ H2 fun z H3 => ∃ a b es k, KHas X.K H3 x y a b es k ∧ Q ((valE es k).getD z) H3) := by
  refine ⟨fun pins s σ H Q I h => ?_⟩
  refine wpAny_Call_method m.base m.few m.line PySem.F.plainAttrs_dict PySem.F.slot_dict_get PySem.F.type_dict_get (thn (ho.run pins s σ H _ I h) fun u s1 ⟨x, H1, I1, rx, ⟨a, es, ob, ex, ed⟩, q1⟩ => ?_)
  subst ex
  obtain rfl : u = Value.ref a := rx
  refine ⟨kd_type I1 ed, kd_noDict I1 ed, ?_⟩
  rw [m.trees]
  refine Calls.callWith_builtin rfl (Calls.evalArgs_plain (Calls.spliced_cons (thn (he.run pins s1 σ H1 _ I1 q1) fun iv s2 ⟨y, H2, I2, ry, q2⟩ =>
    Calls.spliced_cons (thn (hf.run pins s2 σ H2 _ I2 q2) fun fv s3 ⟨z, H3, I3, rz, a', b, es', k, ⟨ex, ey, ⟨ob3, e3⟩, ⟨ps, hn⟩, p, hb⟩, q3⟩ => Calls.spliced_nil ?_))))
  subst ey
  cases ex
  cases ry
  exact dn_get2 hu I3 e3 hn p hb rz fun w' s4 I4 rw' => ⟨_, H3, I4, rw', q3⟩
theorem pe_nget1 (hu : X.A.units + 64 < cLine) (ho : PE X o td) (he : PE X e ty) (m : M1 X o "get" apos e cpos) : PE X (.Call (.Attribute o "get" apos) [e] [] cpos)
    (fun σ H Q => td σ H fun x H1 => IsKD X.K H1 x ∧ ty σ H1 fun y H2 => ∃ a b es k, KHas X.K H2 x y a b es k ∧ Q ((valE es k).getD .non) H2) := by
  refine ⟨fun pins s σ H Q I h => ?_⟩
  refine wpAny_Call_method m.base m.few m.line PySem.F.plainAttrs_dict PySem.F.slot_dict_get PySem.F.type_dict_get (thn (ho.run pins s σ H _ I h) fun u s1 ⟨x, H1, I1, rx, ⟨a, es, ob, ex, ed⟩, q1⟩ => ?_)
  subst ex
  obtain rfl : u = Value.ref a := rx
  refine ⟨kd_type I1 ed, kd_noDict I1 ed, ?_⟩
  rw [m.trees]
  refine Calls.callWith_builtin rfl (Calls.evalArgs_plain (Calls.spliced_cons (thn (he.run pins s1 σ H1 _ I1 q1) fun iv s2 ⟨y, H2, I2, ry, a', b, es', k, ⟨ex, ey, ⟨ob3, e3⟩, ⟨ps, hn⟩, p, hb⟩, q3⟩ => Calls.spliced_nil ?_)))
  subst ey
  cases ex
  cases ry
  exact dn_get1 hu I2 e3 hn p hb fun w' s4 I4 rw' => ⟨_, H2, I4, rw', q3⟩
theorem pe_nsetdef (hu : X.A.units + 64 < cLine) (ho : PE X o td) (he : PE X e ty) (hf : PE X f tx) (m : M2 X o "setdefault" apos e f cpos) : PE X (.Call (.Attribute o "setdefault" apos) [e, f] [] cpos)
    (fun σ H Q => td σ H fun x H1 => IsKD X.K H1 x ∧ ty σ H1 fun y H2 => tx σ H2 fun z H3 => ∃ a b es k, KHas X.K H3 x y a b es k ∧ es.length < sizeLine ∧ (∀ v, valE es k = some v → Q v H3) ∧ (valE es k = none → ∀ ob', Q z (upd H3 a (KD a (putE es k b z) ob')))) := by
  refine ⟨fun pins s σ H Q I h => ?_⟩
  refine wpAny_Call_method m.base m.few m.line PySem.F.plainAttrs_dict PySem.F.slot_dict_setdefault PySem.F.type_dict_setdefault (thn (ho.run pins s σ H _ I h) fun u s1 ⟨x, H1, I1, rx, ⟨a, es, ob, ex, ed⟩, q1⟩ => ?_)
  subst ex
  obtain rfl : u = Value.ref a := rx
  refine ⟨kd_type I1 ed, kd_noDict I1 ed, ?_⟩
  rw [m.trees]
  refine Calls.callWith_builtin rfl (Calls.evalArgs_plain (Calls.spliced_cons (thn (he.run pins s1 σ H1 _ I1 q1) fun iv s2 ⟨y, H2, I2, ry, q2⟩ =>
    Calls.spliced_cons (thn (hf.run pins s2 σ H2 _ I2 q2) fun fv s3 ⟨z, H3, I3, rz, a', b, es', k, ⟨ex, ey, ⟨ob3, e3⟩, ⟨ps, hn⟩, p, hb⟩, hl, q3, q4⟩ => Calls.spliced_nil ?_))))
  subst ey
  cases ex
  cases ry
  exact dn_setdef hu I3 e3 hn p hb hl rz (fun v w' s4 hv I4 rw' => ⟨v, H3, I4, rw', q3 v hv⟩) fun hv s4 ob' I4 => ⟨z, _, I4, rz, q4 hv ob'⟩
end
section
variable {R : Res} {X : Cx} {o e f : Expr} {apos cpos : Pos} {a : Od} {w u : WE}
@[simp] def wNget2 (a : Od) (w u : WE) : WE := fun ρ Q => a.run ρ fun ga ρ1 => (∃ ps, ga ρ1 = some (kdd ps)) ∧ w ρ1 fun k ρ2 => u ρ2 fun z ρ3 => ∃ ps, ga ρ3 = some (kdd ps) ∧ isNK k = true ∧ Q ((lookN ps k).getD z) ρ3
@[simp] def wNget1 (a : Od) (w : WE) : WE := fun ρ Q => a.run ρ fun ga ρ1 => (∃ ps, ga ρ1 = some (kdd ps)) ∧ w ρ1 fun k ρ2 => ∃ ps, ga ρ2 = some (kdd ps) ∧ isNK k = true ∧ Q ((lookN ps k).getD .none) ρ2
theorem isn_getD {K : PySem.W.Frag} {G : Hp} {es : KEs} {ps : List (PyData × PyData)} {z : V} {dz : PyData} (h : Isn K G es ps) (k : NestedKey) (hz : Is K G z dz) : Is K G ((valE es k).getD z) ((lookN ps (nkD k)).getD dz) := by
  rcases h.find (k := k) with ⟨e1, e2⟩ | ⟨v, d', e1, e2, iv⟩ <;> rw [e1, e2]
  · exact hz
  · exact iv
theorem se_nget2 (hu : X.A.units + 64 < cLine) (ha : SO R X o a) (he : SE R X e w) (hf : SE R X f u) (m : M2 X o "get" apos e f cpos) : SE R X (.Call (.Attribute o "get" apos) [e, f] [] cpos) (wNget2 a w u) := by
  refine ⟨fun B => PE.imp (pe_nget2 hu (ha.pe B) (he.pe B) (hf.pe B) m) fun σ H Q ⟨ρ, G, r, h⟩ => ?_, fun ρ Q Q' hq => ha.mono.run fun ga ρ1 ⟨z, q⟩ => ⟨z, he.mono ρ1 _ _ (fun d ρ2 => hf.mono ρ2 _ _ fun d' ρ3 ⟨ps, a, b, q⟩ => ⟨ps, a, b, hq _ _ q⟩) q⟩⟩
  refine od_step ha.mono r h fun ga ρ1 v G1 H1 s1 r1 i1 h1 => ?_
  obtain ⟨⟨ps0, e0⟩, h1⟩ := h1
  obtain ⟨a0, es0, ob1, rfl, ea0, _⟩ := (i1.at r1 e0).kd
  refine ⟨⟨a0, es0, ob1, rfl, ea0⟩, ρ1, G1, r1, he.mono ρ1 _ _ (fun d ρ2 h2 v2 G2 H2 s2 r2 i2 => ?_) h1⟩
  refine ⟨ρ2, G2, r2, hf.mono ρ2 _ _ (fun z ρ3 h3 v3 G3 H3 s3 r3 i3 => ?_) h2⟩
  obtain ⟨ps, e3, nk, q⟩ := h3
  obtain ⟨a1, b, es, k, rfl, hh, hs, ea, rfl⟩ := khas r3 ((i1.mono (s2.trans s3)).at r3 e3) ((i2.mono s3).h r3.sub) nk
  exact ⟨a1, b, es, k, hh, q _ G3 H3 ((s1.trans s2).trans s3) r3 (isn_getD hs k i3)⟩
theorem se_nget1 (hu : X.A.units + 64 < cLine) (ha : SO R X o a) (he : SE R X e w) (m : M1 X o "get" apos e cpos) : SE R X (.Call (.Attribute o "get" apos) [e] [] cpos) (wNget1 a w) := by
  refine ⟨fun B => PE.imp (pe_nget1 hu (ha.pe B) (he.pe B) m) fun σ H Q ⟨ρ, G, r, h⟩ => ?_, fun ρ Q Q' hq => ha.mono.run fun ga ρ1 ⟨z, q⟩ => ⟨z, he.mono ρ1 _ _ (fun d ρ2 ⟨ps, a, b, q⟩ => ⟨ps, a, b, hq _ _ q⟩) q⟩⟩
  refine od_step ha.mono r h fun ga ρ1 v G1 H1 s1 r1 i1 h1 => ?_
  obtain ⟨⟨ps0, e0⟩, h1⟩ := h1
  obtain ⟨a0, es0, ob1, rfl, ea0, _⟩ := (i1.at r1 e0).kd
  refine ⟨⟨a0, es0, ob1, rfl, ea0⟩, ρ1, G1, r1, he.mono ρ1 _ _ (fun d ρ2 h2 v2 G2 H2 s2 r2 i2 => ?_) h1⟩
  obtain ⟨ps, e3, nk, q⟩ := h2
  obtain ⟨a1, b, es, k, rfl, hh, hs, ea, rfl⟩ := khas r2 ((i1.mono s2).at r2 e3) (i2.h r2.sub) nk
  exact ⟨a1, b, es, k, hh, q _ G2 H2 (s1.trans s2) r2 (isn_getD hs k .non)⟩
@[simp] def wNsetdef (i : Nat) (w u : WE) : WE := fun ρ Q => (∃ ps, ρ[i]? = some (.own (kdd ps))) ∧ w ρ fun k ρ1 => u ρ1 fun z ρ2 => ∃ ps, ρ2[i]? = some (.own (kdd ps)) ∧ isNK k = true ∧ ps.length < sizeLine ∧
  (∀ d, lookN ps k = some d → Q d ρ2) ∧ (lookN ps k = none → Q z (ρ2.set i (.own (kdd (putN ps k z)))))
theorem se_nsetdef {i : Nat} {x : Str} {p : Pos} (hu : X.A.units + 64 < cLine) (h : PE X (.Name x p) (tVar i)) (he : SE R X e w) (hf : SE R X f u) (m : M2 X (.Name x p) "setdefault" apos e f cpos) : SE R X (.Call (.Attribute (.Name x p) "setdefault" apos) [e, f] [] cpos) (wNsetdef i w u) := by
  refine ⟨fun B => PE.imp (pe_nsetdef hu h (he.pe B) (hf.pe B) m) fun σ H Q ⟨ρ, G, r, ⟨ps0, e0⟩, h⟩ => ?_, fun ρ Q Q' hq ⟨z, q⟩ => ⟨z, he.mono ρ _ _ (fun d ρ2 => hf.mono ρ2 _ _ fun d' ρ3 ⟨ps, a, b, c, q1, q2⟩ => ⟨ps, a, b, c, fun d hd => hq _ _ (q1 d hd), fun hn => hq _ _ (q2 hn)⟩) q⟩⟩
  obtain ⟨a0, es0, ob1, ea0, eH0, _⟩ := r.ownN e0
  refine ⟨_, ea0, ⟨a0, es0, ob1, rfl, eH0⟩, ρ, G, r, he.mono ρ _ _ (fun d ρ2 h2 v2 G2 H2 s2 r2 i2 => ?_) h⟩
  refine ⟨ρ2, G2, r2, hf.mono ρ2 _ _ (fun z ρ3 h3 v3 G3 H3 s3 r3 i3 => ?_) h2⟩
  obtain ⟨ps, e3, nk, hl, q1, q2⟩ := h3
  obtain ⟨a1, es, ob2, ea1, eH, hs⟩ := r3.ownN e3
  rw [ea0] at ea1
  cases ea1
  obtain ⟨ks, rfl, pk⟩ := isNK_of nk
  obtain ⟨b, rfl, hb⟩ := ((i2.mono s3).h r3.sub).nk
  refine ⟨a0, b, es, .tup ks, ⟨rfl, rfl, ⟨ob2, eH⟩, ⟨ps, hs.mono r3.sub⟩, pk, hb.mono r3.sub⟩, by rw [hs.len]; exact hl, fun v hv => ?_, fun hv ob' => ?_⟩
  · rcases hs.find (k := .tup ks) with ⟨f1, f2⟩ | ⟨v', d', f1, f2, iv⟩
    · rw [hv] at f1
      cases f1
    · rw [hv] at f1
      cases f1
      exact q1 d' f2 _ G3 H3 (s2.trans s3) r3 iv
  · rcases hs.find (k := .tup ks) with ⟨f1, f2⟩ | ⟨v', d', f1, f2, iv⟩
    · exact q2 f2 _ G3 _ (s2.trans s3) (r3.put e3 ea0 (.kdt (hs.put pk hb i3))) i3
    · rw [hv] at f1
      cases f1
end
/-! ## name += number -/
section
variable {R : Res} {X : Cx} {e : Expr} {w : WE} {pos : Pos}
@[simp] def wAug (i : Nat) (w : WE) (g : Int → Int → Int) : WS := fun D ρ => (∃ n : Int, rdS ρ i = some (.int n)) ∧ w ρ fun d ρ1 => ∃ n m : Int, rdS ρ1 i = some (.int n) ∧ rdS ρ i = some (.int n) ∧ d = .int m ∧ D.nx (ρ1.set i (.d (.int (g n m))))
theorem ss_aug {op : Operator} {g : Int → Int → Int} (ho : PIp X op (ipI g)) {i : Nat} {x : Str} {pos' : Pos} (hN : X.N.Nodup) (hi : X.N[i]? = some x) (hx : Loc X.env.scope x) (he : SE R X e w) (hf : X.fn x = true ∨ X.env.scope.names.lookup x = some .local := by first | exact .inl rfl | exact .inr rfl | assumption) :
    SS R X (.AugAssign (.Name x pos') op e pos) (wAug i w g) := by
  refine ⟨fun B => PS.imp (ps_aug hN hi hx (he.pe B) ho hf) fun D σ H ⟨ρ, G, r, ⟨n, e0⟩, q⟩ => ?_, fun D D' ρ l ⟨z, q⟩ => ⟨z, he.mono ρ _ _ (fun d ρ' ⟨n, m, a, b, c, q⟩ => ⟨n, m, a, b, c, l.nx _ q⟩) q⟩⟩
  obtain ⟨v, e1, iv⟩ := r.rd e0
  cases iv
  refine ⟨_, e1, ρ, G, r, he.mono ρ _ _ (fun d ρ' ⟨n', m, a, b, c, q⟩ v G' H' s r' iv => ?_) q⟩
  rw [e0] at b
  cases b
  subst c
  cases iv
  exact ⟨n, m, rfl, rfl, q _ G' H' s (r'.setD (.int _))⟩
end
end DL
namespace DL
open PySem PySem.Spec PyProof.Rows L2
/-! ## several names at once, some with cells of their own -/
def Pend (R : Res) (K : PySem.W.Frag) (G : Hp) (ρ : Sls) (σ : L2.St) (H : Hp) : Bs → List V → List (Bool × PyData) → Prop
  | B, [], [] => Rel R K B G ρ σ H
  | B, v :: vs, (false, d) :: r => Is K G v d ∧ Pend R K G ρ σ H B vs r
  | B, v :: vs, (true, d) :: r => ∃ p ho, v = .ref p ∧ Own1 K G p ho d ∧ p ∉ B.fp ∧ B.G0 p = none ∧ B.H0 p = none ∧ Pend R K G ρ σ H (B.wthH p ho) vs r
  | _, _, _ => False
section
variable {R : Res} {K : PySem.W.Frag} {G : Hp} {ρ : Sls} {σ : L2.St} {H : Hp}
theorem Pend.len : ∀ {ks : List (Bool × PyData)} {vs : List V} {B : Bs}, Pend R K G ρ σ H B vs ks → vs.length = ks.length
  | [], [], _, _ => rfl
  | (false, _) :: r, _ :: vs, _, h => congrArg (· + 1) (Pend.len h.2)
  | (true, _) :: r, _ :: vs, _, ⟨_, _, _, _, _, _, _, h⟩ => congrArg (· + 1) (Pend.len h)
  | [], _ :: _, _, h => h.elim
  | (false, _) :: _, [], _, h => h.elim
  | (true, _) :: _, [], _, h => h.elim
theorem Pend.up {q : Addr} {o : HO} (n : H q = none) : ∀ {ks : List (Bool × PyData)} {vs : List V} {B : Bs}, Pend R K G ρ σ H B vs ks → Pend R K G ρ σ (upd H q o) B vs ks
  | [], [], _, h => (show Rel R K _ G ρ σ H from h).up n
  | (false, _) :: r, _ :: vs, _, h => ⟨h.1, Pend.up n h.2⟩
  | (true, _) :: r, _ :: vs, _, ⟨p, ho, a, b, c, d, e, h⟩ => ⟨p, ho, a, b, c, d, e, Pend.up n h⟩
  | [], _ :: _, _, h => h.elim
  | (false, _) :: _, [], _, h => h.elim
  | (true, _) :: _, [], _, h => h.elim
@[simp] def setM {α : Type} (l : List α) : List Nat → List α → List α
  | j :: js, a :: as => (setM l js as).set j a
  | _, _ => l
@[simp] def slO : Bool × PyData → Sl
  | (true, d) => .own d
  | (false, d) => .d d
theorem Pend.store : ∀ {ks : List (Bool × PyData)} {vs : List V} {js : List Nat} {B : Bs}, Pend R K G ρ σ H B vs ks → ks.length = js.length → Rel R K B G (setM ρ js (ks.map slO)) (setM σ js (vs.map some)) H
  | [], [], [], _, h, _ => h
  | (false, d) :: r, v :: vs, j :: js, B, ⟨i, h⟩, l => (Pend.store (js := js) h (by simpa using l)).setD i
  | (true, d) :: r, v :: vs, j :: js, B, ⟨p, ho, e, o, nf, g0, h0, h⟩, l => by
    subst e
    have q := Pend.store (js := js) h (by simpa using l)
    obtain ⟨la, fp, ql⟩ := q.l
    exact (q.unapart h0 nf).setO (q.newOf h0 g0 nf o ql)
  | [], _ :: _, _, _, h, _ => h.elim
  | (false, _) :: _, [], _, _, h, _ => h.elim
  | (true, _) :: _, [], _, _, h, _ => h.elim
  | [], [], _ :: _, _, _, l => by simp at l
  | (false, _) :: _, _ :: _, [], _, _, l => by simp at l
  | (true, _) :: _, _ :: _, [], _, _, l => by simp at l
end
def wMi : List (Bool × WE) → Sls → (List (Bool × PyData) → Sls → Prop) → Prop
  | [], ρ, Q => Q [] ρ
  | (b, w) :: r, ρ, Q => w ρ fun d ρ1 => wMi r ρ1 fun ds ρ' => Q ((b, d) :: ds) ρ'
@[simp] theorem wMi_nil (ρ : Sls) (Q : List (Bool × PyData) → Sls → Prop) : wMi [] ρ Q = Q [] ρ := rfl
@[simp] theorem wMi_cons (b : Bool) (w : WE) (r : List (Bool × WE)) (ρ : Sls) (Q : List (Bool × PyData) → Sls → Prop) : wMi ((b, w) :: r) ρ Q = w ρ fun d ρ1 => wMi r ρ1 fun ds ρ' => Q ((b, d) :: ds) ρ' := rfl
def MonoMi (is : List (Bool × WE)) : Prop := ∀ (ρ : Sls) (Q Q' : List (Bool × PyData) → Sls → Prop), (∀ ds ρ', Q ds ρ' → Q' ds ρ') → wMi is ρ Q → wMi is ρ Q'
structure SMi (R : Res) (X : Cx) (es : List Expr) (is : List (Bool × WE)) : Prop where
  pa : PA X es (fun σ H Q => ∃ B ρ G, Rel R X.K B G ρ σ H ∧ wMi is ρ fun ds ρ' => ∀ vs G' H', Sub G G' → Pend R X.K G' ρ' σ H' B vs ds → Q vs H')
  at' : ∀ B, PA X es (fun σ H Q => ∃ ρ G, Rel R X.K B G ρ σ H ∧ wMi is ρ fun ds ρ' => ∀ vs G' H', Sub G G' → Pend R X.K G' ρ' σ H' B vs ds → Q vs H')
  mono : MonoMi is
section
variable {R : Res} {X : Cx} {e : Expr} {es : List Expr} {w : WE} {is : List (Bool × WE)}
theorem SMi.mk' (pa : PA X es (fun σ H Q => ∃ B ρ G, Rel R X.K B G ρ σ H ∧ wMi is ρ fun ds ρ' => ∀ vs G' H', Sub G G' → Pend R X.K G' ρ' σ H' B vs ds → Q vs H')) (mono : MonoMi is) : SMi R X es is :=
  ⟨pa, fun B => PA.imp pa fun σ H Q ⟨ρ, G, h⟩ => ⟨B, ρ, G, h⟩, mono⟩
theorem smi_nil : SMi R X [] [] := SMi.mk' (PA.imp pa_nil fun σ H Q ⟨B, ρ, G, r, q⟩ => q [] G H (Same.refl G) r) fun ρ Q Q' hq q => hq _ _ q
theorem smi_d (h : SE R X e w) (t : SMi R X es is) (hs : starEach (e :: es) X.env = (false, eval e X.env) :: starEach es X.env := by rfl) : SMi R X (e :: es) ((false, w) :: is) :=
  SMi.mk' (PA.imp (pa_cons h.any t.pa hs) fun σ H Q ⟨B, ρ, G, r, q⟩ => ⟨B, ρ, G, r, h.mono ρ _ _ (fun d ρ1 q v G1 H1 s1 r1 i1 => ⟨B, ρ1, G1, r1, t.mono ρ1 _ _ (fun ds ρ' q vs G2 H2 s2 pd => q (v :: vs) G2 H2 (s1.trans s2) ⟨i1.mono s2, pd⟩) q⟩) q⟩)
    fun ρ Q Q' hq => h.mono ρ _ _ fun d ρ1 => t.mono ρ1 _ _ fun ds ρ' q => hq _ _ q
theorem smi_o (h : SF R X e w) (t : SMi R X es is) (hs : starEach (e :: es) X.env = (false, eval e X.env) :: starEach es X.env := by rfl) : SMi R X (e :: es) ((true, w) :: is) := by
  have h' : PE X e (fun σ H Q => ∃ B, liftF R X.K B w σ H Q) := ⟨fun pins s σ H Q I ⟨B, q⟩ => (h.pe B).run pins s σ H Q I q⟩
  refine SMi.mk' (PA.imp (pa_cons h' t.pa hs) fun σ H Q ⟨B, ρ, G, r, q⟩ => ⟨B, ρ, G, r, h.mono ρ _ _ (fun d ρ1 q v G1 H1 s1 r1 n1 => ?_) q⟩)
    fun ρ Q Q' hq => h.mono ρ _ _ fun d ρ1 => t.mono ρ1 _ _ fun ds ρ' q => hq _ _ q
  obtain ⟨p, ho, rfl, e1, e2, ra, nf, g0, h0⟩ := r1.aside n1
  exact ⟨B.wthH p ho, ρ1, G1, ra, t.mono ρ1 _ _ (fun ds ρ' q vs G2 H2 s2 pd => q (.ref p :: vs) G2 H2 (s1.trans s2) ⟨p, ho, rfl, e2.mono s2, nf, g0, h0, pd⟩) q⟩
end
@[simp] def wMix (js : List Nat) (is : List (Bool × WE)) : WS := fun D ρ => wMi is ρ fun ds ρ' => ds.length = js.length ∧ D.nx (setM ρ' js (ds.map slO))
def setF {α : Type} (l : List α) : List Nat → List α → List α
  | j :: js, a :: as => setF (l.set j a) js as
  | _, _ => l
theorem setM_set {α : Type} (l : List α) {i : Nat} {a : α} : ∀ {js : List Nat} {as : List α}, i ∉ js → setM (l.set i a) js as = (setM l js as).set i a
  | [], [], _ => rfl
  | [], _ :: _, _ => rfl
  | _ :: _, [], _ => rfl
  | j :: js, b :: as, h => by
    simp only [List.mem_cons, not_or] at h
    rw [setM, setM, setM_set l h.2, List.set_comm _ _ (by exact h.1)]
theorem setF_setM {α : Type} : ∀ {js : List Nat} {as : List α} (l : List α), js.Nodup → setF l js as = setM l js as
  | [], [], _, _ => rfl
  | [], _ :: _, _, _ => rfl
  | _ :: _, [], _, _ => rfl
  | j :: js, a :: as, l, h => by
    rw [List.nodup_cons] at h
    rw [setF, setF_setM (l.set j a) h.2, setM_set l h.1, setM]
def gNames : List Nat → TGs
  | [] => gNil
  | j :: js => gCons (gName j) (gNames js)
theorem gNames_run : ∀ {js : List Nat} {vs : List V} {σ : L2.St} {H : Hp} {Q : L2.St → Hp → Prop}, vs.length = js.length → Q (setF σ js (vs.map some)) H → gNames js vs σ H Q
  | [], [], _, _, _, _, q => ⟨rfl, q⟩
  | j :: js, v :: vs, _, _, _, l, q => ⟨v, vs, rfl, gNames_run (js := js) (by simpa using l) q⟩
  | [], _ :: _, _, _, _, l, _ => by simp at l
  | _ :: _, [], _, _, _, l, _ => by simp at l
section
variable {R : Res} {X : Cx} {es ts : List Expr} {is : List (Bool × WE)} {js : List Nat} {k k2 : Nat} {p p2 pos : Pos}
theorem ss_mixT {kt k2} (hc : X.calm = true) (hm : SMi R X es is) (hg : PGs X ts (gNames js)) (nd : js.Nodup := by decide) (j1000 : js.length ≤ 1000 := by decide) (hn : (assignEach ts X.env).length = js.length := by rfl) (hst : (assignEach ts X.env).findIdx? (·.1) = none := by rfl)
    (hs : swapsWithSole [.Tuple ts kt p] (.Tuple es k2 p2) pos.line X.env = pure false := by rfl) (hw : swappedStores [.Tuple ts kt p] (.Tuple es k2 p2) X.env = pure none := by rfl)
    (h1 : (assignEach [.Tuple ts kt p] X.env).map (·.2) = [assign (.Tuple ts kt p) X.env] := by rfl) :
    SS R X (.Assign [.Tuple ts kt p] (.Tuple es k2 p2) pos) (wMix js is) := by
  refine ⟨fun B => PS.imp (ps_asg (pe_tup (hm.at' B)) (pg_tup hc hg hn hst) hs hw h1) fun D σ H ⟨ρ, G, r, q⟩ => ⟨ρ, G, r, hm.mono ρ _ _ (fun ds ρ' ⟨l, q⟩ vs G' H' s pd => ?_) q⟩, fun D D' ρ l => hm.mono ρ _ _ fun ds ρ' ⟨a, q⟩ => ⟨a, l.nx _ q⟩⟩
  have vl := pd.len
  refine ⟨by rw [vl, l, sizeLine_eq]; omega, fun a na => ⟨a, vs, rfl, .inl (.inl upd_same), by rw [vl, l], gNames_run (by rw [vl, l]) ?_⟩⟩
  rw [setF_setM _ nd]
  exact q _ G' _ s ((pd.up na).store l)
/-- a, b, c = x, y, z -/
theorem ss_mix3 {i j l : Nat} {x y z : Str} {a b c : Expr} {px py pz pt : Pos} {kt k2 pt2} (hc : X.calm = true) (hN : X.N.Nodup) (hi : X.N[i]? = some x) (hj : X.N[j]? = some y) (hl : X.N[l]? = some z)
    (hx : X.env.scope.names.lookup x = some .local) (hy : X.env.scope.names.lookup y = some .local) (hz : X.env.scope.names.lookup z = some .local) (hm : SMi R X [a, b, c] is) (nd : [i, j, l].Nodup := by decide)
    (hw : swappedStores [.Tuple [.Name x px, .Name y py, .Name z pz] kt pt] (.Tuple [a, b, c] k2 pt2) X.env = pure (some [x, y, z]) := by rfl)
    (hs : swapsWithSole [.Tuple [.Name x px, .Name y py, .Name z pz] kt pt] (.Tuple [a, b, c] k2 pt2) pos.line X.env = pure false := by rfl) :
    SS R X (.Assign [.Tuple [.Name x px, .Name y py, .Name z pz] kt pt] (.Tuple [a, b, c] k2 pt2) pos) (wMix [i, j, l] is) := by
  have nd' := nd
  simp only [List.nodup_cons, List.mem_cons, List.not_mem_nil, or_false, not_or, not_false_eq_true, List.nodup_nil, and_true] at nd'
  refine ⟨fun B => PS.imp (ps_par3 hc hN hi hj hl nd'.1.1 nd'.1.2 nd'.2 hx hy hz (hm.at' B) hw hs) fun D σ H ⟨ρ, G, r, q⟩ => ⟨ρ, G, r, hm.mono ρ _ _ (fun ds ρ' ⟨l, q⟩ vs G' H' s pd => ?_) q⟩, fun D D' ρ l => hm.mono ρ _ _ fun ds ρ' ⟨a, q⟩ => ⟨a, l.nx _ q⟩⟩
  have vl := pd.len
  rw [l] at vl
  have st := pd.store l
  rw [← setF_setM _ nd] at st
  match vs, vl, st with
  | [u, v, w], _, st => exact ⟨u, v, w, rfl, q _ G' _ s (by rw [← setF_setM _ nd]; rw [← setF_setM _ nd] at st; exact st)⟩
end
end DL
namespace DL
open PySem PySem.Spec PyProof.Rows L2
/-! ## a statement that is never reached -/
@[simp] def wNev : WS := fun _ _ => False
theorem ss_never {R : Res} {X : Cx} {st : Stmt} : SS R X st wNev := ⟨fun B => ⟨fun pins s σ H D I ⟨_, _, _, h⟩ => h.elim⟩, fun _ _ _ _ h => h⟩
end DL
namespace DL
open PySem PySem.Spec PyProof.Rows L2
/-! ## loops over numbers, lists, numbered lists -/
theorem rngD_drop (lo : Int) (n i : Nat) (h : i < n) : (rngD lo n).drop i = .int (lo + (i : Nat)) :: (rngD lo n).drop (i + 1) := by
  have hl : i < (rngD lo n).length := by rw [rngD_length]; exact h
  have g : (rngD lo n)[i]? = some (.int (lo + (i : Nat))) := by
    unfold rngD
    rw [List.getElem?_map, List.getElem?_range h]
    rfl
  rw [List.getElem?_eq_getElem hl] at g
  rw [List.drop_eq_getElem_cons hl, Option.some.inj g]
theorem wLoop_rng {g : WG} {b : WS} {D : En} (I : Nat → Sls → Prop) {lo : Int} {n : Nat}
    (stp : ∀ i ρ (N : Sls → Prop), i < n → I i ρ → (∀ ρ', I (i + 1) ρ' → N ρ') → g (.int (lo + (i : Nat))) ρ fun ρ1 => b { D with nx := N, ct := N, bk := D.nx } ρ1)
    (fin : ∀ ρ, I n ρ → D.nx ρ) (ρ : Sls) (h : I 0 ρ) : wLoop g b (rngD lo n) D ρ := by
  refine wLoop_inv (fun rest ρ => ∃ i, i ≤ n ∧ rest = (rngD lo n).drop i ∧ I i ρ) ?_ ?_ _ _ ⟨0, Nat.zero_le _, rfl, h⟩
  · rintro x xs ρ N ⟨i, hi, e, hI⟩ hN
    by_cases c : i < n
    · rw [rngD_drop lo n i c] at e
      cases e
      exact stp i ρ N c hI fun ρ' q => hN ρ' ⟨i + 1, c, rfl, q⟩
    · rw [List.drop_eq_nil_of_le (by rw [rngD_length]; omega)] at e
      cases e
  · rintro ρ ⟨i, hi, e, hI⟩
    have : i = n := by
      by_cases c : i < n
      · rw [rngD_drop lo n i c] at e
        cases e
      · omega
    subst this
    exact fin ρ hI
/-- done, still to do -/
theorem wLoop_list {α : Type} {g : WG} {b : WS} {D : En} {f : α → PyData} (I : List α → List α → Sls → Prop)
    (stp : ∀ pre x post ρ (N : Sls → Prop), I pre (x :: post) ρ → (∀ ρ', I (pre ++ [x]) post ρ' → N ρ') → g (f x) ρ fun ρ1 => b { D with nx := N, ct := N, bk := D.nx } ρ1)
    (as : List α) (fin : ∀ pre ρ, I pre [] ρ → D.nx ρ) (ρ : Sls) (h : I [] as ρ) : wLoop g b (as.map f) D ρ := by
  refine wLoop_inv (fun rest ρ => ∃ pre post, rest = post.map f ∧ I pre post ρ) ?_ ?_ _ _ ⟨[], as, rfl, h⟩
  · rintro x xs ρ N ⟨pre, post, e, hI⟩ hN
    cases post with
    | nil => cases e
    | cons y post =>
      cases e
      exact stp pre y post ρ N hI fun ρ' q => hN ρ' ⟨_, _, rfl, q⟩
  · rintro ρ ⟨pre, post, e, hI⟩
    cases post with
    | nil => exact fin pre ρ hI
    | cons y post => cases e
theorem wLoop_enum {α : Type} {g : WG} {b : WS} {D : En} {f : α → PyData} (I : List α → List α → Sls → Prop)
    (stp : ∀ pre x post ρ (N : Sls → Prop), I pre (x :: post) ρ → (∀ ρ', I (pre ++ [x]) post ρ' → N ρ') → g (.tuple [.int (pre.length : Nat), f x]) ρ fun ρ1 => b { D with nx := N, ct := N, bk := D.nx } ρ1)
    (as : List α) (fin : ∀ pre ρ, I pre [] ρ → D.nx ρ) (ρ : Sls) (h : I [] as ρ) : wLoop g b (enumD 0 (as.map f)) D ρ := by
  refine wLoop_inv (fun rest ρ => ∃ pre post, rest = enumD (pre.length : Nat) (post.map f) ∧ I pre post ρ) ?_ ?_ _ _ ⟨[], as, rfl, h⟩
  · rintro x xs ρ N ⟨pre, post, e, hI⟩ hN
    cases post with
    | nil => cases e
    | cons y post =>
      rw [List.map_cons, enum_cons] at e
      cases e
      exact stp pre y post ρ N hI fun ρ' q => hN ρ' ⟨_, _, by simp, q⟩
  · rintro ρ ⟨pre, post, e, hI⟩
    cases post with
    | nil => exact fin pre ρ hI
    | cons y post => cases e
/-- one statement at a time -/
theorem seq_inv {a b : WS} {D : En} {ρ : Sls} (I : Sls → Prop) (h1 : ∀ N : Sls → Prop, (∀ ρ', I ρ' → N ρ') → a { D with nx := N } ρ) (h2 : ∀ ρ', I ρ' → b D ρ') : wSeq a b D ρ := h1 (b D) h2
theorem tst_is {w : WE} {ρ : Sls} (c : Bool) {k : Bool → Sls → Prop} (h : ∀ Q : WK, Q (.bool c) ρ → w ρ Q) (hk : k c ρ) : wTst w ρ k := h _ ⟨c, rfl, hk⟩
/-! ## equality of what is encoded -/
theorem eqvAll_map {α : Type} [DecidableEq α] {f : α → PyData} (h : ∀ a b, PyData.eqv (f a) (f b) = decide (a = b)) : ∀ as bs : List α, PyData.eqvAll (as.map f) (bs.map f) = decide (as = bs)
  | [], [] => rfl
  | [], _ :: _ => rfl
  | _ :: _, [] => rfl
  | a :: as, b :: bs => by
    rw [List.map_cons, List.map_cons, PyData.eqvAll, h, eqvAll_map h as bs]
    by_cases c : a = b <;> by_cases d : as = bs <;> simp [c, d]
theorem eqv_i2 (a b : Int) : PyData.eqv (.int a) (.int b) = decide (a = b) := rfl
theorem eqv_dop (a b : Option Int) : PyData.eqv (dop a) (dop b) = decide (a = b) := by
  cases a <;> cases b <;> simp [dop, PyData.eqv]
  rfl
theorem eqv_st (a b : List (Option Int)) : PyData.eqv (dst a) (dst b) = decide (a = b) := by
  unfold dst
  rw [PyData.eqv, eqvAll_map eqv_dop]
theorem eqv_rw (a b : List Int) : PyData.eqv (drw a) (drw b) = decide (a = b) := by
  unfold drw dis
  rw [PyData.eqv, eqvAll_map eqv_i2]
theorem eqv_bk (a b : List (Int × Int)) : PyData.eqv (dbk a) (dbk b) = decide (a = b) := by
  unfold dbk
  rw [PyData.eqv, eqvAll_map fun p q => by rw [eqv_dpr]; exact Bool.eq_iff_iff.mpr (by simp)]
theorem eqv_ln (a b : List (List (Int × Int))) : PyData.eqv (dln a) (dln b) = decide (a = b) := by
  unfold dln
  rw [PyData.eqv, eqvAll_map eqv_bk]
/-! ## .. as keys -/
theorem nkB_op (o : Option Int) : nkB (dop o) = true := by cases o <;> rfl
theorem nk_tup {α : Type} {f : α → PyData} (h : ∀ x, nkB (f x) = true) {n : Nat} (d : ∀ x, (f x).depth ≤ n) (hn : n ≤ 7) (xs : List α) : isNK (.tuple (xs.map f)) = true := by
  unfold isNK
  rw [nkB, nkBs_map h]
  have := depth_map d xs
  rw [PyData.depth, decide_eq_true (by omega)]
  rfl
theorem nk_st (s : List (Option Int)) : isNK (dst s) = true := nk_tup nkB_op (n := 0) (fun o => (Lay.op o).d) (by decide) s
theorem nkB_pr (p : Int × Int) : nkB (dpr p) = true := rfl
theorem nk_bk (b : List (Int × Int)) : isNK (dbk b) = true := nk_tup nkB_pr (n := 1) (fun o => (Lay.pr o).d) (by decide) b
theorem nkB_bk (b : List (Int × Int)) : nkB (dbk b) = true := by
  unfold dbk
  rw [nkB, nkBs_map nkB_pr]
theorem nk_ln (l : List (List (Int × Int))) : isNK (dln l) = true := nk_tup nkB_bk (n := 2) (fun o => (Lay.bk o).d) (by decide) l
theorem nk_rw (r : List Int) : isNK (drw r) = true := nk_tup (fun _ => rfl) (n := 0) (fun o => (Lay.int o).d) (by decide) r
theorem nk_pr (p : Int × Int) : isNK (dpr p) = true := rfl
/-! ## what such dicts tell, where the keys are encoded -/
theorem lookN_map {α β : Type} [DecidableEq α] {f : α → PyData} {g : α × β → PyData} (h : ∀ a b, PyData.eqv (f a) (f b) = decide (a = b)) (ps : List (α × β)) (y : α) : lookN (ps.map fun p => (f p.1, g p)) (f y) = (ps.find? fun p => decide (p.1 = y)).map g := by
  unfold lookN
  induction ps with
  | nil => rfl
  | cons p ps ih =>
    rw [List.map_cons, List.find?_cons, List.find?_cons]
    simp only [h]
    by_cases c : p.1 = y
    · simp [c]
    · simp only [c, decide_false]
      exact ih
theorem putN_new {ps : List (PyData × PyData)} {y d : PyData} (h : lookN ps y = none) : putN ps y d = ps ++ [(y, d)] := by
  unfold putN
  rw [h]
  rfl
/-! ## == and != of what is encoded -/
theorem eqXD_tup (xs ys : List PyData) (q : PyData → Prop) : eqXD (.tuple xs) (.tuple ys) q = (SeqAt.shaped (.tuple xs) = true ∧ SeqAt.shaped (.tuple ys) = true ∧ q (.bool (PyData.eqv (.tuple xs) (.tuple ys)))) := rfl
theorem neXD_tup (xs ys : List PyData) (q : PyData → Prop) : neXD (.tuple xs) (.tuple ys) q = (SeqAt.shaped (.tuple xs) = true ∧ SeqAt.shaped (.tuple ys) = true ∧ q (.bool (!PyData.eqv (.tuple xs) (.tuple ys)))) := rfl
@[simp high] theorem eqX_st (a b : List (Option Int)) (q : PyData → Prop) : eqXD (dst a) (dst b) q = q (.bool (decide (a = b))) := by
  have h1 := (Lay.st a).shaped (by decide)
  have h2 := (Lay.st b).shaped (by decide)
  have h3 := eqv_st a b
  unfold dst at *
  rw [eqXD_tup, h1, h2, h3]
  simp
@[simp high] theorem neX_st (a b : List (Option Int)) (q : PyData → Prop) : neXD (dst a) (dst b) q = q (.bool (!decide (a = b))) := by
  have h1 := (Lay.st a).shaped (by decide)
  have h2 := (Lay.st b).shaped (by decide)
  have h3 := eqv_st a b
  unfold dst at *
  rw [neXD_tup, h1, h2, h3]
  simp
@[simp high] theorem eqX_rw (a b : List Int) (q : PyData → Prop) : eqXD (drw a) (drw b) q = q (.bool (decide (a = b))) := by
  have h1 := (Lay.rw a).shaped (by decide)
  have h2 := (Lay.rw b).shaped (by decide)
  have h3 := eqv_rw a b
  unfold drw at *
  rw [eqXD_tup, h1, h2, h3]
  simp
@[simp high] theorem neX_rw (a b : List Int) (q : PyData → Prop) : neXD (drw a) (drw b) q = q (.bool (!decide (a = b))) := by
  have h1 := (Lay.rw a).shaped (by decide)
  have h2 := (Lay.rw b).shaped (by decide)
  have h3 := eqv_rw a b
  unfold drw at *
  rw [neXD_tup, h1, h2, h3]
  simp
@[simp high] theorem eqX_bk (a b : List (Int × Int)) (q : PyData → Prop) : eqXD (dbk a) (dbk b) q = q (.bool (decide (a = b))) := by
  have h1 := (Lay.bk a).shaped (by decide)
  have h2 := (Lay.bk b).shaped (by decide)
  have h3 := eqv_bk a b
  unfold dbk at *
  rw [eqXD_tup, h1, h2, h3]
  simp
@[simp high] theorem neX_bk (a b : List (Int × Int)) (q : PyData → Prop) : neXD (dbk a) (dbk b) q = q (.bool (!decide (a = b))) := by
  have h1 := (Lay.bk a).shaped (by decide)
  have h2 := (Lay.bk b).shaped (by decide)
  have h3 := eqv_bk a b
  unfold dbk at *
  rw [neXD_tup, h1, h2, h3]
  simp
@[simp high] theorem eqX_ln (a b : List (List (Int × Int))) (q : PyData → Prop) : eqXD (dln a) (dln b) q = q (.bool (decide (a = b))) := by
  have h1 := (Lay.ln a).shaped (by decide)
  have h2 := (Lay.ln b).shaped (by decide)
  have h3 := eqv_ln a b
  unfold dln at *
  rw [eqXD_tup, h1, h2, h3]
  simp
@[simp high] theorem neX_ln (a b : List (List (Int × Int))) (q : PyData → Prop) : neXD (dln a) (dln b) q = q (.bool (!decide (a = b))) := by
  have h1 := (Lay.ln a).shaped (by decide)
  have h2 := (Lay.ln b).shaped (by decide)
  have h3 := eqv_ln a b
  unfold dln at *
  rw [neXD_tup, h1, h2, h3]
  simp
/-! ## items by place -/
theorem ixD_tupN (xs : List PyData) (i : Nat) {d : PyData} (h : xs[i]? = some d) (q : PyData → Prop) : ixD (.tuple xs) (.int (i : Nat)) q = q d := by
  have : L2.atI xs (i : Int) = some d := L2.atI_nat h
  unfold ixD
  simp [this]
theorem ixD_lstN (xs : List PyData) (i : Nat) {d : PyData} (h : xs[i]? = some d) (q : PyData → Prop) : ixD (.list xs) (.int (i : Nat)) q = q d := by
  have : L2.atI xs (i : Int) = some d := L2.atI_nat h
  unfold ixD
  simp [this]
@[simp high] theorem ixD_t20 (a b : PyData) (q : PyData → Prop) : ixD (.tuple [a, b]) (.int 0) q = q a := ixD_tupN _ 0 rfl q
@[simp high] theorem ixD_t21 (a b : PyData) (q : PyData → Prop) : ixD (.tuple [a, b]) (.int 1) q = q b := ixD_tupN _ 1 rfl q
@[simp high] theorem ixD_t30 (a b c : PyData) (q : PyData → Prop) : ixD (.tuple [a, b, c]) (.int 0) q = q a := ixD_tupN _ 0 rfl q
@[simp high] theorem ixD_t31 (a b c : PyData) (q : PyData → Prop) : ixD (.tuple [a, b, c]) (.int 1) q = q b := ixD_tupN _ 1 rfl q
@[simp high] theorem ixD_t32 (a b c : PyData) (q : PyData → Prop) : ixD (.tuple [a, b, c]) (.int 2) q = q c := ixD_tupN _ 2 rfl q
end DL
namespace DL
open PySem PySem.Spec PyProof.Rows L2 BM
/-! ## numbers of what has been found -/
def dnx (p : Nat × Option Int) : PyData := .tuple [.int p.1, dop p.2]
def dtl (l : List Bk) (e : List (Option Int) × List (Nat × Option Int)) : PyData := .tuple [dst e.1, .tuple (e.2.map dnx), drw (endM l e.1)]
def nmD {α : Type} (f : α → PyData) (ss : List α) : List (PyData × PyData) := ss.zipIdx.map fun p => (f p.1, PyData.int (p.2 : Nat))
section
variable {α : Type} [DecidableEq α] {f : α → PyData} (h : ∀ a b, PyData.eqv (f a) (f b) = decide (a = b))
theorem find_zip (x : α) : ∀ (ss : List α) (k : Nat), (ss.zipIdx k).find? (fun p => decide (p.1 = x)) = if x ∈ ss then some (x, k + idxN x ss) else none
  | [], k => by simp
  | y :: ss, k => by
    rw [List.zipIdx_cons, List.find?_cons]
    by_cases c : y = x
    · subst c
      simp [idxN]
    · have c' : ¬ x = y := fun e => c e.symm
      rw [show decide (y = x) = false from decide_eq_false c]
      show List.find? _ _ = _
      rw [find_zip x ss (k + 1)]
      have e : idxN x (y :: ss) = idxN x ss + 1 := if_neg c
      rw [e]
      simp only [List.mem_cons, c', false_or]
      split <;> simp
      omega
include h
theorem nmD_in {ss : List α} {x : α} (hx : x ∈ ss) : lookN (nmD f ss) (f x) = some (.int (idxN x ss : Nat)) := by
  unfold nmD
  have := lookN_map (f := f) (g := fun p : α × Nat => PyData.int (p.2 : Nat)) h ss.zipIdx x
  rw [this, find_zip x ss 0, if_pos hx]
  simp
theorem nmD_not {ss : List α} {x : α} (hx : x ∉ ss) : lookN (nmD f ss) (f x) = none := by
  unfold nmD
  have := lookN_map (f := f) (g := fun p : α × Nat => PyData.int (p.2 : Nat)) h ss.zipIdx x
  rw [this, find_zip x ss 0, if_neg hx]
  rfl
theorem nmD_some (ss : List α) (x : α) : (lookN (nmD f ss) (f x)).isSome = decide (x ∈ ss) := by
  by_cases c : x ∈ ss
  · rw [nmD_in h c]
    simp [c]
  · rw [nmD_not h c]
    simp [c]
theorem nmD_put {ss : List α} {x : α} (hx : x ∉ ss) : putN (nmD f ss) (f x) (.int (ss.length : Nat)) = nmD f (ss ++ [x]) := by
  rw [putN_new (nmD_not h hx)]
  unfold nmD
  rw [List.zipIdx_append]
  simp
end
theorem nmD_len {α : Type} (f : α → PyData) (ss : List α) : (nmD f ss).length = ss.length := by simp [nmD]
/-! ## how long their texts are -/
theorem sz_nat {i : Nat} (h1 : i < 1024) : Sz 0 4 (.int (i : Nat)) := by
  have : (List.range 1024).all (fun n => szB 0 4 (.int (n : Nat))) = true := by decide +kernel
  exact szB_ok (List.all_eq_true.mp this i (List.mem_range.mpr h1))
theorem sz_nx {p : Nat × Option Int} (h : p.1 < 1024) (hk : ∀ k, p.2 = some k → OkK k) : Sz 1 15 (dnx p) :=
  (SzA.cons (sz_nat h) (SzA.cons (sz_op hk) (SzA.nil (n := 0)))).tup (by decide)
end DL
namespace DL
open PySem PySem.Spec PyProof.Rows L2
/-! ## zip(x, y), two lists or two tuples, gone through -/
def zipD (xs ys : List PyData) : List PyData := (xs.zip ys).map fun p => .tuple [p.1, p.2]
theorem zipD_length (xs ys : List PyData) : (zipD xs ys).length = min xs.length ys.length := by
  unfold zipD
  rw [List.length_map, List.length_zip]
theorem zipD_get {xs ys : List PyData} {i : Nat} {d : PyData} (h : (zipD xs ys)[i]? = some d) : ∃ x y, xs[i]? = some x ∧ ys[i]? = some y ∧ d = .tuple [x, y] := by
  unfold zipD at h
  rw [List.getElem?_map] at h
  cases e : (xs.zip ys)[i]? with
  | none => rw [e] at h; cases h
  | some p =>
    rw [e] at h
    cases h
    obtain ⟨x, y⟩ := p
    rw [List.getElem?_zip_eq_some] at e
    exact ⟨x, y, e.1, e.2, rfl⟩
section
variable {K : PySem.W.Frag} {G : Hp}
theorem itd_zipL {a b : Addr} {vs us : List V} {ds es : List PyData} (sa : G a = some (.lst vs)) (sb : G b = some (.lst us)) (ha : Iss K G vs ds) (hb : Iss K G us es) : ItD K G (Itz K a b) (zipD ds es) := by
  refine ⟨fun i H hi q => ?_, fun H q => ?_, fun i H v H' x e q y => ?_⟩
  · rw [zipD_length] at hi
    obtain ⟨x, e1, _⟩ := ha.get (List.getElem?_eq_getElem (show i < ds.length by omega))
    obtain ⟨y, e2, _⟩ := hb.get (List.getElem?_eq_getElem (show i < es.length by omega))
    exact ⟨vs, us, x, y, .of (q _ _ sa), .of (q _ _ sb), e1, e2⟩
  · refine ⟨vs, us, .of (q _ _ sa), .of (q _ _ sb), ?_⟩
    rw [zipD_length, ha.length, hb.length]
    omega
  · obtain ⟨d1, d2, e1, e2, rfl⟩ := zipD_get e
    obtain ⟨u1, f1, i1⟩ := ha.get e1
    obtain ⟨u2, f2, i2⟩ := hb.get e2
    obtain ⟨T, x, y', rfl, hT, rfl, hx, hy⟩ := y
    have g1 := hx vs (.of (q _ _ sa))
    have g2 := hy us (.of (q _ _ sb))
    rw [f1] at g1
    rw [f2] at g2
    cases g1
    cases g2
    exact .inr ⟨T, _, [d1, d2], hT, rfl, rfl, .cons i1 (.cons i2 .nil), rfl⟩
theorem itd_zipT {a b : Addr} {vs us : List V} {ds es : List PyData} (sa : SqT K G a vs) (sb : SqT K G b us) (ha : Iss K G vs ds) (hb : Iss K G us es) : ItD K G (RZ.ItzT K a b) (zipD ds es) := by
  refine ⟨fun i H hi q => ?_, fun H q => ?_, fun i H v H' x e q y => ?_⟩
  · rw [zipD_length] at hi
    obtain ⟨x, e1, _⟩ := ha.get (List.getElem?_eq_getElem (show i < ds.length by omega))
    obtain ⟨y, e2, _⟩ := hb.get (List.getElem?_eq_getElem (show i < es.length by omega))
    exact ⟨vs, us, x, y, Sub.seqT q sa, Sub.seqT q sb, e1, e2⟩
  · refine ⟨vs, us, Sub.seqT q sa, Sub.seqT q sb, ?_⟩
    rw [zipD_length, ha.length, hb.length]
    omega
  · obtain ⟨d1, d2, e1, e2, rfl⟩ := zipD_get e
    obtain ⟨u1, f1, i1⟩ := ha.get e1
    obtain ⟨u2, f2, i2⟩ := hb.get e2
    obtain ⟨T, x, y', rfl, hT, rfl, hx, hy⟩ := y
    have g1 := hx vs (Sub.seqT q sa)
    have g2 := hy us (Sub.seqT q sb)
    rw [f1] at g1
    rw [f2] at g2
    cases g1
    cases g2
    exact .inr ⟨T, _, [d1, d2], hT, rfl, rfl, .cons i1 (.cons i2 .nil), rfl⟩
end
@[simp] def wZip (w1 w2 : WE) : WI := fun ρ Q => wEs [w1, w2] ρ fun ds ρ' => ∃ xs ys, (ds = [.list xs, .list ys] ∨ ds = [.tuple xs, .tuple ys]) ∧ Q (zipD xs ys) ρ'
theorem si_zip {R : Res} {X : Cx} {e e2 : Expr} {w1 w2 : WE} {p pos tpos : Pos} {elts : List Expr} {kk : Nat} (hg : Gl X "zip") (hm : X.mg "zip" = none) (h : SEs R X [e, e2] [w1, w2])
    (hs : starEach [e, e2] X.env = (false, eval e X.env) :: starEach [e2] X.env := by rfl) (hpl : (backTo pos (starEach [e2] X.env)).any (·.1) = false := by rfl) :
    SI R X (.Tuple elts kk tpos) (.Call (.Name "zip" p) [e, e2] [] pos) (wZip w1 w2) := by
  refine ⟨fun B => ⟨fun pins s σ H q I ⟨ρ, G, r, h'⟩ => (RZ.pi_zipA hg hm (h.pa B) hs hpl).run pins s σ H q I ?_⟩, fun ρ Q Q' hq => h.mono.run fun ds ρ' ⟨xs, ys, e, q⟩ => ⟨xs, ys, e, hq _ _ q⟩⟩
  refine ⟨ρ, G, r, h.mono.run (fun ds ρ' ⟨xs, ys, e, k⟩ vs G' H' s r' i => ?_) h'⟩
  rcases e with rfl | rfl
  · cases i with
    | cons i1 i2 =>
      cases i2 with
      | cons i3 i4 =>
        cases i4
        cases i1 with
        | lst sa ha =>
          cases i3 with
          | lst sb hb => exact ⟨_, _, _, _, rfl, .inl ⟨.of (r'.sub _ _ sa), .of (r'.sub _ _ sb), k _ G' H' s r' (itd_zipL sa sb ha hb)⟩⟩
  · cases i with
    | cons i1 i2 =>
      cases i2 with
      | cons i3 i4 =>
        cases i4
        cases i1 with
        | tup sa ha =>
          cases i3 with
          | tup sb hb => exact ⟨_, _, _, _, rfl, .inr ⟨Sub.seqT r'.sub sa, Sub.seqT r'.sub sb, k _ G' H' s r' (itd_zipT sa sb ha hb)⟩⟩
end DL
namespace DL
open PySem PySem.Spec PyProof.Rows L2 BM
/-! ## tables, least tables, numbers as data -/
def dte (p : PyData × Tn) : PyData := .tuple [p.1, .tuple (p.2.1.map dnx), drw p.2.2]
def dls (e : Tn) : PyData := .tuple [.tuple (e.1.map dnx), drw e.2]
def dna (N : List Nat) : List PyData := N.map fun n : Nat => .int (n : Nat)
def dI0 (p : List (Option Int) × List Int) : PyData := .tuple [.tuple (p.1.map dop), drw p.2]
def dIN (p : Nat × List Nat) : PyData := .tuple [.int (p.1 : Nat), .tuple (dna p.2)]
def ttl (l : List Bk) (n T : Nat) : List (PyData × Tn) := (waveT l n T).2.map fun e => (dst e.1, (e.2, endM l e.1))
theorem eqv_nat (a b : Nat) : PyData.eqv (.int (a : Nat)) (.int (b : Nat)) = decide (a = b) := by
  rw [eqv_i2]
  exact decide_eq_decide.mpr (by omega)
theorem eqv_na (a b : List Nat) : PyData.eqvAll (dna a) (dna b) = decide (a = b) := eqvAll_map eqv_nat a b
theorem eqv_2 {x y z w : PyData} {P Q : Prop} [Decidable P] [Decidable Q] (h1 : PyData.eqv x y = decide P) (h2 : PyData.eqv z w = decide Q) : PyData.eqv (.tuple [x, z]) (.tuple [y, w]) = decide (P ∧ Q) := by
  simp only [PyData.eqv, PyData.eqvAll, h1, h2, Bool.and_true, Bool.decide_and]
theorem eqv_I0 (a b : List (Option Int) × List Int) : PyData.eqv (dI0 a) (dI0 b) = decide (a = b) := by
  unfold dI0
  rw [eqv_2 (P := a.1 = b.1) (Q := a.2 = b.2) (by rw [PyData.eqv, eqvAll_map eqv_dop]) (eqv_rw a.2 b.2)]
  exact decide_eq_decide.mpr ⟨fun h => Prod.ext h.1 h.2, fun h => by rw [h]; exact ⟨rfl, rfl⟩⟩
theorem eqv_IN (a b : Nat × List Nat) : PyData.eqv (dIN a) (dIN b) = decide (a = b) := by
  unfold dIN
  rw [eqv_2 (P := a.1 = b.1) (Q := a.2 = b.2) (eqv_nat a.1 b.1) (by rw [PyData.eqv, eqv_na])]
  exact decide_eq_decide.mpr ⟨fun h => Prod.ext h.1 h.2, fun h => by rw [h]; exact ⟨rfl, rfl⟩⟩
theorem nkB_na (N : List Nat) : nkBs (dna N) = true := nkBs_map (fun _ => rfl) N
theorem nkB_I0 (a : List (Option Int) × List Int) : isNK (dI0 a) = true := by
  unfold isNK dI0 drw dis
  have d1 := depth_map (f := dop) (n := 0) (fun o => (Lay.op o).d) a.1
  have d2 := depth_map (f := PyData.int) (n := 0) (fun o => (Lay.int o).d) a.2
  simp only [nkB, nkBs, nkBs_map nkB_op, nkBs_map (f := PyData.int) (fun _ => rfl), isTupD, Bool.and_true, Bool.true_and, PyData.depth, PyData.depthAll]
  exact decide_eq_true (by omega)
theorem nkB_IN (a : Nat × List Nat) : isNK (dIN a) = true := by
  unfold isNK dIN
  have d2 := depth_map (f := fun n : Nat => PyData.int (n : Nat)) (n := 0) (fun o => (Lay.int o).d) a.2
  have d3 : PyData.depthAll (dna a.2) ≤ 0 := d2
  simp only [nkB, nkBs, nkB_na, isTupD, Bool.and_true, Bool.true_and, PyData.depth, PyData.depthAll]
  exact decide_eq_true (by omega)
theorem tb_ttl (l : List Bk) (n T : Nat) : (waveT l n T).2.map (dtl l) = (ttl l n T).map dte := by
  unfold ttl
  rw [List.map_map]
  rfl
theorem zip_na (N : List Nat) (td : List (PyData × Tn)) : zipD (dna N) (td.map dte) = (N.zip td).map fun p => .tuple [.int (p.1 : Nat), dte p.2] := by
  unfold zipD dna
  rw [List.zip_map, List.map_map]
  rfl
theorem len_na (N : List Nat) : (dna N).length = N.length := List.length_map ..
theorem ix_na {N : List Nat} {i : Nat} (h : i < N.length) : (dna N)[i]? = some (.int ((N.getD i 0 : Nat) : Int)) := by
  unfold dna
  rw [List.getElem?_map, List.getElem?_eq_getElem h]
  simp [List.getD, List.getElem?_eq_getElem h]
theorem ixD_na (N : List Nat) (i : Nat) (h : i < N.length) (q : PyData → Prop) : ixD (.tuple (dna N)) (.int (i : Nat)) q = q (.int ((N.getD i 0 : Nat) : Int)) := ixD_tupN _ i (ix_na h) q
theorem ixD_naL (N : List Nat) (i : Nat) (h : i < N.length) (q : PyData → Prop) : ixD (.list (dna N)) (.int (i : Nat)) q = q (.int ((N.getD i 0 : Nat) : Int)) := ixD_lstN _ i (ix_na h) q
@[simp high] theorem ixD_nx0 (p : Nat × Option Int) (q : PyData → Prop) : ixD (dnx p) (.int 0) q = q (.int (p.1 : Nat)) := ixD_t20 _ _ q
@[simp high] theorem ixD_nx1 (p : Nat × Option Int) (q : PyData → Prop) : ixD (dnx p) (.int 1) q = q (dop p.2) := ixD_t21 _ _ q
theorem eqX_na (a b : List Nat) (q : PyData → Prop) : eqXD (.tuple (dna a)) (.tuple (dna b)) q = q (.bool (decide (a = b))) := by
  have h1 := (Lay.tup (f := fun n : Nat => PyData.int (n : Nat)) (fun n => Lay.int (n : Nat)) a).shaped (by decide)
  have h2 := (Lay.tup (f := fun n : Nat => PyData.int (n : Nat)) (fun n => Lay.int (n : Nat)) b).shaped (by decide)
  rw [eqXD_tup]
  unfold dna at *
  rw [h1, h2, PyData.eqv, eqvAll_map eqv_nat]
  simp
theorem eqX_naL (a b : List Nat) (q : PyData → Prop) : eqXD (.list (dna a)) (.list (dna b)) q = q (.bool (decide (a = b))) := by
  have h1 := (Lay.lst (f := fun n : Nat => PyData.int (n : Nat)) (fun n => Lay.int (n : Nat)) a).shaped (by decide)
  have h2 := (Lay.lst (f := fun n : Nat => PyData.int (n : Nat)) (fun n => Lay.int (n : Nat)) b).shaped (by decide)
  show (SeqAt.shaped (.list (dna a)) = true ∧ SeqAt.shaped (.list (dna b)) = true ∧ q (.bool (PyData.eqv (.list (dna a)) (.list (dna b))))) = _
  unfold dna at *
  rw [h1, h2, PyData.eqv, eqvAll_map eqv_nat]
  simp
end DL
namespace DL
open PySem PySem.Spec PyProof.Rows L2 BM
/-! ## texts of values are texts -/
theorem ok_app (x y : Str) : PyData.strOk (x ++ y) = (PyData.strOk x && PyData.strOk y) := by
  unfold PyData.strOk
  show (x.cps ++ y.cps).all _ = _
  rw [Array.all_append]
theorem ok_str (s : String) : PyData.strOk (s : Str) = true := by
  unfold PyData.strOk
  rw [Str.ofString_eq_toList]
  simp only [List.all_toArray, List.all_eq_true, List.mem_map, decide_eq_true_eq]
  rintro _ ⟨c, _, rfl⟩
  have := c.valid
  unfold UInt32.isValidChar Nat.isValidChar at this
  show c.val.toNat < 1114112
  omega
theorem ok_textFrom : ∀ (ts : List Str) (k : Nat) (acc : Str), PyData.strOk acc = true → (∀ t ∈ ts, PyData.strOk t = true) → PyData.strOk (textFrom k acc ts) = true
  | [], k, acc, h, _ => h
  | t :: ts, k, acc, h, ht => ok_textFrom ts (k + 1) _ (by rw [ok_app, ok_app, h, ok_str, ht t List.mem_cons_self]; rfl) fun u hu => ht u (List.mem_cons_of_mem _ hu)
theorem ok_join (s : Str) (hs : PyData.strOk s = true) : ∀ ts : List Str, (∀ t ∈ ts, PyData.strOk t = true) → PyData.strOk (Str.join s ts) = true
  | [], _ => by rw [Str.join]; decide +kernel
  | [t], h => h t List.mem_cons_self
  | t :: u :: ts, h => by
    show PyData.strOk (t ++ s ++ Str.join s (u :: ts)) = true
    rw [ok_app, ok_app, h t List.mem_cons_self, hs, ok_join s hs (u :: ts) fun v hv => h v (List.mem_cons_of_mem _ hv)]
    rfl
/-- its text is one -/
def Tx (d : PyData) : Prop := PyData.strOk d.shown = true
theorem tx_all : ∀ {xs : List PyData}, (∀ x ∈ xs, Tx x) → ∀ t ∈ PyData.shownAll xs, PyData.strOk t = true
  | [], _, t, ht => absurd ht (by simp [PyData.shownAll])
  | x :: xs, h, t, ht => by
    rw [PyData.shownAll] at ht
    rcases List.mem_cons.mp ht with rfl | ht
    · exact h x List.mem_cons_self
    · exact tx_all (fun y hy => h y (List.mem_cons_of_mem _ hy)) t ht
theorem tx_lst {xs : List PyData} (h : ∀ x ∈ xs, Tx x) : Tx (.list xs) := by
  unfold Tx
  rw [PyData.shown]
  unfold listText
  rw [ok_app, ok_textFrom _ _ _ (ok_str "[") (tx_all h), ok_str]
  rfl
theorem tx_tup {xs : List PyData} (h : ∀ x ∈ xs, Tx x) : Tx (.tuple xs) := by
  unfold Tx
  rw [PyData.shown]
  unfold tupleText
  rw [ok_app, ok_app, ok_join _ (ok_str ", ") _ (tx_all h), ok_str, ok_str]
  rfl
theorem tx_int (i : Int) : Tx (.int i) := by
  unfold Tx
  rw [PyData.shown]
  exact ok_str _
theorem tx_non : Tx .none := by
  unfold Tx
  rw [PyData.shown]
  exact ok_str _
theorem tx_map {α : Type} {f : α → PyData} (h : ∀ a, Tx (f a)) (xs : List α) : Tx (.tuple (xs.map f)) := tx_tup fun x hx => by
  obtain ⟨a, _, rfl⟩ := List.mem_map.mp hx
  exact h a
theorem tx_two {a b : PyData} (ha : Tx a) (hb : Tx b) : Tx (.tuple [a, b]) := tx_tup fun x hx => by
  rcases List.mem_cons.mp hx with rfl | hx
  · exact ha
  · rw [List.mem_singleton.mp hx]; exact hb
theorem tx_three {a b c : PyData} (ha : Tx a) (hb : Tx b) (hc : Tx c) : Tx (.tuple [a, b, c]) := tx_tup fun x hx => by
  rcases List.mem_cons.mp hx with rfl | hx
  · exact ha
  · rcases List.mem_cons.mp hx with rfl | hx
    · exact hb
    · rw [List.mem_singleton.mp hx]; exact hc
theorem tx_op (o : Option Int) : Tx (dop o) := by
  cases o with
  | none => exact tx_non
  | some i => exact tx_int i
theorem tx_st (s : List (Option Int)) : Tx (dst s) := tx_map tx_op s
theorem tx_rw (r : List Int) : Tx (drw r) := tx_map tx_int r
theorem tx_bk (b : Bk) : Tx (dbk b) := tx_map (fun p => tx_two (tx_int _) (tx_int _)) b
theorem tx_ln (l : List Bk) : Tx (dln l) := tx_map tx_bk l
theorem tx_nx (p : Nat × Option Int) : Tx (dnx p) := tx_two (tx_int _) (tx_op _)
theorem tx_te (p : PyData × Tn) (h : Tx p.1) : Tx (dte p) := tx_three h (tx_map tx_nx _) (tx_rw _)
theorem tx_ls (e : Tn) : Tx (dls e) := tx_two (tx_map tx_nx _) (tx_rw _)
theorem tx_na (N : List Nat) : Tx (.tuple (dna N)) := tx_map (fun n => tx_int _) N
theorem tx_ttl (l : List Bk) (n T : Nat) : Tx (.tuple ((ttl l n T).map dte)) := tx_tup fun x hx => by
  obtain ⟨p, hp, rfl⟩ := List.mem_map.mp hx
  obtain ⟨e, _, rfl⟩ := List.mem_map.mp hp
  exact tx_te _ (tx_st _)
end DL
namespace DL
open PySem PySem.Spec PyProof.Rows L2
/-! ## dict(a list of pairs), keys of any depth -/
/-- the values at hand are pairs of a key and a value -/
inductive PkAt (K : PySem.W.Frag) (H : Hp) : List V → KEs → Prop
  | nil : PkAt K H [] []
  | cons {t : Addr} {vs : List V} {k : NestedKey} {b : Addr} {v : V} {es : KEs} (h : SqT K H t [.ref b, v]) (p : okNK k = true) (hk : Is K H (.ref b) (nkD k)) (r : PkAt K H vs es) : PkAt K H (.ref t :: vs) ((k, b, v) :: es)
def putEs : KEs → KEs → KEs
  | acc, [] => acc
  | acc, e :: es => putEs (putE acc e.1 e.2.1 e.2.2) es
def putNs : List (PyData × PyData) → List (PyData × PyData) → List (PyData × PyData)
  | acc, [] => acc
  | acc, p :: ps => putNs (putN acc p.1 p.2) ps
section
variable {X : Cx} {pins : List (Addr × Obj)} {σ : L2.St} {H : Hp} {s : Shared}
theorem pk_vals (I : Inv X pins σ H s) : ∀ {vs : List V} {es : KEs} {its : List Value}, PkAt X.K H vs es → Vals vs its → ∃ (ts : List Addr) (xs : List (NestedKey × Addr × Value)), its = ts.map Value.ref ∧ ts.length = xs.length ∧ KR es xs ∧ (∀ (j : Nat) (k : NestedKey) (b : Addr) (v : Value), xs[j]? = some (k, b, v) → ∃ t, ts[j]? = some t ∧ PairAt s.heap t (.ref b) v) ∧ ∀ x ∈ xs, (nestedKind X.prog X.w).is s.heap x.1 x.2.1 ∧ plainK x.1 = true
  | [], _, [], .nil, _ => ⟨[], [], rfl, rfl, .nil, fun j k b v h => by simp at h, fun x hx => absurd hx (by simp)⟩
  | _ :: _, _, u :: its, .cons (t := t) (k := k) (b := b) (v := v) h p hk r, rv => by
    cases rv with | cons r1 r2 => ?_
    obtain ⟨ts, xs, e1, e2, e3, e4, e5⟩ := pk_vals I r r2
    cases r1
    obtain ⟨jt, rj, it, _⟩ := I.tuple h
    obtain ⟨u1, u2, rfl, ri, rw'⟩ := vals2 rj
    cases ri
    refine ⟨t :: ts, (k, b, u2) :: xs, by rw [e1]; rfl, by simp [e2], .cons ⟨rfl, rfl, rw'⟩ e3, fun j k' b' v' hj => ?_, fun x hx => ?_⟩
    · cases j with
      | zero =>
        simp at hj
        obtain ⟨rfl, rfl, rfl⟩ := hj
        exact ⟨t, rfl, .inl it⟩
      | succ j => exact e4 j k' b' v' (by simpa using hj)
    · rcases List.mem_cons.mp hx with rfl | hx
      · exact ⟨nk_is I p hk, (okNK_iff p).1⟩
      · exact e5 x hx
theorem KR.puts : ∀ {es : KEs} {xs : List (NestedKey × Addr × Value)} {acc : KEs} {ys : List (NestedKey × Addr × Value)}, KR acc ys → KR es xs → KR (putEs acc es) (storedAllH ys xs)
  | _, _, _, _, h, .nil => h
  | _, _, _, _, h, .cons (a := e) (b := x) ⟨e1, e2, e3⟩ t => by
    obtain ⟨k, b, v⟩ := e
    obtain ⟨k', b', u⟩ := x
    cases e1
    cases e2
    exact KR.puts (acc := putE _ k b v) (ys := storedH _ k b u) (h.put k b e3) t
theorem putEs_len : ∀ (es acc : KEs), (putEs acc es).length ≤ acc.length + es.length
  | [], acc => Nat.le_refl _
  | e :: es, acc => by
    have h1 := putEs_len es (putE acc e.1 e.2.1 e.2.2)
    have h2 := putE_len acc e.1 e.2.1 e.2.2
    show (putEs (putE acc e.1 e.2.1 e.2.2) es).length ≤ _
    simp
    omega
theorem putEs_plain : ∀ (es acc : KEs), (∀ e ∈ acc, plainK e.1 = true) → (∀ e ∈ es, plainK e.1 = true) → ∀ e ∈ putEs acc es, plainK e.1 = true
  | [], acc, h, _ => h
  | e :: es, acc, h, k => putEs_plain es _ (valE_plain h (k e List.mem_cons_self)) fun x hx => k x (List.mem_cons_of_mem _ hx)
theorem PkAt.plain {K : PySem.W.Frag} {H : Hp} : ∀ {vs : List V} {es : KEs}, PkAt K H vs es → ∀ e ∈ es, plainK e.1 = true
  | _, _, .nil, e, he => absurd he (by simp)
  | _, _, .cons _ p _ r, e, he => by
    rcases List.mem_cons.mp he with rfl | he
    · exact (okNK_iff p).1
    · exact r.plain e he
theorem call_dctL (hcm : X.calm = true) (hu : X.A.units + 64 < cLine) : CallR X (.type "dict") (fun xs H Q => ∃ p vs es, xs = [.ref p] ∧ SqL X.K H p vs ∧ PkAt X.K H vs es ∧ ∀ l, H l = none → ∀ ob', Q (.ref l) (upd H l (KD l (putEs [] es) ob'))) := by
  intro pins s σ H xs us Q I r h
  obtain ⟨p, vs, es, rfl, hq, hp, q⟩ := h
  obtain ⟨u, rfl, rx⟩ := vals1 r
  cases rx
  obtain ⟨its, rv, pl, hz⟩ := I.list hq
  obtain ⟨ts, xs, rfl, tl, kr, pa, is⟩ := pk_vals I hp rv
  have len : vs.length = xs.length := by
    have := rv.length
    rw [List.length_map] at this
    omega
  have P := PairArg.list (prog := X.prog) (w := X.w) p (ts.map Value.ref).toArray (fun j => ts.getD j 0) (xs.map fun x => (Value.ref x.2.1, x.2.2))
  refine call_dict_pairsH (knd := nestedKind X.prog X.w) (ps := xs) P (I.ok.hd hcm) (by show X.A.units + 1 + 1 + 8 < cLine; omega) ⟨pl, by simp [tl], fun j k v hj => ?_⟩ ⟨by simp, fun i key v hr => ?_⟩ (fun h' hk x hx => ?_) (by simp; omega) fun h' tk dd hk => ?_
  · rw [List.getElem?_map] at hj
    cases e : xs[j]? with
    | none => rw [e] at hj; cases hj
    | some x =>
      obtain ⟨k0, b0, v0⟩ := x
      rw [e] at hj
      cases hj
      obtain ⟨t, ht, pt⟩ := pa j k0 b0 v0 e
      refine ⟨by simp [ht, List.getD], ?_⟩
      simpa [List.getD, ht] using pt
  · have hr : (xs.map fun x => (Value.ref x.2.1, x.2.2))[i]? = some (key, v) := hr
    rw [List.getElem?_map] at hr
    cases e : xs[i]? with
    | none => rw [e] at hr; cases hr
    | some x =>
      obtain ⟨k0, b0, v0⟩ := x
      rw [e] at hr
      cases hr
      exact ⟨k0, b0, rfl, rfl⟩
  · exact nestedKind_stays.all h' (fun b o _ e => hk b o (Nat.ne_of_lt (Heap.lt_size e)) (by simp) e) _ _ (is x hx).1
  · have el := putEs_len es []
    have kl : es.length = xs.length := Paired.length kr
    simp only [List.length_nil, Nat.zero_add] at el
    have hb : (s.heap.objs.size == sysModules) = false := beq_eq_false_iff_ne.mpr (Nat.ne_of_gt I.big)
    obtain ⟨ob, _, ok⟩ := kd_ok (H := upd H s.heap.objs.size (KD s.heap.objs.size (putEs [] es) ob0)) (es := putEs [] es) (by omega) hb (KR.puts .nil kr) (putEs_plain es [] (fun e he => absurd he (by simp)) hp.plain) dd
    exact ⟨.ref s.heap.objs.size, _, I.laid (a := s.heap.objs.size) (o := KD s.heap.objs.size (putEs [] es) ob) (h' := h') (t' := tk) (fun b o e => hk b o (by simp) e) (Nat.le_refl _) ok, rfl, q _ (I.hok.fresh (Nat.le_refl _)) ob⟩
end
@[simp] def dctLD : D1 := fun x q => ∃ ps : List (PyData × PyData), x = .list (ps.map fun p => .tuple [p.1, p.2]) ∧ (∀ p ∈ ps, isNK p.1 = true) ∧ q (kdd (putNs [] ps))
theorem Iss.pk {K : PySem.W.Frag} {G H : Hp} (sb : Sub G H) : ∀ {ps : List (PyData × PyData)} {vs : List V}, Iss K G vs (ps.map fun p => .tuple [p.1, p.2]) → (∀ p ∈ ps, isNK p.1 = true) → ∃ es, PkAt K H vs es ∧ ∀ acc qs, Isn K G acc qs → Isn K G (putEs acc es) (putNs qs ps)
  | [], _, h, _ => by
    cases h
    exact ⟨[], .nil, fun acc qs h => h⟩
  | p :: ps, _, h, hn => by
    cases h with
    | cons h1 h2 =>
      obtain ⟨es, pk, put⟩ := Iss.pk sb h2 fun q hq => hn q (List.mem_cons_of_mem _ hq)
      obtain ⟨ks, ek, ok⟩ := isNK_of (hn p List.mem_cons_self)
      cases h1 with
      | tup sa ha =>
        cases ha with
        | cons i1 ha =>
          cases ha with
          | cons i2 ha =>
            cases ha
            rw [ek] at i1
            have hb : ∀ {v : V}, Is K G v (nkD (.tup ks)) → ∃ b, v = .ref b := fun h => by
              rw [nkD] at h
              cases h with
              | tup sa ha => exact ⟨_, rfl⟩
            obtain ⟨b, rfl⟩ := hb i1
            refine ⟨(.tup ks, b, _) :: es, .cons (Sub.seqT sb sa) ok (i1.mono sb) pk, fun acc qs h => put _ _ ?_⟩
            rw [ek]
            exact h.put ok i1 i2
theorem lkF_dctL {R : Res} {K : PySem.W.Frag} : LkF R K (fun v H Q => (fun xs H Q => ∃ p vs es, xs = [.ref p] ∧ SqL K H p vs ∧ PkAt K H vs es ∧ ∀ l, H l = none → ∀ ob', Q (.ref l) (upd H l (KD l (putEs [] es) ob'))) [v] H Q) dctLD := by
  refine ⟨fun B G ρ σ H v x Q r hx h => ?_, fun x q q' hq ⟨ps, e, n, h⟩ => ⟨ps, e, n, hq _ h⟩⟩
  obtain ⟨ps, e, n, q⟩ := h
  subst e
  cases hx with
  | lst sa ha =>
    obtain ⟨es, pk, put⟩ := Iss.pk r.sub ha n
    exact ⟨_, _, es, rfl, .of sa, pk, fun p np ob' => aftF q r np (.kdt (put [] [] .nil))⟩
end DL
namespace DL
open PySem PySem.Spec PyProof.Rows L2
/-! ## sorted(d), keys of any depth that are pairs of ints -/
section
variable {prog : Program} {w : World} {A : Around} {E : Value → Shared → Prop} {s : Shared}
theorem sorted_raw {d : Addr} {es : Array DictEntry} {ep : Nat} {ltv : Value → Value → Bool} {Q : Value → Shared → Prop} (O : SrtO.Swo ltv) (lo : (d == sysModules) = false) (nh : A.handled = none) (hr : s.heap.DictRaw d es ep) (hz : es.size ≤ sizeLine)
    (hS : 2 ≤ (es.toList.map (·.key)).length → ∀ (h₁ : Heap) (tk : Nat) (a : Addr), h₁.get? a = some (seqObj "list" (es.toList.map (·.key)).toArray 0) → (∀ b o, s.heap.get? b = some o → b ≠ a ∧ h₁.get? b = some o) → SrtO.SortableO prog w A.in1.in1 { s with heap := h₁, toks := tk } a (es.toList.map (·.key)) ltv)
    (h : ∀ out : List Value, SrtO.Srtd ltv out → SrtO.Stb ltv out (es.toList.map (·.key)) → ∀ (h' : Heap) (tk : Nat), (∀ b o, s.heap.get? b = some o → h'.get? b = some o) → Q (.ref h'.objs.size) { s with heap := sortedHeap (h'.push (seqObj "list" (es.toList.map (·.key)).toArray 0)) h'.objs.size (es.toList.map (·.key)) out.toArray, toks := tk }) : wpAny (model prog w) A (call (.builtin "sorted") [.ref d]) Q E s := by
  refine Calls.call_function_entry kind_sorted plain_sorted entry_sorted (args_sorted1 _) ?_
  unfold Builtin.«sorted»
  refine wpAny_bind (m := checkCount "sorted" 1 1 _) (wpAny_pure ?_)
  refine wpAny_bind (PySem.W.kdu_collect (A := A.in1) (PySem.KdlSrc.rawDict (ep := ep) (es := es) lo) (by simp [nh]) hr hz fun h' tk acc hk hacc => ?_)
  have ev : acc.toList = es.toList.map (·.key) := by
    refine List.ext_getElem? fun j => ?_
    rw [List.getElem?_map, Array.getElem?_toList, Array.getElem?_toList]
    by_cases c : j < es.size
    · have ca : j < acc.size := by rw [hacc.1]; exact c
      obtain ⟨hi, e⟩ := hacc.2 j acc[j] (Array.getElem?_eq_getElem ca)
      rw [Array.getElem?_eq_getElem ca, Array.getElem?_eq_getElem c, e]
      rfl
    · rw [Array.getElem?_eq_none (by rw [hacc.1]; omega), Array.getElem?_eq_none (by omega)]
      rfl
  rw [ev]
  refine wpAny_bind (wpAny_newList ?_ (by simpa using hz))
  have new : (h'.push (seqObj "list" (es.toList.map (·.key)).toArray 0)).get? h'.objs.size = some (seqObj "list" (es.toList.map (·.key)).toArray 0) := Heap.get?_push_size _ rfl
  have old : ∀ b o, s.heap.get? b = some o → b ≠ h'.objs.size ∧ (h'.push (seqObj "list" (es.toList.map (·.key)).toArray 0)).get? b = some o := fun b o q => ⟨Nat.ne_of_lt (Heap.lt_size (hk b o q)), Heap.get?_push_of_some _ (hk b o q)⟩
  show wpAny _ _ _ _ _ { s with heap := h'.push (seqObj "list" (es.toList.map (·.key)).toArray 0), toks := tk }
  refine wpAny_bind (wpAny_holding (wpAny_call_entry slot_list_sort ⟨_, new, rfl⟩ entry_list_sort (SrtO.list_sort_ord O new (by simpa using hz) (fun h2 => hS h2 _ _ _ new old) fun out hs hb => ⟨_, rfl, wpAny_pure ⟨_, rfl, ?_⟩⟩) (args_list_sort _)))
  exact h out hs hb h' tk hk
end
def rSortN (K : PySem.W.Frag) : List V → Hp → VK → Prop := fun vs H Q => ∃ (a : Addr) (es : KEs) (ds : List (PyData × PyData)) (ps : List (Int × Int)), vs = [V.ref a] ∧ (∃ ob, H a = some (KD a es ob)) ∧ Isn K H es ds ∧ PrsAt K H (es.map fun e => V.ref e.2.1) ps ∧
  ∀ (zs : List (V × (Int × Int))) (p : Addr), zs.Perm ((es.map fun e => V.ref e.2.1).zip ps) → (zs.map (·.2)).Pairwise leP → H p = none → Q (.ref p) (upd H p (.lst (zs.map (·.1))))
theorem kr_vals : ∀ {es : KEs} {xs : List (NestedKey × Addr × Value)}, KR es xs → Vals (es.map fun e => V.ref e.2.1) (xs.map fun x => Value.ref x.2.1)
  | _, _, .nil => .nil
  | _, _, .cons (a := e) (b := x) ⟨e1, e2, e3⟩ t => .cons (by show L2.RelV (V.ref _) (Value.ref _); rw [e2]; rfl) (kr_vals t)
theorem cr_sortN {X : Cx} (hcm : X.calm = true) : CallR X (.builtin "sorted") (rSortN X.K) := by
  intro pins s σ H vs us Q I r h
  obtain ⟨a, es, ds, ps, rfl, ⟨ob, ha⟩, hn, hx, q⟩ := h
  obtain ⟨z, lo, xs, kr, dd⟩ := kd_of I ha hn
  obtain ⟨en, ep, hr, hs, he⟩ := dd.raw
  have hl : es.length = xs.length := Paired.length kr
  have its : en.toList.map (·.key) = xs.map fun x => Value.ref x.2.1 := by
    refine List.ext_getElem? fun j => ?_
    rw [List.getElem?_map, List.getElem?_map, Array.getElem?_toList]
    by_cases c : j < en.size
    · obtain ⟨y, hy, h1, _⟩ := he j c
      rw [Array.getElem?_eq_getElem c, hy]
      simp [h1]
    · rw [Array.getElem?_eq_none (by omega), List.getElem?_eq_none (by omega)]
      rfl
  have rv := kr_vals kr
  rw [← its] at rv
  rw [Vals.ref1 r]
  obtain ⟨e1, e2⟩ := prs_vals I hx rv
  refine sorted_raw (SrtO.swo_lex (prOf s.heap)) lo (I.ok.hd hcm) hr (by omega) (fun h2 h₁ tk b hb keep => ?_) fun out h1 h2 h' tk hk => ?_
  · refine SrtO.pairs_sortableO (by omega) (fun v hv => ?_) fun o e => ?_
    · obtain ⟨t, rfl, ht⟩ := e2 v hv
      obtain ⟨t', o, t1, t2, n, e3, e4, e5, e6⟩ := pair_at I ht
      cases e3
      exact ⟨t, o, t1, t2, n, rfl, (keep t o e4).2, e5, e6⟩
    · have e' : some o = some (seqObj "list" (en.toList.map (·.key)).toArray 0) := e.symm.trans hb
      cases e'
      intro c
      exact absurd (Value.type.inj c) (by decide)
  · have p2 : ∀ u ∈ out, ∃ a, u = Value.ref a := fun u hu => by
      obtain ⟨t, e, _⟩ := e2 u (h2.perm.mem_iff.mp hu)
      exact ⟨t, e⟩
    have hoL : (h'.push (seqObj "list" (en.toList.map (·.key)).toArray 0)).get? h'.objs.size = some (seqObj "list" (en.toList.map (·.key)).toArray 0) := Heap.get?_push_size _ rfl
    obtain ⟨e', he'⟩ := PyProof.Rows.sortedHeap_at (vs := en.toList.map (·.key)) (out := out.toArray) hoL
    have hl2 : ((out.map fun u => (backV u, prOf s.heap u)).map (·.1)).length ≤ sizeLine := by
      rw [List.length_map, List.length_map, h2.len, List.length_map, Array.length_toList]
      omega
    have e3 : (out.map fun u => (backV u, prOf s.heap u)).map (·.1) = out.map backV := by simp
    have I1 : Inv X pins σ H { s with heap := h', toks := tk } := I.kept hk
    refine ⟨.ref h'.objs.size, upd H h'.objs.size (.lst ((out.map fun u => (backV u, prOf s.heap u)).map (·.1))), I1.laid (t' := tk) (fun b u e => ?_) (Nat.le_refl _) ⟨hl2, out, e', by rw [e3]; exact vals_back p2, he'⟩, rfl, q _ _ ?_ ?_ (I1.hok.fresh (Nat.le_refl _))⟩
    · have hb : b < h'.objs.size := Heap.lt_size e
      rw [PyProof.Rows.sortedHeap_old (Nat.ne_of_lt hb) (by rw [size_push']; exact Nat.lt_succ_of_lt hb)]
      exact Heap.get?_push_of_some _ e
    · rw [← e1]
      exact h2.perm.map _
    · rw [List.map_map]
      exact List.pairwise_map.mpr (h1.imp fun {u v} h => lexB_le h)
@[simp] def sortND : D1 := fun x q => ∃ ps : List ((Int × Int) × PyData), x = kdd (ps.map fun p => (dpr p.1, p.2)) ∧ ∀ ps' : List (Int × Int), ps'.Perm (ps.map (·.1)) → ps'.Pairwise leP → q (.list (ps'.map dpr))
theorem isn_keys {K : PySem.W.Frag} {G : Hp} : ∀ {es : KEs} {ps : List (PyData × PyData)}, Isn K G es ps → Iss K G (es.map fun e => V.ref e.2.1) (ps.map (·.1))
  | _, _, .nil => .nil
  | _, _, .cons hp hk hw t => .cons hk (isn_keys t)
theorem lkF_sortN {R : Res} {K : PySem.W.Frag} : LkF R K (fun v H Q => rSortN K [v] H Q) sortND := by
  refine ⟨fun B G ρ σ H v x Q r hx h => ?_, fun x q q' hq ⟨ps, e, k⟩ => ⟨ps, e, fun n h1 h2 => hq _ (k n h1 h2)⟩⟩
  obtain ⟨ps, rfl, q⟩ := h
  obtain ⟨a, es, ob, rfl, ha, hn⟩ := hx.kd
  have hi := isn_keys hn
  have e1 : (ps.map fun p : (Int × Int) × PyData => (dpr p.1, p.2)).map (·.1) = (ps.map (·.1)).map dpr := by simp
  rw [e1] at hi
  obtain ⟨z1, z2⟩ := iss_zip hi
  refine ⟨a, es, _, ps.map (·.1), rfl, ⟨ob, ha⟩, hn.mono r.sub, hi.prs r.sub, fun zs p hp hs np => ?_⟩
  have e : (zs.map (·.2)).Perm (ps.map (·.1)) := by
    have := hp.map (·.2)
    rw [z2] at this
    exact this
  exact aftF (q _ e hs) r np (.lst (zip_iss fun z hz => z1 z (hp.mem_iff.mp hz)))
end DL
namespace DL
open PySem PySem.Spec PyProof.Rows L2
/-! ## {k: v for ..}, keys of any depth -/
section
variable {X : Cx} {pins : List (Addr × Obj)} {σ : L2.St} {H : Hp} {s : Shared}
theorem nd_put {A : Around} {E : Value → Shared → Prop} {Q : Unit → Shared → Prop} {D b : Addr} {es : KEs} {ps : List (PyData × PyData)} {k : NestedKey} {v : V} {r : Value} {ob : Obj} (hu : A.units + 64 < cLine) (I : Inv X pins σ H s) (e : H D = some (KD D es ob)) (h : Isn X.K H es ps)
    (p : okNK k = true) (hk : Is X.K H (.ref b) (nkD k)) (l : es.length < sizeLine) (rv : RelV v r) (fin : ∀ s' ob', Inv X pins σ (upd H D (KD D (putE es k b v) ob')) s' → Q () s') :
    wpAny (model X.prog X.w) A (dictSet D (.ref b) r) Q E s := by
  obtain ⟨z, hd, xs, rel, dd⟩ := kd_of I e h
  refine wpAny_dictSet_heap (hsz := by rw [← Paired.length rel]; exact z) (show A.units + 8 < cLine by omega) (nk_is I p hk) dd fun h' dd' hs => ?_
  obtain ⟨q, hq, ok⟩ := kd_ok (H := upd H D (KD D (putE es k b v) ob0)) (by have := putE_len es k b v; omega) hd (rel.put k b rv) (valE_plain (fun e he => (okNK_iff (h.keys e he).1).1) (okNK_iff p).1) dd'
  exact fin _ q (d_write I (by rw [e]; exact True.intro) hs ⟨q, hq⟩ ok)
end
/-- one pair goes into the dict at D -/
def NPut (K : PySem.W.Frag) (D : Addr) (N : Hp → Prop) (y z : V) (H : Hp) : Prop :=
  ∃ b es k ps, y = .ref b ∧ okNK k = true ∧ Is K H (.ref b) (nkD k) ∧ Isn K H es ps ∧ (∃ ob, H D = some (KD D es ob)) ∧ es.length < sizeLine ∧ ∀ ob', N (upd H D (KD D (putE es k b z) ob'))
/-- one turn: the target, the tests, the pair -/
def NTurn (K : PySem.W.Frag) (D : Addr) (g : TG) (tt : TT) (tk tv : TE) (vs : List Nat) (σ : L2.St) (N : Hp → Prop) (x : V) (H : Hp) : Prop :=
  g x (wipe σ vs) H fun ς H2 => wipe ς vs = wipe σ vs ∧ tt ς H2 fun c H3 => (c = true → tk ς H3 fun y H4 => tv ς H4 fun z H5 => NPut K D N y z H5) ∧ (c = false → N H3)
def tNdc (K : PySem.W.Frag) (wi : TI) (g : TG) (tt : TT) (tk tv : TE) (vs : List Nat) : TE := fun σ H Q => wi σ H fun J H1 => ∀ D, H1 D = none →
  ∃ P : Nat → Nat → Hp → Prop, (∃ m, P 0 m (upd H1 D (KD D [] ob0))) ∧ ∀ i m H, P i m H →
    J.stop i H ∧ Q (.ref D) H ∨ J.go i H ∧ ∃ N : Hp → Prop, (∀ L, N L → ∃ k, k < m ∧ P (i + 1) k L) ∧ ∀ x L, J.yld i H x L → NTurn K D g tt tk tv vs σ N x L
section
variable {X : Cx} {kx vx tg iter : Expr} {ifs : List Expr} {scope : Scope} {own : List (Str × Nat)} {pos : Pos} {wi : TI} {g : TG} {tt : TT} {tk tv : TE}
/-- every reading of a piece in the comprehension's own block -/
structure InBlk (X : Cx) (scope : Scope) (tg : Expr) (ifs : List Expr) (kx vx : Expr) (g : TG) (tt : TT) (tk tv : TE) : Prop where
  pg : ∀ (s : Shared) (H : Hp) (C : Addr) (cl : List (Str × Addr)) (fp : List Addr), PG (X.blk s H scope (compEnvC scope cl C X.env) fp) tg g
  pt : ∀ (s : Shared) (H : Hp) (C : Addr) (cl : List (Str × Addr)) (fp : List Addr), PTs (X.blk s H scope (compEnvC scope cl C X.env) fp) ifs tt
  pk : ∀ (s : Shared) (H : Hp) (C : Addr) (cl : List (Str × Addr)) (fp : List Addr), PE (X.blk s H scope (compEnvC scope cl C X.env) fp) kx tk
  pv : ∀ (s : Shared) (H : Hp) (C : Addr) (cl : List (Str × Addr)) (fp : List Addr), PE (X.blk s H scope (compEnvC scope cl C X.env) fp) vx tv
theorem run_ndc {p2 : Pos} {pins : List (Addr × Obj)} {s : Shared} {σ : L2.St} {H : Hp} {Q : VK} {use : Option (Value → Sem Unit)} {Qf : Value → Shared → Prop} (hu : X.A.units + 64 < cLine) (hc : X.calm = true) (hN : X.N.Nodup) (hi : PI X tg iter wi) (ok : BlkOk X.N X.env.scope scope own) (hb : InBlk X scope tg ifs kx vx g tt tk tv)
    (hs : ∀ x, foldedSetIterable iter X.env x = pure x) (I : Inv X pins σ H s) (h : tNdc X.K wi g tt tk tv (own.map (·.2)) σ H Q)
    (hR : ∀ D C t m L, Inv X pins σ L t → Q (.ref D) L → t.heap.Ns C m → FpOk X pins L C → compPost (model X.prog X.w) X.A X.xe use Qf (.ref D) C (.ok .next) t) :
    wpAny (model X.prog X.w) X.A (comprehension (.DictComp kx vx [⟨tg, iter, ifs, 0⟩] scope pos) scope X.env p2 newDict false (eval iter X.env) use) Qf X.xe s := by
  have free : ∀ y ∈ scope.names, y.2 = .free → ∃ c, X.env.cells.lookup y.1 = some c := fun y hy e => I.ok.has _ (ok.free y hy e)
  refine wpAny_comprehension_free (use := use) rfl hs (closure_ok free) ok.kind (fun y hy e => by rw [ok.uniq y hy, e]) (thn (hi.run pins s σ H _ I h) fun u t1 hu1 => thn hu1 fun w t2 ⟨it, fp, tn, J, H2, ew, I2, T, st, ff, q⟩ => ?_)
  subst ew
  refine wpAny_newObj_type (newEnv_comp ?_)
  generalize eD : t2.heap.objs.size = D
  obtain ⟨P, ⟨m0, p0⟩, turn⟩ := q D (I2.hok.fresh (Nat.le_of_eq eD))
  -- the empty dict stands
  generalize e3 : ({ t2 with heap := t2.heap.push { cls := .type "dict", data := .dict #[] } } : Shared) = t3
  have J3 : Inv X pins σ (upd H2 D (KD D [] ob0)) t3 := by
    subst e3 eD
    exact I2.laid (t' := t2.toks) (fun _ _ z => Heap.get?_push_of_some _ z) (Nat.le_refl _) (kd_empty t2.heap I2.big)
  have hp3 : t3.heap = t2.heap.push { cls := .type "dict", data := .dict #[] } := by subst e3; rfl
  have lt2 : ∀ b ∈ fp, b < t2.heap.objs.size := fun b hb => (T.obj _ _ st b hb).elim fun o z => Heap.lt_size z.1
  have fine : ∀ b ∈ fp, FpOk X pins (upd H2 D (KD D [] ob0)) b ∧ b < t3.heap.objs.size := fun b hb => by
    have l := lt2 b hb
    have nd : b ≠ D := by rw [← eD]; exact Nat.ne_of_lt l
    refine ⟨⟨(upd_ne nd).trans (ff b hb).1, (ff b hb).2⟩, ?_⟩
    rw [hp3, Heap.size_push]
    exact Nat.lt_succ_of_lt l
  have st3 : tn 0 t3.heap := T.keep _ _ _ st fun b _ o z => by rw [hp3]; exact Heap.get?_push_of_some _ z
  have J4 := block_start J3 ok hN fine
  -- the pieces, read in the block
  obtain ⟨bg, bt, bk, bv⟩ := hb
  have bg := bg t3 (upd H2 D (KD D [] ob0)) t3.heap.objs.size (cellsFrom (t3.heap.objs.size + 1) scope.names (cloFrom X.env.cells scope.names [])) fp
  have bt := bt t3 (upd H2 D (KD D [] ob0)) t3.heap.objs.size (cellsFrom (t3.heap.objs.size + 1) scope.names (cloFrom X.env.cells scope.names [])) fp
  have bk := bk t3 (upd H2 D (KD D [] ob0)) t3.heap.objs.size (cellsFrom (t3.heap.objs.size + 1) scope.names (cloFrom X.env.cells scope.names [])) fp
  have bv := bv t3 (upd H2 D (KD D [] ob0)) t3.heap.objs.size (cellsFrom (t3.heap.objs.size + 1) scope.names (cloFrom X.env.cells scope.names [])) fp
  show codeAny _ _ (.compStart (.DictComp kx vx [⟨tg, iter, ifs, 0⟩] scope pos) 0 (.ref it) (.ref D) (compEnvC scope (cellsFrom (t3.heap.objs.size + 1) scope.names (cloFrom X.env.cells scope.names [])) t3.heap.objs.size X.env)) _
    { t3 with heap := pushCells (t3.heap.push { cls := .type "dict", data := .dict #[] }) scope.names }
  generalize ec : compEnvC scope (cellsFrom (t3.heap.objs.size + 1) scope.names (cloFrom X.env.cells scope.names [])) t3.heap.objs.size X.env = ce at J4 bg bt bk bv ⊢
  have lc : ce.locals = t3.heap.objs.size := by subst ec; rfl
  have none3 : ∀ b ∈ fp, (upd H2 D (KD D [] ob0)) b = none := fun b hb => (fine b hb).1.1
  generalize eH : upd H2 D (KD D [] ob0) = H3 at J3 J4 bg bt bk bv p0 none3 fine
  generalize e4 : ({ t3 with heap := pushCells (t3.heap.push { cls := .type "dict", data := .dict #[] }) scope.names } : Shared) = t4 at J4 ⊢
  have st4 : tn 0 t4.heap := T.keep _ _ _ st3 fun b _ o z => by subst e4; exact pushCells_keeps _ _ _ _ (Heap.get?_push_of_some _ z)
  have own' : ∀ {ς : L2.St} {L : Hp} {t : Shared}, Inv (X.blk t3 H3 scope ce fp) [] ς L t → (∀ b ∈ fp, L b = none) → ∀ b ∈ fp, FpOk (X.blk t3 H3 scope ce fp) [] L b := fun K nn b hb =>
    ⟨nn b hb, (K.ok.exf b hb).1, K.ok.exfs b hb, .inl hb, fun x c z => (K.ok.exf b hb).2 x c z, fun p hp => absurd (show p ∈ ([] : List (Addr × Obj)) ++ [] from hp) (by simp)⟩
  refine (fun loop => codeAny_compStart_dict loop (T.self X.A 0 _ _ _ st4 loop)) ?_
  refine compLoop_anyD (fun n t => ∃ i L, Inv (X.blk t3 H3 scope ce fp) [] (wipe σ (own.map (·.2))) L t ∧ tn i t.heap ∧ (∀ b ∈ fp, L b = none) ∧ P i n L) (fun n t5 ⟨i, L, K, sti, nn, pi⟩ => ?_) m0 ⟨0, H3, J4, st4, none3, p0⟩
  rcases turn i n L pi with ⟨stop, fin⟩ | ⟨go, N, hN', step⟩
  · refine thnF (T.done (X.blk t3 H3 scope ce fp) rfl rfl rfl hc i [] t5 _ L (fun _ _ => False) K (own' K nn) sti stop) fun r t6 ⟨hr, K6⟩ => ?_
    subst hr
    -- back in the def
    have back : Inv X pins σ L t6 := J3.call' (ch := fp) K6.os K6.base K6.hok K6.bare fun b hb => ⟨(fine b hb).1.2.2.2.1, (fine b hb).1.2.1, (fine b hb).1.2.2.2.2.1, (fine b hb).1.2.2.2.2.2⟩
    have free6 : L t3.heap.objs.size = none := lc ▸ (show L ce.locals = none from K6.free)
    obtain ⟨m, hn, _⟩ := K6.loc
    have hn : t6.heap.Ns t3.heap.objs.size m := lc ▸ (show t6.heap.Ns ce.locals m from hn)
    exact hR D t3.heap.objs.size t6 m L back fin hn (J3.fpOk (Nat.le_refl _) free6)
  · refine thnF (T.item (X.blk t3 H3 scope ce fp) rfl rfl rfl hc i [] t5 _ L (fun _ _ => False) K (own' K nn) sti go) fun r t6 ⟨u, hr, k6⟩ => ?_
    subst hr
    refine thnF k6 fun _ t7 ⟨x, L7, K7, r7, y7, st7, n7⟩ => ?_
    have K7' := K7.pinned (own' K7 n7) (T.obj _ _ st7)
    refine thnF (bg.run _ t7 _ L7 x u _ K7' r7 (step x L7 y7)) fun _ t8 ⟨ς, L8, K8, same, q8⟩ => ?_
    -- what is left to say at the end of the turn
    have last : ∀ {t : Shared} {L' : Hp}, Inv (X.blk t3 H3 scope ce fp) ([] ++ pinsAt fp t7.heap) ς L' t → N L' →
        ∃ m, m < n ∧ ∃ i L, Inv (X.blk t3 H3 scope ce fp) [] (wipe σ (own.map (·.2))) L t ∧ tn i t.heap ∧ (∀ b ∈ fp, L b = none) ∧ P i m L := fun {t L'} K' nx => by
      obtain ⟨k, hk, pk⟩ := hN' L' nx
      have pin : ∀ b ∈ fp, ∀ o, t7.heap.get? b = some o → t.heap.get? b = some o ∧ L' b = none := fun b hb o e => by
        have z := K'.pin (b, o) (List.mem_append_right _ (List.mem_append_right _ (mem_pinsAt hb e)))
        exact ⟨z.1, z.2.1⟩
      refine ⟨k, hk, i + 1, L', (K'.unpinned (pins := [])).weak (by rw [← same, wipe_length]) (fun j v e => (wipe_some (same ▸ e)).1), T.keep _ _ _ st7 fun b hb o e => (pin b hb o e).1, fun b hb => ?_, pk⟩
      obtain ⟨o, e, _⟩ := T.obj _ _ st7 b hb
      exact (pin b hb o e).2
    refine thnF (bt.run _ t8 ς L8 _ K8 q8) fun c t9 ⟨L9, K9, yes, no⟩ => ?_
    cases c with
    | false => exact last K9 (no rfl)
    | true =>
      refine thnF (bk.run _ t9 ς L9 _ K9 (yes rfl)) fun z t10 ⟨yk, L10, K10, r10, q10⟩ => thnF (bv.run _ t10 ς L10 _ K10 q10) fun z2 t11 ⟨yv, L11, K11, r11, b, es, k, ps, ek, pk, hk, hn, ⟨ob, hD⟩, hz, nx⟩ => ?_
      subst ek
      cases r10
      exact nd_put (X := X.blk t3 H3 scope ce fp) hu K11 hD hn pk hk hz r11 fun t12 ob' K12 => last K12 (nx ob')
/-- as a value -/
theorem pe_ndc (hu : X.A.units + 64 < cLine) (hc : X.calm = true) (hN : X.N.Nodup) (hi : PI X tg iter wi) (ok : BlkOk X.N X.env.scope scope own) (hb : InBlk X scope tg ifs kx vx g tt tk tv) (hs : ∀ x, foldedSetIterable iter X.env x = pure x := by intro _; rfl) :
    PE X (.DictComp kx vx [⟨tg, iter, ifs, 0⟩] scope pos) (tNdc X.K wi g tt tk tv (own.map (·.2))) := by
  refine ⟨fun pins s σ H Q I h => ?_⟩
  rw [arm_eval_DictComp]
  refine run_ndc (use := none) hu hc hN hi ok hb hs I h fun D C t m L K q hn f => ⟨m, hn, fun h2 sb => ?_⟩
  obtain ⟨f0, f1, f2, f3, f4, f5⟩ := f
  exact ⟨.ref D, L, K.turned (t' := t.toks) (fun b o hb z => (sb.2 b hb).trans z) f0 f1 f3 f4 f5, rfl, q⟩
/-- stored on the line where it stands -/
theorem ps_setNdc {i : Nat} {y : Str} {py spos : Pos} (hu : X.A.units + 64 < cLine) (hc : X.calm = true) (hN : X.N.Nodup) (hy : X.N[i]? = some y) (hl : X.env.scope.names.lookup y = some .local)
    (sw : swapsWith (.DictComp kx vx [⟨tg, iter, ifs, 0⟩] scope pos) (some (.Name y py)) spos.line X.env = pure true) (hi : PI X tg iter wi) (ok : BlkOk X.N X.env.scope scope own) (hb : InBlk X scope tg ifs kx vx g tt tk tv) (hs : ∀ x, foldedSetIterable iter X.env x = pure x := by intro _; rfl) :
    PS X (.Assign [.Name y py] (.DictComp kx vx [⟨tg, iter, ifs, 0⟩] scope pos) spos) (tAsg (tNdc X.K wi g tt tk tv (own.map (·.2))) (gName i)) := by
  refine ⟨fun pins s σ H D I h => ?_⟩
  have h : tNdc X.K wi g tt tk tv (own.map (·.2)) σ H (fun x L => gName i x σ L D.nx) := h
  rw [exec_Assign_Name_used _ _ _ _ sw]
  refine wpAny_bind (wpAny_standAt (wpAny_bind ?_))
  refine wpAny_bind (thn (run_ndc (Qf := fun _ t => SP X pins D .next t) (use := some (assign (.Name y py) X.env)) hu hc hN hi ok hb hs I h fun d C t m L K q hn f => ?_) fun _ t hq => wpAny_pure (wpAny_pure hq))
  obtain ⟨f0, f1, f2, f3, f4, f5⟩ := f
  show wpAny _ _ (assign (.Name y py) X.env (.ref d)) _ _ _
  refine wpAny_assign_Name (store_ok2 (v := V.ref d) K hN hy (.inl hl) rfl (fun t2 K2 ⟨a, sb, ha⟩ => ?_) (.inr hl))
  have apart : C ≠ a := by
    rcases ha with z | z
    · exact z ▸ f1
    · exact fun e => f4 y a z e.symm
  exact ⟨m, hn.sameBut sb apart, fun h3 sb3 => ⟨_, L, K2.turned (t' := t2.toks) (fun b o hb z => (sb3.2 b hb).trans z) f0 f1 f3 f4 f5, q⟩⟩
end
end DL
namespace DL
open PySem PySem.Spec PyProof.Rows L2
/-! ## {k: v for ..} over data -/
def wDcL (g : WG) (tt : WT) (wk wv : WE) (vs : List Nat) (ρ0 : Sls) : List PyData → List (PyData × PyData) → Sls → (List (PyData × PyData) → Sls → Prop) → Prop
  | [], acc, ρ, Q => Q acc (backS ρ0 ρ vs)
  | x :: xs, acc, ρ, Q => g x (wipS ρ vs) fun ρ1 => tt ρ1 fun c ρ2 => if c = true then wk ρ2 fun k ρ3 => wv ρ3 fun d ρ4 => isNK k = true ∧ acc.length < sizeLine ∧ wDcL g tt wk wv vs ρ0 xs (putN acc k d) ρ4 Q else wDcL g tt wk wv vs ρ0 xs acc ρ2 Q
@[simp] def wDc (wi : WI) (g : WG) (tt : WT) (wk wv : WE) (vs : List Nat) : WE := fun ρ Q => wi ρ fun xs ρ1 => wDcL g tt wk wv vs ρ1 xs [] ρ1 fun ds ρ' => Q (kdd ds) ρ'
theorem mono_dcL {g : WG} {tt : WT} {wk wv : WE} {vs : List Nat} {ρ0 : Sls} (mg : MonoG g) (mt : MonoT tt) (mk : MonoE wk) (mv : MonoE wv) : ∀ (xs : List PyData) (acc : List (PyData × PyData)) (ρ : Sls) (Q Q' : List (PyData × PyData) → Sls → Prop), (∀ ds ρ', Q ds ρ' → Q' ds ρ') →
    wDcL g tt wk wv vs ρ0 xs acc ρ Q → wDcL g tt wk wv vs ρ0 xs acc ρ Q'
  | [], acc, ρ, Q, Q', h, q => h _ _ q
  | x :: xs, acc, ρ, Q, Q', h, q => by
    refine mg _ _ _ _ (fun ρ1 q => mt _ _ _ (fun c ρ2 q => ?_) q) q
    cases c with
    | false => exact mono_dcL mg mt mk mv xs _ _ _ _ h q
    | true => exact mk _ _ _ (fun k ρ3 q => mv _ _ _ (fun d ρ4 ⟨a, b, q⟩ => ⟨a, b, mono_dcL mg mt mk mv xs _ _ _ _ h q⟩) q) q
theorem mono_dc {wi : WI} {g : WG} {tt : WT} {wk wv : WE} {vs : List Nat} (mi : MonoI wi) (mg : MonoG g) (mt : MonoT tt) (mk : MonoE wk) (mv : MonoE wv) : MonoE (wDc wi g tt wk wv vs) :=
  fun ρ Q Q' h => mi ρ _ _ fun xs ρ1 q => mono_dcL mg mt mk mv xs [] ρ1 _ _ (fun ds ρ' q => h _ _ q) q
section
variable {R : Res} {X : Cx} {pos : Pos}
theorem dc_lift {K : PySem.W.Frag} {B : Bs} {wi : WI} {t : TG} {g : WG} {tt : WT} {wk wv : WE} {is vs : List Nat} {σ : L2.St} {H : Hp} {Q : VK} (mi : MonoI wi) (mt : MonoT tt) (mk : MonoE wk) (mv : MonoE wv)
    (hg : ∀ (B : Bs) (ρ : Sls) (G : Hp) (σ : L2.St) (H : Hp) (v : V) (d : PyData) (q : L2.St → Hp → Prop), Rel R K B G ρ σ H → Is K G v d → (g d ρ fun ρ' => ∀ σ' G' H', Off is σ σ' → Sub G G' → Rel R K B G' ρ' σ' H' → q σ' H') → t v σ H q) (mg : MonoG g)
    (his : ∀ i ∈ is, i ∈ vs) (h : liftF R K B (wDc wi g tt wk wv vs) σ H Q) : tNdc K (liftI R K B wi) t (anyT R K tt) (anyE R K wk) (anyE R K wv) vs σ H Q := by
  obtain ⟨ρ, G, r, h⟩ := h
  refine ⟨ρ, G, r, mi ρ _ _ (fun xs ρ1 q J G1 H1 s1 r1 j D nD => ?_) h⟩
  have g0 : B.G0 D = none := by
    cases z : B.G0 D with
    | none => rfl
    | some o =>
      have := r1.sub _ _ (r1.g0 _ _ z)
      rw [nD] at this
      cases this
  have nf : D ∉ B.fp := fun hb => (r1.fp0 D hb).2.2 nD
  let S : Nat → Hp → Prop := fun i H' => ∃ ρ' G' es ob ds, Sub G1 G' ∧ Rel R K (B.wthH D (KD D es ob)) G' (wipS ρ' vs) (wipe σ vs) H' ∧ Isn K G' es ds ∧ wDcL g tt wk wv vs ρ1 (xs.drop i) ds ρ' fun ds ρ' => ∀ v G' H', Sub G G' → Rel R K B G' ρ' σ H' → IsNew R K B G' σ ρ' H' v (kdd ds) → Q v H'
  refine ⟨fun i m H' => m = xs.length - i ∧ i ≤ xs.length ∧ S i H', ⟨xs.length, rfl, Nat.zero_le _, ρ1, G1, [], ob0, [], Same.refl G1, (r1.beginH (oo := KD D [] ob0) nD).wip, .nil, q⟩, ?_⟩
  rintro i m H2 ⟨rfl, hle, ρ2, G2, es, ob, ds, s2, r2, ha, k⟩
  by_cases hlt : i < xs.length
  · refine .inr ⟨j.go i H2 hlt (s2.trans r2.sub), S (i + 1), fun H' n => ⟨xs.length - (i + 1), by omega, rfl, hlt, n⟩, fun v H3 y => ?_⟩
    rw [List.drop_eq_getElem_cons hlt] at k
    have step : ∀ G3, Sub G2 G3 → Rel R K (B.wthH D (KD D es ob)) G3 (wipS ρ2 vs) (wipe σ vs) H3 → Is K G3 v xs[i] → NTurn K D t (anyT R K tt) (anyE R K wk) (anyE R K wv) vs σ (S (i + 1)) v H3 := fun G3 s3 r3 i3 => by
      refine hg _ _ G3 _ H3 v _ _ r3 i3 (mg _ _ _ _ (fun ρ4 k4 σ4 G4 H4 off s4 r4 => ?_) k)
      have hw := wipe_same off his
      refine ⟨hw, B.wthH D (KD D es ob), ρ4, G4, r4, mt ρ4 _ _ (fun c ρ5 k5 G5 H5 s5 r5 => ?_) k4⟩
      have t5 : Sub G1 G5 := ((s2.trans s3).trans s4).trans s5
      cases c with
      | false =>
        refine ⟨nofun, fun _ => ⟨ρ5, G5, es, ob, ds, t5, ?_, ha.mono ((s3.trans s4).trans s5), k5⟩⟩
        have := r5.wip (vs := vs)
        rw [hw] at this
        exact this
      | true =>
        refine ⟨fun _ => ⟨B.wthH D (KD D es ob), ρ5, G5, r5, mk ρ5 _ _ (fun kd ρ6 k6 u G6 H6 s6 r6 i6 => ⟨B.wthH D (KD D es ob), ρ6, G6, r6, mv ρ6 _ _ (fun d ρ7 k7 u2 G7 H7 s7 r7 i7 => ?_) k6⟩) k5⟩, nofun⟩
        obtain ⟨nk, z, k7⟩ := k7
        obtain ⟨hD, gD⟩ := r7.apartH g0 nf
        obtain ⟨ks, rfl, pk⟩ := isNK_of nk
        obtain ⟨b, rfl, hb⟩ := (i6.h r6.sub).nk
        have hb7 := hb.mono s7
        have ha7 := ha.mono ((((s3.trans s4).trans s5).trans s6).trans s7)
        refine ⟨b, es, .tup ks, ds, rfl, pk, hb7.mono r7.sub, ha7.mono r7.sub, ⟨ob, hD⟩, by rw [ha.len]; exact z, fun ob' => ⟨ρ7, G7, putE es (.tup ks) b u2, ob', putN ds (nkD (.tup ks)) d, (t5.trans s6).trans s7, ?_, ha7.put pk hb7 i7, k7⟩⟩
        have := (r7.turnH g0 nf (KD D (putE es (.tup ks) b u2) ob')).wip (vs := vs)
        rw [hw] at this
        exact this
    rcases j.yld i H2 v H3 xs[i] (List.getElem?_eq_getElem hlt) (s2.trans r2.sub) y with ⟨rfl, iv⟩ | ⟨T, vs', ds', nT, rfl, rfl, hv, ex⟩
    · exact step G2 (Same.refl G2) r2 (iv.mono s2)
    · have sg : Sub G2 (upd G2 T (.tup vs')) := upd_new (r2.sub.free nT)
      refine step _ sg (r2.laid nT) ?_
      rw [ex]
      exact .tup (.inl (.inl upd_same)) (hv.mono (s2.trans sg))
  · have e : i = xs.length := by omega
    subst e
    rw [List.drop_length] at k
    obtain ⟨r3, n3⟩ := Rel.overH r1 s2 nD r2 (Own1.kdt ha)
    exact .inl ⟨j.stop H2 (s2.trans r2.sub), k _ G2 H2 (s1.trans s2) r3 n3⟩
/-- {key: value for target in iter if ..} -/
theorem sf_dc {kx vx tg iter : Expr} {ifs : List Expr} {scope : Scope} {own : List (Str × Nat)} {wi : WI} {t : TG} {g : WG} {tt : WT} {wk wv : WE} {is : List Nat} (hu : X.A.units + 64 < cLine) (hc : X.calm = true) (hN : X.N.Nodup) (hi : SI R X tg iter wi) (ok : BlkOk X.N X.env.scope scope own)
    (hg : ∀ (s : Shared) (H : Hp) (C : Addr) (cl : List (Str × Addr)) (fp : List Addr), SG R (X.blk s H scope (compEnvC scope cl C X.env) fp) tg t g is) (his : ∀ i ∈ is, i ∈ own.map (·.2))
    (ht : ∀ (s : Shared) (H : Hp) (C : Addr) (cl : List (Str × Addr)) (fp : List Addr), STs R (X.blk s H scope (compEnvC scope cl C X.env) fp) ifs tt)
    (hk : ∀ (s : Shared) (H : Hp) (C : Addr) (cl : List (Str × Addr)) (fp : List Addr), SE R (X.blk s H scope (compEnvC scope cl C X.env) fp) kx wk)
    (hv : ∀ (s : Shared) (H : Hp) (C : Addr) (cl : List (Str × Addr)) (fp : List Addr), SE R (X.blk s H scope (compEnvC scope cl C X.env) fp) vx wv) (hs : ∀ x, foldedSetIterable iter X.env x = pure x := by intro _; rfl) :
    SF R X (.DictComp kx vx [⟨tg, iter, ifs, 0⟩] scope pos) (wDc wi g tt wk wv (own.map (·.2))) := by
  have mg := (hg sh0 (fun _ => none) 0 [] []).mono
  have mt := (ht sh0 (fun _ => none) 0 [] []).mono
  have mk := (hk sh0 (fun _ => none) 0 [] []).mono
  have mv := (hv sh0 (fun _ => none) 0 [] []).mono
  exact ⟨fun B => PE.imp (pe_ndc hu hc hN (hi.pi B) ok ⟨fun s H C cl fp => (hg s H C cl fp).pg, fun s H C cl fp => (ht s H C cl fp).any, fun s H C cl fp => (hk s H C cl fp).any, fun s H C cl fp => (hv s H C cl fp).any⟩ hs)
    fun σ H Q h => dc_lift hi.mono mt mk mv (hg sh0 (fun _ => none) 0 [] []).to mg his h, mono_dc hi.mono mg mt mk mv⟩
/-- name = {..} on one line -/
theorem ss_setDc {i : Nat} {y : Str} {py spos : Pos} {kx vx tg iter : Expr} {ifs : List Expr} {scope : Scope} {own : List (Str × Nat)} {wi : WI} {t : TG} {g : WG} {tt : WT} {wk wv : WE} {is : List Nat} (hu : X.A.units + 64 < cLine) (hc : X.calm = true) (hN : X.N.Nodup) (hy : X.N[i]? = some y) (hyl : X.env.scope.names.lookup y = some .local)
    (hsw : swapsWith (.DictComp kx vx [⟨tg, iter, ifs, 0⟩] scope pos) (some (.Name y py)) spos.line X.env = pure true) (hi : SI R X tg iter wi) (ok : BlkOk X.N X.env.scope scope own)
    (hg : ∀ (s : Shared) (H : Hp) (C : Addr) (cl : List (Str × Addr)) (fp : List Addr), SG R (X.blk s H scope (compEnvC scope cl C X.env) fp) tg t g is) (his : ∀ i ∈ is, i ∈ own.map (·.2))
    (ht : ∀ (s : Shared) (H : Hp) (C : Addr) (cl : List (Str × Addr)) (fp : List Addr), STs R (X.blk s H scope (compEnvC scope cl C X.env) fp) ifs tt)
    (hk : ∀ (s : Shared) (H : Hp) (C : Addr) (cl : List (Str × Addr)) (fp : List Addr), SE R (X.blk s H scope (compEnvC scope cl C X.env) fp) kx wk)
    (hv : ∀ (s : Shared) (H : Hp) (C : Addr) (cl : List (Str × Addr)) (fp : List Addr), SE R (X.blk s H scope (compEnvC scope cl C X.env) fp) vx wv) (hs : ∀ x, foldedSetIterable iter X.env x = pure x := by intro _; rfl) :
    SS R X (.Assign [.Name y py] (.DictComp kx vx [⟨tg, iter, ifs, 0⟩] scope pos) spos) (wSetO i (wDc wi g tt wk wv (own.map (·.2)))) := by
  have mg := (hg sh0 (fun _ => none) 0 [] []).mono
  have mt := (ht sh0 (fun _ => none) 0 [] []).mono
  have mk := (hk sh0 (fun _ => none) 0 [] []).mono
  have mv := (hv sh0 (fun _ => none) 0 [] []).mono
  have ml := mono_dc (vs := own.map (·.2)) hi.mono mg mt mk mv
  exact ⟨fun B => PS.imp (ps_setNdc hu hc hN hy hyl hsw (hi.pi B) ok ⟨fun s H C cl fp => (hg s H C cl fp).pg, fun s H C cl fp => (ht s H C cl fp).any, fun s H C cl fp => (hk s H C cl fp).any, fun s H C cl fp => (hv s H C cl fp).any⟩ hs)
    fun D σ H ⟨ρ, G, r, h⟩ => dc_lift hi.mono mt mk mv (hg sh0 (fun _ => none) 0 [] []).to mg his ⟨ρ, G, r, ml ρ _ _ (fun d ρ' q v G' H' s r' n => q _ G' H' s (r'.setO n)) h⟩, mono_setO ml⟩
end
/-! ### read -/
section
variable {α : Type} {g : WG} {wk wv : WE} {vs : List Nat} {ρ0 : Sls}
def putAll : List (PyData × PyData) → List (PyData × PyData) → List (PyData × PyData) := List.foldl fun a p => putN a p.1 p.2
theorem putN_len (ps : List (PyData × PyData)) (y d : PyData) : (putN ps y d).length ≤ ps.length + 1 := by
  unfold putN
  split <;> simp
theorem wDcL_mp (I : Sls → Prop) (en ky vl : α → PyData) {Q : List (PyData × PyData) → Sls → Prop} : ∀ (as : List α) (acc : List (PyData × PyData)) (ρ : Sls),
    (∀ a ∈ as, ∀ ρ, I ρ → ∀ q : PyData → PyData → Sls → Prop, (∀ ρ', I ρ' → q (ky a) (vl a) ρ') → g (en a) (wipS ρ vs) fun ρ1 => wk ρ1 fun k ρ2 => wv ρ2 fun d ρ3 => q k d ρ3) →
    (∀ a ∈ as, isNK (ky a) = true) → acc.length + as.length ≤ sizeLine → I ρ → (∀ ρ', I ρ' → Q (putAll acc (as.map fun a => (ky a, vl a))) (backS ρ0 ρ' vs)) → wDcL g wYes wk wv vs ρ0 (as.map en) acc ρ Q
  | [], acc, ρ, _, _, _, hi, h => h ρ hi
  | a :: as, acc, ρ, stp, nk, hl, hi, h => by
    have key := stp a List.mem_cons_self ρ hi (fun k d ρ' => isNK k = true ∧ acc.length < sizeLine ∧ wDcL g wYes wk wv vs ρ0 (as.map en) (putN acc k d) ρ' Q) fun ρ' hi' => ⟨nk a List.mem_cons_self, by simp at hl; omega, ?_⟩
    · exact key
    · refine wDcL_mp I en ky vl as _ ρ' (fun b hb => stp b (List.mem_cons_of_mem _ hb)) (fun b hb => nk b (List.mem_cons_of_mem _ hb)) ?_ hi' h
      have := putN_len acc (ky a) (vl a)
      simp at hl ⊢
      omega
end
end DL
namespace DL
open PySem PySem.Spec PyProof.Rows L2
/-! ## dicts with deep keys as lists of pairs of plain values -/
section
variable {α β : Type} [DecidableEq α]
def getA (m : List (α × β)) (x : α) : Option β := (m.find? fun p => decide (p.1 = x)).map (·.2)
def putA (m : List (α × β)) (x : α) (v : β) : List (α × β) := if (getA m x).isSome = true then m.map (fun p => if p.1 = x then (p.1, v) else p) else m ++ [(x, v)]
theorem getA_map {m : List (α × β)} {x y : α} {v : β} : getA (m.map fun p => if p.1 = x then (p.1, v) else p) y = if x = y then (getA m x).map (fun _ => v) else getA m y := by
  induction m with
  | nil => simp [getA]
  | cons p m ih =>
    unfold getA at ih ⊢
    rw [List.map_cons, List.find?_cons, List.find?_cons, List.find?_cons]
    by_cases e : p.1 = x
    · by_cases q : x = y
      · simp [e, q]
      · simp [e, q] at ih ⊢
        exact ih
    · by_cases q : x = y
      · subst q
        simp [e] at ih ⊢
        exact ih
      · simp [e, q] at ih ⊢
        by_cases r : p.1 = y
        · simp [r]
        · simp [r]
          exact ih
theorem getA_putA {m : List (α × β)} {x y : α} {v : β} : getA (putA m x v) y = if x = y then some v else getA m y := by
  unfold putA
  split
  · rename_i h
    rw [getA_map]
    split
    · cases e : getA m x with
      | none => rw [e] at h; simp at h
      | some u => rfl
    · rfl
  · rename_i h
    unfold getA at h ⊢
    rw [List.find?_append]
    by_cases q : x = y
    · subst q
      cases e : m.find? fun p => decide (p.1 = x) with
      | none => simp
      | some u => rw [e] at h; simp at h
    · simp [q]
theorem putA_keys {m : List (α × β)} {x : α} {v : β} : (putA m x v).map (·.1) = if x ∈ m.map (·.1) then m.map (·.1) else m.map (·.1) ++ [x] := by
  have hk : (getA m x).isSome = decide (x ∈ m.map (·.1)) := by
    unfold getA
    rw [Option.isSome_map]
    refine Bool.eq_iff_iff.mpr ?_
    rw [List.find?_isSome]
    simp
  unfold putA
  rw [hk]
  by_cases q : x ∈ m.map (·.1)
  · rw [if_pos q, if_pos (by simpa using q), List.map_map]
    exact List.map_congr_left fun p _ => by
      show (if p.1 = x then (p.1, v) else p).1 = p.1
      split <;> rfl
  · rw [if_neg q, if_neg (by simpa using q), List.map_append]
    rfl
theorem putA_len (m : List (α × β)) (x : α) (v : β) : (putA m x v).length ≤ m.length + 1 := by
  unfold putA
  split <;> simp
/-- an encoding whose values may be keys -/
structure NKf (f : α → PyData) : Prop where
  nk : ∀ x, isNK (f x) = true
  inj : ∀ x y, f x = f y → x = y
theorem NKf.eqv {f : α → PyData} (h : NKf f) (x y : α) : PyData.eqv (f x) (f y) = decide (x = y) := by
  obtain ⟨ks, e, _⟩ := isNK_of (h.nk x)
  obtain ⟨ls, e2, _⟩ := isNK_of (h.nk y)
  by_cases q : x = y
  · subst q
    rw [e, eqv_nk]
    simp
  · have : ks ≠ ls := fun z => q (h.inj x y (by rw [e, e2, z]))
    rw [e, e2, eqv_nk]
    simp [q, this]
def mapN (f : α → PyData) (g : β → PyData) (m : List (α × β)) : List (PyData × PyData) := m.map fun p => (f p.1, g p.2)
@[simp] theorem mapN_nil {f : α → PyData} {g : β → PyData} : mapN f g [] = [] := rfl
@[simp] theorem mapN_len {f : α → PyData} {g : β → PyData} (m : List (α × β)) : (mapN f g m).length = m.length := by simp [mapN]
theorem lookN_mapN {f : α → PyData} {g : β → PyData} (h : NKf f) (m : List (α × β)) (x : α) : lookN (mapN f g m) (f x) = (getA m x).map g := by
  unfold lookN mapN getA
  rw [List.find?_map, Option.map_map, Option.map_map]
  have : ((fun p : PyData × PyData => PyData.eqv p.1 (f x)) ∘ fun p : α × β => (f p.1, g p.2)) = fun p => decide (p.1 = x) := funext fun p => h.eqv _ _
  rw [this]
  rfl
theorem putN_mapN {f : α → PyData} {g : β → PyData} (h : NKf f) (m : List (α × β)) (x : α) (v : β) : putN (mapN f g m) (f x) (g v) = mapN f g (putA m x v) := by
  unfold putN putA
  rw [lookN_mapN h, Option.isSome_map]
  split
  · unfold mapN
    rw [List.map_map, List.map_map]
    refine List.map_congr_left fun p _ => ?_
    show (if PyData.eqv (f p.1) (f x) = true then (f p.1, g v) else (f p.1, g p.2)) = (f (if p.1 = x then (p.1, v) else p).1, g (if p.1 = x then (p.1, v) else p).2)
    rw [h.eqv]
    by_cases q : p.1 = x
    · simp [q]
    · simp [q]
  · simp [mapN]
def putAs : List (α × β) → List (α × β) → List (α × β) := List.foldl fun a p => putA a p.1 p.2
theorem putAll_mapN {f : α → PyData} {g : β → PyData} (h : NKf f) : ∀ (ps m : List (α × β)), putAll (mapN f g m) (ps.map fun p => (f p.1, g p.2)) = mapN f g (putAs m ps)
  | [], m => rfl
  | p :: ps, m => by
    rw [List.map_cons]
    show putAll (putN (mapN f g m) (f p.1) (g p.2)) _ = _
    rw [putN_mapN h, putAll_mapN h ps]
    rfl
theorem getA_putAs : ∀ (ps m : List (α × β)) (x : α), (getA (putAs m ps) x).isSome = ((getA m x).isSome || decide (x ∈ ps.map (·.1)))
  | [], m, x => by simp [putAs]
  | p :: ps, m, x => by
    show (getA (putAs (putA m p.1 p.2) ps) x).isSome = _
    rw [getA_putAs ps, getA_putA]
    by_cases q : p.1 = x
    · simp only [q, if_true, Option.isSome_some, Bool.true_or, List.map_cons, List.mem_cons, true_or, decide_true, Bool.or_true]
    · have q' : ¬x = p.1 := fun z => q z.symm
      rw [if_neg q]
      simp only [List.map_cons, List.mem_cons, q', false_or]
end
/-! ### a kind, and what is held or None -/
def dko (p : Int × Option Int) : PyData := .tuple [.int p.1, dop p.2]
theorem dko_some (p : Int × Int) : dko (p.1, some p.2) = dpr p := rfl
theorem nk_dko : NKf dko := ⟨fun p => by
  obtain ⟨a, b⟩ := p
  cases b <;> rfl, fun p q e => by
  obtain ⟨a, b⟩ := p
  obtain ⟨c, d⟩ := q
  cases b <;> cases d <;> simp_all [dko, dop]⟩
/-- the pairs of a book, each True -/
theorem look_book (b : BM.Bk) (t : Int) (h : Option Int) : (lookN (putAll [] (b.map fun p => (dpr p, PyData.bool true))) (dko (t, h))).isSome = (match h with | none => false | some g => decide ((t, g) ∈ b)) := by
  have e : (b.map fun p => (dpr p, PyData.bool true)) = (b.map fun p => ((p.1, some p.2), ())).map fun p : (Int × Option Int) × Unit => (dko p.1, PyData.bool true) := by
    rw [List.map_map]
    rfl
  rw [e, show ([] : List (PyData × PyData)) = mapN dko (fun _ : Unit => PyData.bool true) [] from rfl, putAll_mapN nk_dko, lookN_mapN nk_dko, Option.isSome_map, getA_putAs]
  cases h with
  | none => simp [getA]
  | some g =>
    simp [getA]
end DL
namespace DL
open PySem PySem.Spec PyProof.Rows L2
/-- [y(a) for a in as if ..]: some of them, each with what it takes -/
theorem wLcL_sub {α : Type} {g : WG} {tt : WT} {te : WE} {vs : List Nat} {ρ0 : Sls} (I : Sls → Prop) (en y : α → PyData) (c : α → Prop) {Q : List PyData → Sls → Prop} : ∀ (as pre : List α) (ρ : Sls),
    (∀ a, a ∈ as → ∀ ρ, I ρ → ∀ k1 : PyData → Sls → Prop, ∀ k0 : Sls → Prop, (c a → ∀ ρ', I ρ' → k1 (y a) ρ') → (∀ ρ', I ρ' → k0 ρ') → g (en a) (wipS ρ vs) fun ρ1 => tt ρ1 fun c ρ2 => if c = true then te ρ2 k1 else k0 ρ2) →
    pre.length + as.length ≤ sizeLine → I ρ → (∀ bs ρ', List.Sublist bs as → (∀ b ∈ bs, c b) → I ρ' → Q ((pre ++ bs).map y) (backS ρ0 ρ' vs)) → wLcL g tt te vs ρ0 (as.map en) (pre.map y) ρ Q
  | [], pre, ρ, _, _, hi, h => by
    have := h [] ρ List.Sublist.slnil (by simp) hi
    rw [List.append_nil] at this
    exact this
  | a :: as, pre, ρ, stp, hl, hi, h => by
    have key := stp a List.mem_cons_self ρ hi (fun d ρ' => (pre.map y).length < sizeLine ∧ wLcL g tt te vs ρ0 (as.map en) (pre.map y ++ [d]) ρ' Q) (fun ρ' => wLcL g tt te vs ρ0 (as.map en) (pre.map y) ρ' Q) (fun ca ρ' hi' => ⟨by simp at hl ⊢; omega, ?_⟩) (fun ρ' hi' => ?_)
    · exact key
    · have e : pre.map y ++ [y a] = (pre ++ [a]).map y := by simp
      rw [e]
      refine wLcL_sub I en y c as (pre ++ [a]) ρ' (fun b hb => stp b (List.mem_cons_of_mem _ hb)) (by simp at hl ⊢; omega) hi' fun bs ρ2 sb cb hi2 => ?_
      have := h (a :: bs) ρ2 (sb.cons₂ a) (fun b hb => (List.mem_cons.mp hb).elim (fun e => e ▸ ca) (cb b)) hi2
      simpa using this
    · exact wLcL_sub I en y c as pre ρ' (fun b hb => stp b (List.mem_cons_of_mem _ hb)) (by simp at hl ⊢; omega) hi' fun bs ρ2 sb cb hi2 => h bs ρ2 (sb.cons a) cb hi2
/-- a list whose parts are encoded, in another order -/
theorem perm_map {α β : Type} {f : α → β} {b a : List β} (h : b.Perm a) : ∀ {xs : List α}, a = xs.map f → ∃ ys : List α, b = ys.map f ∧ ys.Perm xs := by
  induction h with
  | nil => intro xs e; cases xs with
    | nil => exact ⟨[], rfl, .nil⟩
    | cons x xs => cases e
  | cons x _ ih =>
    intro xs e
    cases xs with
    | nil => cases e
    | cons y ys =>
      rw [List.map_cons, List.cons.injEq] at e
      obtain ⟨zs, rfl, p⟩ := ih e.2
      exact ⟨y :: zs, by rw [e.1]; rfl, p.cons y⟩
  | swap x y l =>
    intro xs e
    match xs, e with
    | a :: b :: r, e =>
      simp only [List.map_cons, List.cons.injEq] at e
      obtain ⟨rfl, rfl, rfl⟩ := e
      exact ⟨b :: a :: r, rfl, .swap a b r⟩
  | trans _ _ ih1 ih2 =>
    intro xs e
    obtain ⟨ys, e1, p1⟩ := ih2 e
    obtain ⟨zs, e2, p2⟩ := ih1 e1
    exact ⟨zs, e2, p2.trans p1⟩
end DL
namespace DL
open PySem PySem.Spec PyProof.Rows L2
/-! ## [e for x in xs if .. for y in ys if ..] -/
def wInL (g : WG) (tt : WT) (te : WE) (vs : List Nat) : List PyData → List PyData → Sls → (List PyData → Sls → Prop) → Prop
  | [], acc, ρ, Q => Q acc ρ
  | y :: ys, acc, ρ, Q => g y (wipS ρ vs) fun ρ1 => tt ρ1 fun c ρ2 => if c = true then te ρ2 fun d ρ3 => acc.length < sizeLine ∧ wInL g tt te vs ys (acc ++ [d]) ρ3 Q else wInL g tt te vs ys acc ρ2 Q
def wLc2L (g : WG) (tt : WT) (wi1 : WI) (g1 : WG) (tt1 : WT) (te : WE) (vs vs1 : List Nat) (ρ0 : Sls) : List PyData → List PyData → Sls → (List PyData → Sls → Prop) → Prop
  | [], acc, ρ, Q => Q acc (backS ρ0 ρ vs)
  | x :: xs, acc, ρ, Q => g x (wipS ρ vs) fun ρ1 => tt ρ1 fun c ρ2 => if c = true then wi1 ρ2 fun ys ρ3 => wInL g1 tt1 te vs1 ys acc ρ3 fun acc' ρ4 => wLc2L g tt wi1 g1 tt1 te vs vs1 ρ0 xs acc' ρ4 Q else wLc2L g tt wi1 g1 tt1 te vs vs1 ρ0 xs acc ρ2 Q
@[simp] def wLc2 (wi : WI) (g : WG) (tt : WT) (wi1 : WI) (g1 : WG) (tt1 : WT) (te : WE) (vs vs1 : List Nat) : WE := fun ρ Q => wi ρ fun xs ρ1 => wLc2L g tt wi1 g1 tt1 te vs vs1 ρ1 xs [] ρ1 fun ds ρ' => Q (.list ds) ρ'
section
variable {g g1 : WG} {tt tt1 : WT} {te : WE} {wi wi1 : WI} {vs vs1 : List Nat} {ρ0 : Sls}
theorem mono_inL (mg : MonoG g) (mt : MonoT tt) (me : MonoE te) : ∀ (xs acc : List PyData) (ρ : Sls) (Q Q' : List PyData → Sls → Prop), (∀ ds ρ', Q ds ρ' → Q' ds ρ') → wInL g tt te vs xs acc ρ Q → wInL g tt te vs xs acc ρ Q'
  | [], acc, ρ, Q, Q', h, q => h _ _ q
  | x :: xs, acc, ρ, Q, Q', h, q => mg x _ _ _ (fun ρ1 q => mt ρ1 _ _ (fun c ρ2 q => by
    cases c with
    | true => exact me ρ2 _ _ (fun d ρ3 ⟨z, q⟩ => ⟨z, mono_inL mg mt me xs (acc ++ [d]) ρ3 Q Q' h q⟩) q
    | false => exact mono_inL mg mt me xs acc ρ2 Q Q' h q) q) q
theorem mono_lc2L (mg : MonoG g) (mt : MonoT tt) (mi1 : MonoI wi1) (mg1 : MonoG g1) (mt1 : MonoT tt1) (me : MonoE te) : ∀ (xs acc : List PyData) (ρ : Sls) (Q Q' : List PyData → Sls → Prop), (∀ ds ρ', Q ds ρ' → Q' ds ρ') → wLc2L g tt wi1 g1 tt1 te vs vs1 ρ0 xs acc ρ Q → wLc2L g tt wi1 g1 tt1 te vs vs1 ρ0 xs acc ρ Q'
  | [], acc, ρ, Q, Q', h, q => h _ _ q
  | x :: xs, acc, ρ, Q, Q', h, q => mg x _ _ _ (fun ρ1 q => mt ρ1 _ _ (fun c ρ2 q => by
    cases c with
    | true => exact mi1 ρ2 _ _ (fun ys ρ3 q => mono_inL mg1 mt1 me ys acc ρ3 _ _ (fun acc' ρ4 q => mono_lc2L mg mt mi1 mg1 mt1 me xs acc' ρ4 Q Q' h q) q) q
    | false => exact mono_lc2L mg mt mi1 mg1 mt1 me xs acc ρ2 Q Q' h q) q) q
theorem mono_lc2 (mi : MonoI wi) (mg : MonoG g) (mt : MonoT tt) (mi1 : MonoI wi1) (mg1 : MonoG g1) (mt1 : MonoT tt1) (me : MonoE te) : MonoE (wLc2 wi g tt wi1 g1 tt1 te vs vs1) :=
  fun ρ Q Q' h => mi ρ _ _ fun xs ρ1 q => mono_lc2L mg mt mi1 mg1 mt1 me xs [] ρ1 _ _ (fun ds ρ' q => h _ _ q) q
end
theorem wipe_sub {σ σ2 : L2.St} {vs vs1 : List Nat} (h : wipe σ vs1 = wipe σ2 vs1) (hs : ∀ i ∈ vs1, i ∈ vs) : wipe σ vs = wipe σ2 vs := by
  refine List.ext_getElem? fun j => ?_
  have l : σ.length = σ2.length := by
    have := congrArg List.length h
    rwa [wipe_length, wipe_length] at this
  by_cases hj : j ∈ vs
  · rw [wipe_in hj, wipe_in hj]
    by_cases q : j < σ.length
    · rw [List.getElem?_eq_getElem q, List.getElem?_eq_getElem (by omega)]
      rfl
    · rw [List.getElem?_eq_none (by omega), List.getElem?_eq_none (by omega)]
  · rw [wipe_out hj, wipe_out hj]
    have n1 : j ∉ vs1 := fun z => hj (hs j z)
    have : (wipe σ vs1)[j]? = (wipe σ2 vs1)[j]? := by rw [h]
    rwa [wipe_out n1, wipe_out n1] at this
theorem wipS_get2 {ρ : Sls} {i : Nat} {vs : List Nat} : (wipS ρ vs)[i]? = if i ∈ vs then ρ[i]?.map fun _ => .un else ρ[i]? := by
  induction vs with
  | nil => simp
  | cons v vs ih =>
    unfold wipS
    rw [List.getElem?_set, wipS_length]
    by_cases e : v = i
    · subst e
      rw [if_pos rfl, if_pos List.mem_cons_self]
      by_cases l : v < ρ.length
      · rw [if_pos l, List.getElem?_eq_getElem l]
        rfl
      · rw [if_neg l, List.getElem?_eq_none (by omega)]
        rfl
    · rw [if_neg e, ih]
      have : i ∈ v :: vs ↔ i ∈ vs := by
        rw [List.mem_cons]
        exact ⟨fun h => h.elim (fun z => absurd z.symm e) id, .inr⟩
      by_cases c : i ∈ vs
      · rw [if_pos c, if_pos (this.mpr c)]
      · rw [if_neg c, if_neg fun z => c (this.mp z)]
theorem wipS_wipS {ρ : Sls} {vs vs1 : List Nat} (hs : ∀ i ∈ vs1, i ∈ vs) : wipS (wipS ρ vs1) vs = wipS ρ vs := by
  refine List.ext_getElem? fun j => ?_
  rw [wipS_get2, wipS_get2, wipS_get2]
  by_cases hj : j ∈ vs
  · rw [if_pos hj, if_pos hj]
    by_cases h1 : j ∈ vs1
    · rw [if_pos h1, Option.map_map]
      rfl
    · rw [if_neg h1]
  · rw [if_neg hj, if_neg hj, if_neg fun z => hj (hs j z)]
theorem wipe_wipe {σ : L2.St} {vs vs1 : List Nat} (hs : ∀ i ∈ vs1, i ∈ vs) : wipe (wipe σ vs1) vs = wipe σ vs := by
  refine List.ext_getElem? fun j => ?_
  by_cases hj : j ∈ vs
  · rw [wipe_in hj, wipe_in hj]
    by_cases h1 : j ∈ vs1
    · rw [wipe_in h1, Option.map_map]
      rfl
    · rw [wipe_out h1]
  · rw [wipe_out hj, wipe_out hj, wipe_out fun z => hj (hs j z)]
/-- B left open -/
def anyI (R : Res) (K : PySem.W.Frag) (w : WI) : TI := fun σ H q => ∃ B, liftI R K B w σ H q
section
variable {R : Res} {X : Cx} {pos : Pos}
theorem SI.any {tg e : Expr} {w : WI} (h : SI R X tg e w) : PI X tg e (anyI R X.K w) := ⟨fun pins s σ H Q I ⟨B, q⟩ => (h.pi B).run pins s σ H Q I q⟩
theorem lc2_lift {K : PySem.W.Frag} {B : Bs} {wi wi1 : WI} {t t1 : TG} {g g1 : WG} {tt tt1 : WT} {te : WE} {is is1 vs vs1 : List Nat} {σ : L2.St} {H : Hp} {Q : VK} (mi : MonoI wi) (mt : MonoT tt) (mi1 : MonoI wi1) (mt1 : MonoT tt1) (me : MonoE te)
    (hg : ∀ (B : Bs) (ρ : Sls) (G : Hp) (σ : L2.St) (H : Hp) (v : V) (d : PyData) (q : L2.St → Hp → Prop), Rel R K B G ρ σ H → Is K G v d → (g d ρ fun ρ' => ∀ σ' G' H', Off is σ σ' → Sub G G' → Rel R K B G' ρ' σ' H' → q σ' H') → t v σ H q) (mg : MonoG g)
    (hg1 : ∀ (B : Bs) (ρ : Sls) (G : Hp) (σ : L2.St) (H : Hp) (v : V) (d : PyData) (q : L2.St → Hp → Prop), Rel R K B G ρ σ H → Is K G v d → (g1 d ρ fun ρ' => ∀ σ' G' H', Off is1 σ σ' → Sub G G' → Rel R K B G' ρ' σ' H' → q σ' H') → t1 v σ H q) (mg1 : MonoG g1)
    (his : ∀ i ∈ is, i ∈ vs) (his1 : ∀ i ∈ is1, i ∈ vs1) (hvs : ∀ i ∈ vs1, i ∈ vs) (h : liftF R K B (wLc2 wi g tt wi1 g1 tt1 te vs vs1) σ H Q) : tLc2 (liftI R K B wi) t (anyT R K tt) (anyI R K wi1) t1 (anyT R K tt1) (anyE R K te) vs vs1 σ H Q := by
  obtain ⟨ρ, G, r, h⟩ := h
  refine ⟨ρ, G, r, mi ρ _ _ (fun xs ρ1 q J G1 H1 s1 r1 j D nD => ?_) h⟩
  have g0 : B.G0 D = none := by
    cases z : B.G0 D with
    | none => rfl
    | some o =>
      have := r1.sub _ _ (r1.g0 _ _ z)
      rw [nD] at this
      cases this
  have nf : D ∉ B.fp := fun hb => (r1.fp0 D hb).2.2 nD
  let F : List PyData → Sls → Prop := fun ds ρ' => ∀ v G' H', Sub G G' → Rel R K B G' ρ' σ H' → IsNew R K B G' σ ρ' H' v (.list ds) → Q v H'
  let S : Nat → Hp → Prop := fun i H' => ∃ ρ' G' acc ds, Sub G1 G' ∧ Rel R K (B.wth D acc) G' (wipS ρ' vs) (wipe σ vs) H' ∧ Iss K G' acc ds ∧ wLc2L g tt wi1 g1 tt1 te vs vs1 ρ1 (xs.drop i) ds ρ' F
  refine ⟨fun i m H' => m = xs.length - i ∧ i ≤ xs.length ∧ S i H', ⟨xs.length, rfl, Nat.zero_le _, ρ1, G1, [], [], Same.refl G1, (r1.begin nD).wip, .nil, q⟩, ?_⟩
  rintro i m H2 ⟨rfl, hle, ρ2, G2, acc, ds, s2, r2, ha, k⟩
  by_cases hlt : i < xs.length
  · refine .inr ⟨j.go i H2 hlt (s2.trans r2.sub), S (i + 1), fun H' n => ⟨xs.length - (i + 1), by omega, rfl, hlt, n⟩, fun v H3 y => ?_⟩
    rw [List.drop_eq_getElem_cons hlt] at k
    -- one turn of the first clause
    have step : ∀ G3, Sub G2 G3 → Rel R K (B.wth D acc) G3 (wipS ρ2 vs) (wipe σ vs) H3 → Is K G3 v xs[i] → t v (wipe σ vs) H3 fun σ2 H2 => wipe σ2 vs = wipe σ vs ∧ anyT R K tt σ2 H2 fun b H3 =>
        if b = true then anyI R K wi1 σ2 H3 fun J1 H4 => ∃ W1 : Nat → Nat → Hp → Prop, (∃ m, W1 0 m H4) ∧ ∀ j k H, W1 j k H →
          (J1.stop j H ∧ S (i + 1) H) ∨ (J1.go j H ∧ ∃ Nx1 : Hp → Prop, (∀ H', Nx1 H' → ∃ k', k' < k ∧ W1 (j + 1) k' H') ∧ ∀ x H', J1.yld j H x H' → t1 x (wipe σ2 vs1) H' fun σ3 H5 => wipe σ3 vs1 = wipe σ2 vs1 ∧ anyT R K tt1 σ3 H5 fun b H6 =>
            if b = true then anyE R K te σ3 H6 fun y H7 => ∃ acc, H7 D = some (.lst acc) ∧ acc.length < sizeLine ∧ Nx1 (upd H7 D (.lst (acc ++ [y]))) else Nx1 H6)
        else S (i + 1) H3 := fun G3 s3 r3 i3 => by
      refine hg _ _ G3 _ H3 v _ _ r3 i3 (mg _ _ _ _ (fun ρ4 k4 σ4 G4 H4 off s4 r4 => ?_) k)
      have hw := wipe_same off his
      refine ⟨hw, B.wth D acc, ρ4, G4, r4, mt ρ4 _ _ (fun c ρ5 k5 G5 H5 s5 r5 => ?_) k4⟩
      have t5 : Sub G1 G5 := ((s2.trans s3).trans s4).trans s5
      cases c with
      | false =>
        refine ⟨ρ5, G5, acc, ds, t5, ?_, ha.mono ((s3.trans s4).trans s5), k5⟩
        have := r5.wip (vs := vs)
        rw [hw] at this
        exact this
      | true =>
        refine ⟨B.wth D acc, ρ5, G5, r5, mi1 ρ5 _ _ (fun ys ρ6 k6 J1 G6 H6 s6 r6 j1 => ?_) k5⟩
        let S1 : Nat → Hp → Prop := fun e H' => ∃ ρ' G' acc' ds', Sub G6 G' ∧ Rel R K (B.wth D acc') G' (wipS ρ' vs1) (wipe σ4 vs1) H' ∧ Iss K G' acc' ds' ∧ wInL g1 tt1 te vs1 (ys.drop e) ds' ρ' fun acc' ρ4 => wLc2L g tt wi1 g1 tt1 te vs vs1 ρ1 (xs.drop (i + 1)) acc' ρ4 F
        have ha6 := ha.mono (((s3.trans s4).trans s5).trans s6)
        refine ⟨fun e m H' => m = ys.length - e ∧ e ≤ ys.length ∧ S1 e H', ⟨ys.length, rfl, Nat.zero_le _, ρ6, G6, acc, ds, Same.refl G6, r6.wip, ha6, k6⟩, ?_⟩
        rintro e m2 H7 ⟨rfl, hle2, ρ7, G7, acc7, ds7, s7, r7, ha7, k7⟩
        by_cases hlt2 : e < ys.length
        · refine .inr ⟨j1.go e H7 hlt2 (s7.trans r7.sub), S1 (e + 1), fun H' n => ⟨ys.length - (e + 1), by omega, rfl, hlt2, n⟩, fun v2 H8 y2 => ?_⟩
          rw [List.drop_eq_getElem_cons hlt2] at k7
          have step1 : ∀ G8, Sub G7 G8 → Rel R K (B.wth D acc7) G8 (wipS ρ7 vs1) (wipe σ4 vs1) H8 → Is K G8 v2 ys[e] → t1 v2 (wipe σ4 vs1) H8 fun σ3 H5 => wipe σ3 vs1 = wipe σ4 vs1 ∧ anyT R K tt1 σ3 H5 fun b H6 =>
              if b = true then anyE R K te σ3 H6 fun y H7 => ∃ acc, H7 D = some (.lst acc) ∧ acc.length < sizeLine ∧ S1 (e + 1) (upd H7 D (.lst (acc ++ [y]))) else S1 (e + 1) H6 := fun G8 s8 r8 i8 => by
            refine hg1 _ _ G8 _ H8 v2 _ _ r8 i8 (mg1 _ _ _ _ (fun ρ9 k9 σ9 G9 H9 off9 s9 r9 => ?_) k7)
            have hw9 : wipe σ9 vs1 = wipe σ4 vs1 := wipe_same off9 his1
            refine ⟨hw9, B.wth D acc7, ρ9, G9, r9, mt1 ρ9 _ _ (fun c ρa ka Ga Ha sa ra => ?_) k9⟩
            have ta : Sub G6 Ga := ((s7.trans s8).trans s9).trans sa
            cases c with
            | false =>
              refine ⟨ρa, Ga, acc7, ds7, ta, ?_, ha7.mono ((s8.trans s9).trans sa), ka⟩
              have := ra.wip (vs := vs1)
              rw [hw9] at this
              exact this
            | true =>
              refine ⟨B.wth D acc7, ρa, Ga, ra, me ρa _ _ (fun d ρb kb u Gb Hb sb rb ib => ?_) ka⟩
              obtain ⟨z, kb⟩ := kb
              obtain ⟨hD, gD⟩ := rb.apart g0 nf
              refine ⟨acc7, hD, by rw [ha7.length]; exact z, ρb, Gb, acc7 ++ [u], ds7 ++ [d], ta.trans sb, ?_, (ha7.mono (((s8.trans s9).trans sa).trans sb)).append (.cons ib .nil), kb⟩
              have := (rb.turn g0 nf (acc7 ++ [u])).wip (vs := vs1)
              rw [hw9] at this
              exact this
          rcases j1.yld e H7 v2 H8 ys[e] (List.getElem?_eq_getElem hlt2) (s7.trans r7.sub) y2 with ⟨rfl, iv⟩ | ⟨T, vs', ds', nT, rfl, rfl, hv, ex⟩
          · exact step1 G7 (Same.refl G7) r7 (iv.mono s7)
          · have sg : Sub G7 (upd G7 T (.tup vs')) := upd_new (r7.sub.free nT)
            refine step1 _ sg (r7.laid nT) ?_
            rw [ex]
            exact .tup (.inl (.inl upd_same)) (hv.mono (s7.trans sg))
        · have e2 : e = ys.length := by omega
          subst e2
          rw [List.drop_length] at k7
          refine .inl ⟨j1.stop H7 (s7.trans r7.sub), ρ7, G7, acc7, ds7, (t5.trans s6).trans s7, ?_, ha7, k7⟩
          have := r7.wip (vs := vs)
          rw [wipS_wipS hvs, wipe_wipe hvs, hw] at this
          exact this
    rcases j.yld i H2 v H3 xs[i] (List.getElem?_eq_getElem hlt) (s2.trans r2.sub) y with ⟨rfl, iv⟩ | ⟨T, vs', ds', nT, rfl, rfl, hv, ex⟩
    · exact step G2 (Same.refl G2) r2 (iv.mono s2)
    · have sg : Sub G2 (upd G2 T (.tup vs')) := upd_new (r2.sub.free nT)
      refine step _ sg (r2.laid nT) ?_
      rw [ex]
      exact .tup (.inl (.inl upd_same)) (hv.mono (s2.trans sg))
  · have e : i = xs.length := by omega
    subst e
    rw [List.drop_length] at k
    obtain ⟨r3, n3⟩ := Rel.over r1 s2 nD r2 ha
    exact .inl ⟨j.stop H2 (s2.trans r2.sub), k _ G2 H2 (s1.trans s2) r3 n3⟩
/-- the pieces of such a comprehension, in its block -/
structure Lc2 (R : Res) (X : Cx) (scope : Scope) (tg : Expr) (ifs : List Expr) (tg1 iter1 : Expr) (ifs1 : List Expr) (elt : Expr) (t : TG) (g : WG) (tt : WT) (wi1 : WI) (t1 : TG) (g1 : WG) (tt1 : WT) (te : WE) (is is1 : List Nat) : Prop where
  hg : ∀ (s : Shared) (H : Hp) (C : Addr) (cl : List (Str × Addr)) (fp : List Addr), SG R (X.blk s H scope (compEnvC scope cl C X.env) fp) tg t g is
  ht : ∀ (s : Shared) (H : Hp) (C : Addr) (cl : List (Str × Addr)) (fp : List Addr), STs R (X.blk s H scope (compEnvC scope cl C X.env) fp) ifs tt
  hi1 : ∀ (s : Shared) (H : Hp) (C : Addr) (cl : List (Str × Addr)) (fp : List Addr), SI R (X.blk s H scope (compEnvC scope cl C X.env) fp) tg1 iter1 wi1
  hg1 : ∀ (s : Shared) (H : Hp) (C : Addr) (cl : List (Str × Addr)) (fp : List Addr), SG R (X.blk s H scope (compEnvC scope cl C X.env) fp) tg1 t1 g1 is1
  ht1 : ∀ (s : Shared) (H : Hp) (C : Addr) (cl : List (Str × Addr)) (fp : List Addr), STs R (X.blk s H scope (compEnvC scope cl C X.env) fp) ifs1 tt1
  he : ∀ (s : Shared) (H : Hp) (C : Addr) (cl : List (Str × Addr)) (fp : List Addr), SE R (X.blk s H scope (compEnvC scope cl C X.env) fp) elt te
section
variable {elt tg iter tg1 iter1 : Expr} {ifs ifs1 : List Expr} {scope : Scope} {own : List (Str × Nat)} {wi wi1 : WI} {t t1 : TG} {g g1 : WG} {tt tt1 : WT} {te : WE} {is is1 vs1 : List Nat}
theorem Lc2.mono (h : Lc2 R X scope tg ifs tg1 iter1 ifs1 elt t g tt wi1 t1 g1 tt1 te is is1) {vs : List Nat} (mi : MonoI wi) : MonoE (wLc2 wi g tt wi1 g1 tt1 te vs vs1) :=
  mono_lc2 mi (h.hg sh0 (fun _ => none) 0 [] []).mono (h.ht sh0 (fun _ => none) 0 [] []).mono (h.hi1 sh0 (fun _ => none) 0 [] []).mono (h.hg1 sh0 (fun _ => none) 0 [] []).mono (h.ht1 sh0 (fun _ => none) 0 [] []).mono (h.he sh0 (fun _ => none) 0 [] []).mono
theorem sf_lc2 (hc : X.calm = true) (hN : X.N.Nodup) (hi : SI R X tg iter wi) (ok : BlkOk X.N X.env.scope scope own) (h : Lc2 R X scope tg ifs tg1 iter1 ifs1 elt t g tt wi1 t1 g1 tt1 te is is1) (his : ∀ i ∈ is, i ∈ own.map (·.2)) (his1 : ∀ i ∈ is1, i ∈ vs1) (hvs : ∀ i ∈ vs1, i ∈ own.map (·.2))
    (hs : ∀ x, foldedSetIterable iter X.env x = pure x := by intro _; rfl) (hs1 : ∀ env x, foldedSetIterable iter1 env x = pure x := by intro _ _; rfl) :
    SF R X (.ListComp elt [⟨tg, iter, ifs, 0⟩, ⟨tg1, iter1, ifs1, 0⟩] scope pos) (wLc2 wi g tt wi1 g1 tt1 te (own.map (·.2)) vs1) :=
  ⟨fun B => PE.imp (pe_lc2 hc hN (hi.pi B) ok hvs (fun s H C cl fp => (h.hg s H C cl fp).pg) (fun s H C cl fp => (h.ht s H C cl fp).any) (fun s H C cl fp => (h.hi1 s H C cl fp).any) (fun s H C cl fp => (h.hg1 s H C cl fp).pg) (fun s H C cl fp => (h.ht1 s H C cl fp).any) (fun s H C cl fp => (h.he s H C cl fp).any) hs hs1)
    fun σ H Q q => lc2_lift hi.mono (h.ht sh0 (fun _ => none) 0 [] []).mono (h.hi1 sh0 (fun _ => none) 0 [] []).mono (h.ht1 sh0 (fun _ => none) 0 [] []).mono (h.he sh0 (fun _ => none) 0 [] []).mono (h.hg sh0 (fun _ => none) 0 [] []).to (h.hg sh0 (fun _ => none) 0 [] []).mono (h.hg1 sh0 (fun _ => none) 0 [] []).to (h.hg1 sh0 (fun _ => none) 0 [] []).mono his his1 hvs q, h.mono hi.mono⟩
/-- name = [..] on one line -/
theorem ss_setLc2 {i : Nat} {y : Str} {py spos : Pos} (hc : X.calm = true) (hN : X.N.Nodup) (hy : X.N[i]? = some y) (hyl : X.env.scope.names.lookup y = some .local) (hsw : swapsWith (.ListComp elt [⟨tg, iter, ifs, 0⟩, ⟨tg1, iter1, ifs1, 0⟩] scope pos) (some (.Name y py)) spos.line X.env = pure true)
    (hi : SI R X tg iter wi) (ok : BlkOk X.N X.env.scope scope own) (h : Lc2 R X scope tg ifs tg1 iter1 ifs1 elt t g tt wi1 t1 g1 tt1 te is is1) (his : ∀ i ∈ is, i ∈ own.map (·.2)) (his1 : ∀ i ∈ is1, i ∈ vs1) (hvs : ∀ i ∈ vs1, i ∈ own.map (·.2))
    (hs : ∀ x, foldedSetIterable iter X.env x = pure x := by intro _; rfl) (hs1 : ∀ env x, foldedSetIterable iter1 env x = pure x := by intro _ _; rfl) :
    SS R X (.Assign [.Name y py] (.ListComp elt [⟨tg, iter, ifs, 0⟩, ⟨tg1, iter1, ifs1, 0⟩] scope pos) spos) (wSetO i (wLc2 wi g tt wi1 g1 tt1 te (own.map (·.2)) vs1)) :=
  ⟨fun B => PS.imp (ps_setLc2 hc hN hy hyl hsw (hi.pi B) ok hvs (fun s H C cl fp => (h.hg s H C cl fp).pg) (fun s H C cl fp => (h.ht s H C cl fp).any) (fun s H C cl fp => (h.hi1 s H C cl fp).any) (fun s H C cl fp => (h.hg1 s H C cl fp).pg) (fun s H C cl fp => (h.ht1 s H C cl fp).any) (fun s H C cl fp => (h.he s H C cl fp).any) hs hs1)
    fun D σ H ⟨ρ, G, r, q⟩ => lc2_lift hi.mono (h.ht sh0 (fun _ => none) 0 [] []).mono (h.hi1 sh0 (fun _ => none) 0 [] []).mono (h.ht1 sh0 (fun _ => none) 0 [] []).mono (h.he sh0 (fun _ => none) 0 [] []).mono (h.hg sh0 (fun _ => none) 0 [] []).to (h.hg sh0 (fun _ => none) 0 [] []).mono (h.hg1 sh0 (fun _ => none) 0 [] []).to (h.hg1 sh0 (fun _ => none) 0 [] []).mono his his1 hvs ⟨ρ, G, r, (h.mono hi.mono) ρ _ _ (fun d ρ' q v G' H' s r' n => q _ G' H' s (r'.setO n)) q⟩, mono_setO (h.mono hi.mono)⟩
end
end
end DL
namespace DL
open PySem PySem.Spec PyProof.Rows L2
/-! ## any, all of a list of bools -/
@[simp] def anyD : D1 := fun x q => ∃ bs : List Bool, x = .list (bs.map PyData.bool) ∧ q (.bool (bs.any id))
@[simp] def allD : D1 := fun x q => ∃ bs : List Bool, x = .list (bs.map PyData.bool) ∧ q (.bool (bs.all id))
theorem Iss.boolsV {K : PySem.W.Frag} {G : Hp} : ∀ {ys : List Bool} {vs : List V}, Iss K G vs (ys.map PyData.bool) → vs = ys.map V.bl
  | [], _, h => by cases h; rfl
  | y :: ys, _, h => by
    cases h with
    | cons h1 h2 =>
      cases h1
      rw [Iss.boolsV h2]
      rfl
section
variable {R : Res} {K : PySem.W.Frag}
theorem lk_any : Lk1 R K (fun v H Q => rAny K [v] H Q) anyD := by
  refine ⟨fun B G ρ σ H v x Q r hx h => ?_, fun x q q' hq ⟨bs, e, h⟩ => ⟨bs, e, hq _ h⟩⟩
  obtain ⟨bs, e, q⟩ := h
  subst e
  cases hx
  rename_i a vs sa ha
  rw [ha.boolsV] at sa
  exact ⟨a, bs, rfl, .of sa, aft q r (.bl _)⟩
theorem lk_all : Lk1 R K (fun v H Q => rAll K [v] H Q) allD := by
  refine ⟨fun B G ρ σ H v x Q r hx h => ?_, fun x q q' hq ⟨bs, e, h⟩ => ⟨bs, e, hq _ h⟩⟩
  obtain ⟨bs, e, q⟩ := h
  subst e
  cases hx
  rename_i a vs sa ha
  rw [ha.boolsV] at sa
  exact ⟨a, bs, rfl, .of sa, aft q r (.bl _)⟩
end
/-! ## tuple(range(n)) -/
@[simp] def wTupRg (w : WE) : WE := fun ρ Q => w ρ fun d ρ' => ∃ n, d = .int n ∧ 0 ≤ n ∧ n ≤ 16777216 ∧ Q (.tuple (rngD 0 n.toNat)) ρ'
theorem se_tupRg {R : Res} {X : Cx} {e : Expr} {w : WE} {p p2 pos pos2 : Pos} (hc : X.calm = true) (hg : Gl X "tuple") (hm : X.mg "tuple" = none) (hg2 : Gl X "range") (hm2 : X.mg "range" = none) (he : SE R X e w)
    (na : starEach [e] X.env = (false, eval e X.env) :: starEach [] X.env := by rfl) : SE R X (.Call (.Name "tuple" p) [.Call (.Name "range" p2) [e] [] pos2] [] pos) (wTupRg w) := by
  refine ⟨fun B => PE.imp (pe_tupRg hc hg hm (prg_1 hg2 hm2 (he.pe B) na)) fun σ H Q ⟨ρ, G, r, q⟩ => ⟨ρ, G, r, he.mono ρ _ _ (fun d ρ' ⟨n, e, h0, h1, q⟩ v G' H' s r' i => ?_) q⟩, fun ρ Q Q' hq => he.mono ρ _ _ fun d ρ' ⟨n, e, h0, h1, q⟩ => ⟨n, e, h0, h1, hq _ _ q⟩⟩
  subst e
  cases i
  exact ⟨n, rfl, RgOk.of_le (Int.le_refl _) h1 (by decide) h0, fun p np => q _ _ _ (s.trans (upd_new (r'.sub.free np))) (r'.laid np) (.tup (.inl (.inl upd_same)) (Iss.mono (upd_new (r'.sub.free np)) (iss_rng n)))⟩
/-! ## xs.index(k), xs a list of ints that has k -/
section
variable {X : Cx} {o e : Expr} {apos cpos : Pos} {td ty : TE}
def rLIx (K : PySem.W.Frag) : V → V → Hp → VK → Prop := fun x y H Q => ∃ (a : Addr) (ns : List Int) (k : Int), x = .ref a ∧ y = .int k ∧ SqL K H a (ns.map V.int) ∧ k ∈ ns ∧ Q (.int (ns.idxOf k : Nat)) H
theorem pe_lix (ho : PE X o td) (he : PE X e ty) (m : M1 X o "index" apos e cpos) : PE X (.Call (.Attribute o "index" apos) [e] [] cpos)
    (fun σ H Q => td σ H fun x H1 => (∃ a vs, x = .ref a ∧ SqL X.K H1 a vs) ∧ ty σ H1 fun y H2 => rLIx X.K x y H2 Q) := by
  refine ⟨fun pins s σ H Q I h => ?_⟩
  refine wpAny_Call_method m.base m.few m.line PySem.F.plainAttrs_list PySem.F.slot_list_index PySem.F.type_list_index (thn (ho.run pins s σ H _ I h) fun u s1 ⟨x, H1, I1, rx, ⟨a, vs, ex, et⟩, q1⟩ => ?_)
  subst ex
  obtain rfl : u = Value.ref a := rx
  obtain ⟨its, rv, pl, hz⟩ := I1.list et
  obtain ⟨ob, n, g1, g2, g3, g4⟩ := pl
  refine ⟨⟨_, g1, g2⟩, fun b e => by cases e; exact ⟨_, g1, g3⟩, ?_⟩
  rw [m.trees]
  refine Calls.callWith_builtin rfl (Calls.evalArgs_plain (Calls.spliced_cons (thn (he.run pins s1 σ H1 _ I1 q1) fun iv s2 ⟨y, H2, I2, ry, a', ns, k, ex, ey, et2, hk, q2⟩ => Calls.spliced_nil ?_)))
  subst ey
  cases ex
  obtain ⟨t, rfl⟩ := ry
  obtain ⟨its2, rv2, pl2, hz2⟩ := I2.list et2
  refine SeqAt.list_index_ints (vs := its2) pl2.isList (by simpa using rv2.ints) (by simpa using hz2) hk ?_
  exact ⟨.int (ns.idxOf k : Nat), H2, I2.tok _, ⟨_, rfl⟩, q2⟩
end
end DL
namespace DL
open PySem PySem.Spec PyProof.Rows L2
/-! ## defs from which an own exception leaves -/
def Res.withX (R : Res) (W : Value → Option Addr → L2.St → Hp → Prop) : Res := ⟨R.ok, R.loc, R.there, R.rd, W⟩
/-- what __init__(self, f) with self.f = f does -/
def spIni (K : PySem.W.Frag) (f : Str) : Sp := fun vs H Q _ => ∃ (a C : Addr) (v : V), vs = [.ref a, v] ∧ OexC K C ∧ PySem.W.findIn K (.ref C) f = some none ∧ H a = some (exo a C none) ∧
  ∀ dx, H dx = none → dx ≠ a → Q .non (upd (upd H dx (exd dx [(f, v)])) a (exo a C (some dx)))
section
variable {R : Res} {X : Cx} {x f : Str} {e : Expr} {w : WE} {C fI : Addr} {fd : FuncData} {k : Nat} {p pos pos2 : Pos} {self : Str}
@[simp] def wRaise (C : Addr) (f : Str) (w : WE) : WS := fun D ρ => w ρ fun d _ => D.rt (exn C [(f, d)])
theorem ss_raise1 (T : OexC X.K C) (iC : PySem.W.findIn X.K (.ref C) "__init__" = some (some (.ref fI))) (tI : PySem.W.typeIn X.K (.ref fI) = some (.type "function")) (nf : PySem.W.findIn X.K (.ref C) f = some none)
    (F1 : FnOk X.prog X.w X.K X.mg X.base CX0 k fI fd [self, f] (spIni X.K f)) (hr : Room (k + 1) X.A) (hb : Binds X.K fd [self, f] []) (hg : Gl X x) (hm : X.mg x = some (.ref C)) (hc : X.calm = true) (tk : Takes X R.xw) (he : SE R X e w)
    (hdb : (x == ("__debug__" : Str)) = false := by decide) (hs : starEach [e] X.env = (false, eval e X.env) :: starEach [] X.env := by rfl) (hpl : (backTo pos (starEach [] X.env)).any (·.1) = false := by rfl) :
    SS R X (.Raise (some (.Call (.Name x p) [e] [] pos)) none pos2) (wRaise C f w) := by
  refine ⟨fun B => PS.imp (ps_raise hc tk (pmk_oex T iC tI F1 hr hb .nil pass0 hg hm (pa_cons (he.pe B) pa_nil hs) hdb hs hpl)) fun D σ H ⟨ρ, G, r, q⟩ => ?_, fun D D' ρ l => he.mono ρ _ _ fun d _ q => l.rt _ q⟩
  refine ⟨ρ, G, r, he.mono ρ _ _ (fun d ρ' q v G1 H1 s1 r1 i1 => ?_) q⟩
  refine ⟨by simp, fun a na => ⟨a, C, v, rfl, T, nf, upd_same, fun dx ndx ne => ⟨rfl, dx, [(f, v)], upd_same, ?_, ?_, ?_⟩⟩⟩
  · rw [upd_ne ne, upd_same]
  · rw [upd_ne ne] at ndx
    exact ndx
  · have n1 : H1 dx = none := by
      rw [upd_ne ne] at ndx
      exact ndx
    have e1 : upd (del (upd (upd (upd H1 a (exo a C none)) dx (exd dx [(f, v)])) a (exo a C (some dx))) a) dx (.xd [(f, v)]) = upd H1 dx (.xd [(f, v)]) := by
      funext b
      by_cases hb : b = dx
      · subst hb
        rw [upd_same, upd_same]
      · rw [upd_ne hb, upd_ne hb]
        by_cases ha : b = a
        · subst ha
          rw [del_same]
          exact na.symm
        · rw [del_ne ha, upd_ne ha, upd_ne hb, upd_ne ha]
    rw [e1]
    exact q.2 C [(f, d)] (some dx) ρ' σ G1 _ rfl s1 (r1.up n1) (.inr ⟨dx, _, rfl, upd_same, .cons ⟨rfl, i1⟩ .nil⟩)
end
/-! ### promises with such an exit -/
def spDX (R : Res) (K : PySem.W.Frag) (n : Nat) (S : Sd) : Sp := fun vs H Q E => vs.length = n ∧ ∃ (G : Hp) (as : List Sl) (la : Addr) (fp : List Addr), Sub G H ∧ ArgR K G la vs as ∧ (∀ b ∈ fp, G b = none ∧ H b ≠ none) ∧ (hasL as = true → R.ok H la fp) ∧
  S as fun d => (∀ v G' H', Left R K G H la fp (hasL as) G' H' → Is K G' v d → Q v H') ∧ ∀ c fs dx G' H', d = exn c fs → Left R K G H la fp (hasL as) G' H' → XAt K G' H' fs dx → E (.ref c) dx H'
theorem Left.withX {R : Res} {W : Value → Option Addr → L2.St → Hp → Prop} {K : PySem.W.Frag} {G H : Hp} {la : Addr} {fp : List Addr} {l : Bool} {G' H' : Hp} (h : Left R K G H la fp l G' H') : Left (R.withX W) K G H la fp l G' H' := ⟨h.g, h.h, h.new, h.fr, h.pf, h.lm⟩
theorem Left.noX {R : Res} {W : Value → Option Addr → L2.St → Hp → Prop} {K : PySem.W.Frag} {G H : Hp} {la : Addr} {fp : List Addr} {l : Bool} {G' H' : Hp} (h : Left (R.withX W) K G H la fp l G' H') : Left R K G H la fp l G' H' := ⟨h.g, h.h, h.new, h.fr, h.pf, h.lm⟩
section
variable {P : Program} {w : World} {K : PySem.W.Frag} {mg : Str → Option Value} {base : Heap} {k : Nat} {R : Res} {S : Sd}
/-- a def that others call keeps its promise where exceptions are asked for, too -/
theorem Def.withX {x : Str} {st : Stmt} {ps : List Str} (D : Def R P w K mg base k x st ps S) (W : Value → Option Addr → L2.St → Hp → Prop) : Def (R.withX W) P w K mg base k x st ps S := by
  obtain ⟨f, fd, F, G, m, b⟩ := D.ex
  exact ⟨D.mS, f, fd, F, G.imp fun vs H Q E ⟨h1, Gp, as, la, fp, a, b, c, d, q⟩ => ⟨h1, Gp, as, la, fp, a, b, c, d, D.mS as _ _ (fun d q v G' H' l i => q v G' H' l.withX i) q⟩, m, b⟩
theorem Rel.withX {B : Bs} {G : Hp} {ρ : Sls} {σ : L2.St} {H : Hp} {W : Value → Option Addr → L2.St → Hp → Prop} (r : Rel R K B G ρ σ H) : Rel (R.withX W) K B G ρ σ H := by
  obtain ⟨la, fp, q⟩ := r.l
  exact ⟨r.sub, r.len, r.g0, r.new, r.fr, r.fp0, r.d, r.s, r.o, la, fp, ⟨q.pl, q.ok, q.pf, q.tie⟩⟩
/-- THE RULE for a def from which an exception may leave -/
theorem gdX_of {x qual : Str} {st : Stmt} {f : Addr} {fd : FuncData} {N ps : List Str} (F : Fun K x qual st f fd) (Sc : FnScope N ps (defScope st))
    (hb : ∀ (cdv : Value) (A : Around) (outer : List PySem.Env) (s : Shared) (H : Hp) (E : XK), (A.deeper (envOfC qual (defScope st) s.heap.objs.size f cdv)).guards = some [] → Room k (A.deeper (envOfC qual (defScope st) s.heap.objs.size f cdv)) →
      ∃ ws, SSs (R.withX fun c d _ H => E c d H) (cxOf (L2.CX P w) P w K mg base N qual (defScope st) f cdv A outer s H E) (defBody st) ws ∧ ∀ as q, as.length = ps.length → S as q → ws (enD q) (entry N as)) :
    GFn P w K mg base (L2.CX P w) (k + 1) f fd ps (spDX R K ps.length S) := by
  obtain ⟨oc, od, kV, doc, pm, an, cdv, ct, osl, rfl, lk, hcd⟩ := F.ex
  refine gfn_of lk hcd Sc (fun vs H Q E h => h.1) fun A outer s H vs Q E hg hr h => ?_
  obtain ⟨ws, hws, hq⟩ := hb cdv A outer s H E hg hr
  obtain ⟨hn, G, as, la, fp, sg, ra, hf, hl, h⟩ := h
  have left : ∀ {ρ' : Sls} {σ' : L2.St} {G' H' : Hp}, Sub G G' → Rel (R.withX fun c d _ H => E c d H) K ⟨H, G, fp, la, hasL as⟩ G' ρ' σ' H' → Left R K G H la fp (hasL as) G' H' := fun s r =>
    ⟨s, r.sub, fun b h1 h2 => r.new b h1 h2, fun b o e hb => r.fr b o e hb, fun b hb => (r.fp0 b hb).2.2, fun hl => by
      obtain ⟨la', fp', q⟩ := r.l
      have z := q.ok (.inr hl)
      rw [(q.tie hl).1, (q.tie hl).2] at z
      exact z⟩
  refine ⟨_, hws.ps ⟨H, G, fp, la, hasL as⟩, entry N as, G, (Rel.entry sg ra hf hl).withX, ?_⟩
  refine hws.mono (enD fun d => (∀ v G' H', Left R K G H la fp (hasL as) G' H' → Is K G' v d → Q v H') ∧ ∀ c fs dx G' H', d = exn c fs → Left R K G H la fp (hasL as) G' H' → XAt K G' H' fs dx → E (.ref c) dx H') _ _
    ⟨fun ρ' q σ' G' H' s r => ?_, fun d q => ⟨fun v ρ' σ' G' H' s r i => ?_, fun c fs dx ρ' σ' G' H' e s r x => ?_⟩, fun _ q => False.elim q, fun _ q => False.elim q⟩ (hq as _ (by rw [← Paired.length ra]; exact hn) h)
  · exact q.1 _ G' H' (left s r) .non
  · exact q.1 v G' H' (left s r) i
  · exact q.2 c fs dx G' H' e (left s r) x
/-- a def that stands there and may let an exception out -/
structure DefX (R : Res) (P : Program) (w : World) (K : PySem.W.Frag) (mg : Str → Option Value) (base : Heap) (k : Nat) (x : Str) (st : Stmt) (ps : List Str) (S : Sd) : Prop where
  mS : MonoD S
  ex : ∃ f fd, Fun K x x st f fd ∧ GFn P w K mg base (L2.CX P w) k f fd ps (spDX R K ps.length S) ∧ mg x = some (.ref f) ∧ Binds K fd ps []
theorem DefX.up {x : Str} {st : Stmt} {ps : List Str} {j : Nat} (D : DefX R P w K mg base k x st ps S) (h : k ≤ j) : DefX R P w K mg base j x st ps S := by
  obtain ⟨f, fd, F, G, m, b⟩ := D.ex
  exact ⟨D.mS, f, fd, F, G.up h, m, b⟩
/-- where it lets none out -/
theorem DefX.def {x : Str} {st : Stmt} {ps : List Str} (D : DefX R P w K mg base k x st ps S) : Def R P w K mg base k x st ps (fun as q => S as fun d => (∀ c fs, d ≠ exn c fs) ∧ q d) := by
  obtain ⟨f, fd, F, G, m, b⟩ := D.ex
  refine ⟨fun as q q' h => D.mS as _ _ fun d ⟨n, z⟩ => ⟨n, h d z⟩, f, fd, F, ⟨fun vs H Q E h => h.1, fun A outer s H args us vs Q E g hr e0 hb r h => ?_⟩, m, b⟩
  obtain ⟨hn, Gp, as, la, fp, sg, ra, hf, hl, h⟩ := h
  refine codeAny_mono (G.go A outer s H args us vs Q (fun _ _ _ => False) g hr e0 hb r ⟨hn, Gp, as, la, fp, sg, ra, hf, hl, D.mS as _ _ (fun d ⟨n, q⟩ => ⟨q, fun c fs dx G' H' e _ _ => n c fs e⟩) h⟩) fun res s' q => ?_
  match res, q with
  | .ok (.ret u), q => exact q
  | .error e, q =>
    obtain ⟨a, B', H', cls, d, _, _, _, _, _, _, _, z⟩ := q
    exact z.elim
end
end DL
namespace DL
open PySem PySem.Spec PyProof.Rows L2
/-! ## calls whose exception is taken by a clause -/
section
variable {X : Cx} {CX : CXT} {k : Nat} {f : Addr} {fd : FuncData} {ps ks : List Str} {sp : Sp} {E : L2.St → XK} {x : Str} {p pos : Pos} {e : Expr} {es : List Expr} {kws : List Keyword} {t tk : TA}
theorem gfn_runAt {pins : List (Addr × Obj)} {σ : L2.St} {H : Hp} {s : Shared} {Q : VK} {E1 : XK} {args : Args} {us : List Value} {vs : List V} (F : GFn X.prog X.w X.K X.mg X.base CX k f fd ps sp) (hg : X.A.guards = some []) (hr : Room k X.A)
    (hb : BindsTo s fd args (ps.zip us)) (hx : PassesAt CX X σ E1) (I : Inv X pins σ H s) (r : Vals vs us) (h : sp vs H Q E1) : wpAny (model X.prog X.w) X.A (call (.ref f) args.pos args.kw) (EP X pins σ Q) X.xe s := by
  refine wpAny_call (codeAny_mono (F.go X.A X.stack s H args us vs Q E1 hg hr I.env0 hb r h) ?_)
  intro res s' q
  match res, q with
  | .error e, q => exact hx pins H s e s' I q
  | .ok (.ret u), q => exact I.after q
theorem ge_callS (F : GFn X.prog X.w X.K X.mg X.base CX k f fd ps sp) (hgd : X.A.guards = some []) (hr : Room k X.A) (hg : Gl X x) (hm : X.mg x = some (.ref f)) (hk : PySem.W.keepIn X.K (.ref f) = true) (hb : Binds X.K fd ps []) (hx : ∀ σ, PassesAt CX X σ (E σ))
    (ha : PA X (e :: es) t) (hdb : (x == ("__debug__" : Str)) = false := by decide) (he : starEach (e :: es) X.env = (false, eval e X.env) :: starEach es X.env := by rfl) (hpl : (backTo pos (starEach es X.env)).any (·.1) = false := by rfl) :
    PE X (.Call (.Name x p) (e :: es) [] pos) (tCallS sp E t) := by
  refine ⟨fun pins s σ H Q I h => wpAny_Call_Name_kw (ld_glob I hg hm ?_ hdb)⟩
  refine PySem.W.callWith_K (h₀ := X.base) I.ok.mod.kin hk (thn (ha.run pos pins s σ H _ I h) fun us s1 z => ?_) he hpl
  obtain ⟨vs, H1, I1, r, q⟩ := z
  have hl : us.length = ps.length := by rw [← r.length]; exact F.ar _ _ _ _ q
  have hbt := hb s1 us I1.kIn (by rw [List.append_nil]; exact hl)
  rw [List.append_nil] at hbt
  exact ⟨I1.kIn, gfn_runAt (args := ⟨us, []⟩) F hgd hr hbt (hx σ) I1 r q⟩
/-- f(n=b, ..) -/
def tCallKS (sp : Sp) (gV : List V → List V → List V) (E : L2.St → XK) (tk : TA) : TE := fun σ H Q => tk σ H fun zs H1 => sp (gV [] zs) H1 Q (E σ)
theorem ge_callK0S {g : List Value → List Value → List Value} {gV : List V → List V → List V} (F : GFn X.prog X.w X.K X.mg X.base CX k f fd ps sp) (hgd : X.A.guards = some []) (hr : Room k X.A) (hg : Gl X x) (hm : X.mg x = some (.ref f)) (hk : PySem.W.keepIn X.K (.ref f) = true)
    (hb : KBinds X.K fd ps ks g gV) (hx : ∀ σ, PassesAt CX X σ (E σ)) (hkw : PK X kws tk) (hall : (backToKw pos (keywordEach kws X.env)).all (·.1.isSome) = true := by rfl) (hks : (backToKw pos (keywordEach kws X.env)).filterMap (·.1) = ks := by rfl)
    (hdb : (x == ("__debug__" : Str)) = false := by decide) (hpl : ((backTo pos (starEach [] X.env)).any (·.1) || (backToKw pos (keywordEach kws X.env)).any (·.1.isNone)) = false := by rfl) : PE X (.Call (.Name x p) [] kws pos) (tCallKS sp gV E tk) := by
  refine ⟨fun pins s σ H Q I h => wpAny_Call_Name_kw (ld_glob I hg hm ?_ hdb)⟩
  refine PySem.W.callWith_KW0 (h₀ := X.base) I.ok.mod.kin hk hall (thn (hkw.run pos pins s σ H _ I h) fun ws s2 z => ?_) hpl
  obtain ⟨zs, H2, I2, rz, q⟩ := z
  rw [hks]
  have hl : (g [] ws).length = ps.length := by rw [← (hb.rel .nil rz).length]; exact F.ar _ _ _ _ q
  exact ⟨I2.kIn, gfn_runAt (args := ⟨[], ks.zip ws⟩) F hgd hr (hb.to s2 [] ws I2.kIn hl) (hx σ) I2 (hb.rel .nil rz) q⟩
end
/-! ## isinstance of what was caught, which has a dict -/
def rIsX (K : PySem.W.Frag) (D a : Addr) (cls : Value) (d : Option Addr) : List V → Hp → VK → Prop := fun xs H Q => cls = .ref D ∧ ∃ (c : V) (cv : Value) (b : Bool) (dd : Addr) (fs : List (Str × V)), xs = [.ref a, c] ∧ (∀ u, RelV c u → u = cv) ∧ PySem.W.kitOne K (.ref D) cv = some b ∧ d = some dd ∧ H dd = some (.xd fs) ∧ Q (.bl b) H
theorem call_isX {X : Cx} {a D : Addr} {cls : Value} {d : Option Addr} {oe : Obj} {pn : List (Addr × Obj)} (C : ExcC X.K D) (hcl : (PySem.W.clsIn X.K D).isSome = true) (hz : Zc cls d oe) (hf : ∃ vs, oe.data = .fields vs) : CallR (X.suite a ((a, oe) :: pn)) (.builtin "isinstance") (rIsX X.K D a cls d) := by
  intro pins s σ H xs us Q I r h
  obtain ⟨ecl, c, cv, b, dd, fs, rfl, hcv, e, ed, ea, q⟩ := h
  subst ecl
  cases r with
  | cons rx rr =>
    cases rr with
    | cons rt rr =>
      cases rr
      cases rx
      have ec := hcv _ rt
      subst ec
      subst ed
      obtain ⟨hget, _⟩ := I.pin (a, oe) (List.mem_append.mpr (.inl List.mem_cons_self))
      obtain ⟨vs, hv⟩ := hf
      have hx : ObjOk X.prog X.w H s.heap dd (.xd fs) := I.hok dd _ ea
      obtain ⟨mA, hns, hr⟩ := hx
      obtain ⟨od, ho, hl⟩ := lookIn_ns hns
      have J : PySem.W.InstAt s.heap a oe D (some od) := ⟨hget, hz.1, by unfold PySem.W.notCls; rw [hv] <;> rfl, by rw [hz.2]; exact ho⟩
      exact PySem.W.kia_one (PySem.W.kitx_exc hcl C.hg C.hk C.hs C.ha C.hn C.ht C.hm) I.kIn J e (fun z => nomatch z) fun tk => ⟨.bl b, H, I.kept (t' := tk) fun _ _ z => z, rfl, q⟩
end DL
namespace DL
open PySem PySem.Spec PyProof.Rows L2
/-- what the top has written of an own error x with one field f -/
structure XC (P : Program) (w : World) (K : PySem.W.Frag) (mg : Str → Option Value) (base : Heap) (x f : Str) (C : Addr) : Prop where
  T : OexC K C
  nf : PySem.W.findIn K (.ref C) f = some none
  gC : mg x = some (.ref C)
  ini : ∃ (fI : Addr) (fd : FuncData) (self : Str), PySem.W.findIn K (.ref C) "__init__" = some (some (.ref fI)) ∧ PySem.W.typeIn K (.ref fI) = some (.type "function") ∧ FnOk P w K mg base CX0 1 fI fd [self, f] (spIni K f) ∧ Binds K fd [self, f] []
  xf : XfC K C
  is : ExcC K C
  cl : (PySem.W.clsIn K C).isSome = true
  exm : PySem.W.exmOne K (.ref C) (.ref C) = some true
section
variable {R : Res} {X : Cx} {x f : Str} {e : Expr} {w : WE} {C : Addr} {k : Nat} {p pos pos2 : Pos}
theorem ss_raiseX (T : XC X.prog X.w X.K X.mg X.base x f C) (hr : Room k X.A) (h2 : 2 ≤ k) (hc : X.calm = true) (tk : Takes X R.xw) (hg : Gl X x) (he : SE R X e w)
    (hdb : (x == ("__debug__" : Str)) = false := by decide) (hs : starEach [e] X.env = (false, eval e X.env) :: starEach [] X.env := by rfl) (hpl : (backTo pos (starEach [] X.env)).any (·.1) = false := by rfl) :
    SS R X (.Raise (some (.Call (.Name x p) [e] [] pos)) none pos2) (wRaise C f w) := by
  obtain ⟨fI, fd, self, h1, h3, h4, h5⟩ := T.ini
  exact ss_raise1 T.T h1 h3 T.nf h4 (hr.mono h2) h5 hg T.gC hc tk he hdb hs hpl
end
theorem exn_inj {c c' : Addr} {fs fs' : List (Str × PyData)} (h : exn c fs = exn c' fs') : c = c' ∧ fs = fs' := by
  unfold exn at h
  injection h with h
  injection h with h1 h2
  have e1 : c = c' := by
    injection h1 with _ h1
    injection h1 with h1
    exact Int.ofNat_inj.mp h1
  refine ⟨e1, ?_⟩
  have inj : ∀ (xs ys : List (Str × PyData)), xs.map (fun p => (PyData.str p.1, p.2)) = ys.map (fun p => (PyData.str p.1, p.2)) → xs = ys := fun xs => by
    induction xs with
    | nil =>
      intro ys e
      cases ys with
      | nil => rfl
      | cons y ys => cases e
    | cons x xs ih =>
      intro ys e
      cases ys with
      | nil => cases e
      | cons y ys =>
        rw [List.map_cons, List.map_cons] at e
        injection e with e1 e2
        injection e1 with a b
        injection a with a
        rw [ih ys e2, Prod.ext a b]
  exact inj fs fs' h2
theorem Left.laid {R : Res} {K : PySem.W.Frag} {G H : Hp} {la : Addr} {fp : List Addr} {l : Bool} {G' H' : Hp} {p : Addr} {o : HO} (L : Left R K G H la fp l G' H') (np : H' p = none) : Left R K G H la fp l (upd G' p o) (upd H' p o) := by
  have gp : G' p = none := by
    cases z : G' p with
    | none => rfl
    | some q =>
      rw [L.h _ _ z] at np
      cases np
  have nfp : ∀ b ∈ fp, b ≠ p := fun b hb e => L.pf b hb (e ▸ np)
  have nH : H p = none := by
    cases z : H p with
    | none => rfl
    | some q =>
      by_cases hp : p ∈ fp
      · exact absurd rfl (nfp p hp)
      · rw [L.fr _ _ z hp] at np
        cases np
  refine ⟨L.g.trans (upd_new gp), fun b q e => ?_, fun b h1 h2 => ?_, fun b q e hb => ?_, fun b hb => ?_, fun hl => R.loc H' _ la fp (fun b hb => upd_ne (nfp b hb)) (L.lm hl)⟩
  · by_cases hb : b = p
    · subst hb
      rw [upd_same] at e ⊢
      exact e
    · rw [upd_ne hb] at e ⊢
      exact L.h _ _ e
  · have hb : b ≠ p := fun e => h1 (e ▸ nH)
    rw [upd_ne hb] at h2
    exact L.new b h1 h2
  · have hb' : b ≠ p := fun z => by
      subst z
      rw [nH] at e
      cases e
    rw [upd_ne hb']
    exact L.fr b q e hb
  · rw [upd_ne (nfp b hb)]
    exact L.pf b hb
theorem Isd.noD {K : PySem.W.Frag} {G : Hp} {kvs : List (Key × V)} {p : PyData × PyData} {ps : List (PyData × PyData)} (h : Isd K G kvs (p :: ps)) : p.1 ≠ .dict [] := by
  cases h with
  | @cons k _ _ _ _ _ _ => cases k <;> exact nofun
/-- no value is told so -/
theorem not_exn {K : PySem.W.Frag} {G : Hp} {v : V} {c : Addr} {fs : List (Str × PyData)} (h : Is K G v (exn c fs)) : False := by
  unfold exn at h
  cases h with
  | dct s hv => exact hv.noD rfl
end DL
namespace DL
open PySem PySem.Spec PyProof.Rows L2
/-- the j-th statement of a class's body -/
def mthS (st : Stmt) (j : Nat) : Stmt := match st with
  | .ClassDef (body := b) .. => b.getD j (.Pass ⟨0, 0, 0, 0⟩)
  | s => s
theorem exm_own {K : PySem.W.Frag} {C : Addr} (h1 : PySem.W.subIn K (.ref C) (.type "BaseException") = some true) (h2 : PySem.W.isClsIn K C = true) (h3 : PySem.W.typeIn K (.ref C) = some (.type "type")) (h4 : PySem.W.subIn K (.ref C) (.ref C) = some true) :
    PySem.W.exmOne K (.ref C) (.ref C) = some true := by
  have h2' : (PySem.W.clsIn K C).isSome = true := h2
  simp [PySem.W.exmOne, PySem.W.kitCls, h1, h2', h3, h4]
theorem kit_own {K : PySem.W.Frag} {C B : Addr} (h2 : PySem.W.isClsIn K B = true) (h3 : PySem.W.typeIn K (.ref B) = some (.type "type")) (h4 : PySem.W.subIn K (.ref C) (.ref B) = some true) : PySem.W.kitOne K (.ref C) (.ref B) = some true := by
  have h2' : (PySem.W.clsIn K B).isSome = true := h2
  unfold PySem.W.kitOne
  split
  · rfl
  · simp [PySem.W.kitCls, h2', h3, h4]
section
variable {P : Program} {w : World} {K : PySem.W.Frag} {mg : Str → Option Value} {base : Heap}
theorem xc_mk {x f self : Str} {C fI : Addr} {fd : FuncData} {nm q : Str} {N : Addr} {bs bm : List Value} {sn : List Str} {sub : List Value} {ab : Bool} {col : Option Bool} {dd : Option Addr} {m0 m1 m2 m3 m5 : Option Value}
    (gC : mg x = some (.ref C)) (xL : K.lookup C = some (excClassObj nm q C N bs bm true sn sub ab col dd m0 m1 m2 m3 m5 "ValueError.__new__")) (rv : PySem.HandSPX.refsVE bm = true)
    (sa : PySem.W.findIn K (.ref C) "__setattr__" = some (some (.builtin "object.__setattr__"))) (ga : PySem.W.findIn K (.ref C) "__getattribute__" = some (some (.builtin "BaseException.__getattribute__")))
    (gg : PySem.W.findIn K (.ref C) "__getattr__" = some none) (nf : PySem.W.findIn K (.ref C) f = some none) (ii : PySem.W.findIn K (.ref C) "__init__" = some (some (.ref fI))) (ti : PySem.W.typeIn K (.ref fI) = some (.type "function"))
    (F1 : FnOk P w K mg base CX0 1 fI fd [self, f] (spIni K f)) (b1 : Binds K fd [self, f] []) (kC : PySem.W.keepIn K (.ref C) = true) (eC : PySem.W.subIn K (.ref C) (.type "BaseException") = some true) (tC : PySem.W.typeIn K (.ref C) = some (.type "type"))
    (hC : PySem.W.hasDictIn K C = true) (iC : PySem.W.isClsIn K C = true) (sC : PySem.W.subIn K (.ref C) (.ref C) = some true) (ca : PySem.W.findIn K (.ref C) "__class__" = some (some (.builtin "object.__class__")))
    (cn : PySem.W.specialIn K (.builtin "object.__class__") "__get__" = some (some (.builtin "getset_descriptor.__get__"))) (ct : PySem.W.takesIn K (.builtin "object.__class__") = some true) (cm : PySem.W.mroIn K C (.type "object") = some true) :
    XC P w K mg base x f C :=
  ⟨⟨⟨nm, q, N, bs, bm, sn, sub, ab, col, dd, m0, m1, m2, m3, m5, xL, rv⟩, sa, eC, tC, kC⟩, nf, gC, ⟨fI, fd, self, ii, ti, F1, b1⟩, ⟨ga, gg, eC, hC⟩, ⟨ga, gg, eC, hC, ca, cn, ct, cm⟩, iC, exm_own eC iC tC sC⟩
end
end DL
namespace DL
open PySem PySem.Spec PyProof.Rows L2
/-! ## {e for ..} of numbers -/
section
variable {X : Cx} {pins : List (Addr × Obj)} {σ : L2.St} {H : Hp} {s : Shared}
theorem si_put {E : Value → Shared → Prop} {Q : Value → Shared → Prop} {D : Addr} {S : Int → Bool} {n : Nat} {k : Int} {t : Tok} (I : Inv X pins σ H s) (hD : H D = some (SetO X.w D S n)) (room : n + 1 < scanBound)
    (fin : ∀ s', Inv X pins σ (upd H D (SetO X.w D (fun j => S j || decide (j = k)) (if S k = true then n else n + 1))) s' → Q .none s') : wpAny (model X.prog X.w) X.A (call (.builtin "set.add") [.ref D, .int k t]) Q E s :=
  setR_add (setO_get I hD) room fun h' sb new => fin _ (I.write (e := D) (t' := s.toks + 1) (by rw [hD]; trivial) (.inl rfl) (fun b u hb hu => (sb.2 b hb).trans hu) (by obtain ⟨o, _, _, _, ho, _⟩ := id new; exact ⟨o, ho⟩) (setO_new new))
end
def SPut (w : World) (D : Addr) (N : Hp → Prop) (y : V) (H : Hp) : Prop :=
  ∃ k S n, y = .int k ∧ H D = some (SetO w D S n) ∧ n + 1 < scanBound ∧ N (upd H D (SetO w D (fun j => S j || decide (j = k)) (if S k = true then n else n + 1)))
def STurn (w : World) (D : Addr) (g : TG) (tt : TT) (te : TE) (vs : List Nat) (σ : L2.St) (N : Hp → Prop) (x : V) (H : Hp) : Prop :=
  g x (wipe σ vs) H fun ς H2 => wipe ς vs = wipe σ vs ∧ tt ς H2 fun c H3 => (c = true → te ς H3 fun y H4 => SPut w D N y H4) ∧ (c = false → N H3)
def tSci (w : World) (wi : TI) (g : TG) (tt : TT) (te : TE) (vs : List Nat) : TE := fun σ H Q => wi σ H fun J H1 => ∀ D, H1 D = none →
  ∃ P : Nat → Nat → Hp → Prop, (∃ m, P 0 m (upd H1 D (SetO w D (fun _ => false) 0))) ∧ ∀ i m H, P i m H →
    J.stop i H ∧ Q (.ref D) H ∨ J.go i H ∧ ∃ N : Hp → Prop, (∀ L, N L → ∃ k, k < m ∧ P (i + 1) k L) ∧ ∀ x L, J.yld i H x L → STurn w D g tt te vs σ N x L
section
variable {X : Cx} {elt tg iter : Expr} {ifs : List Expr} {scope : Scope} {own : List (Str × Nat)} {pos : Pos} {wi : TI} {g : TG} {tt : TT} {te : TE}
theorem run_sci {p2 : Pos} {pins : List (Addr × Obj)} {s : Shared} {σ : L2.St} {H : Hp} {Q : VK} {use : Option (Value → Sem Unit)} {Qf : Value → Shared → Prop} (hc : X.calm = true) (hN : X.N.Nodup) (hi : PI X tg iter wi) (ok : BlkOk X.N X.env.scope scope own)
    (pg : ∀ (s : Shared) (H : Hp) (C : Addr) (cl : List (Str × Addr)) (fp : List Addr), PG (X.blk s H scope (compEnvC scope cl C X.env) fp) tg g) (pt : ∀ (s : Shared) (H : Hp) (C : Addr) (cl : List (Str × Addr)) (fp : List Addr), PTs (X.blk s H scope (compEnvC scope cl C X.env) fp) ifs tt)
    (pe : ∀ (s : Shared) (H : Hp) (C : Addr) (cl : List (Str × Addr)) (fp : List Addr), PE (X.blk s H scope (compEnvC scope cl C X.env) fp) elt te)
    (hs : ∀ x, foldedSetIterable iter X.env x = pure x) (I : Inv X pins σ H s) (h : tSci X.w wi g tt te (own.map (·.2)) σ H Q)
    (hR : ∀ D C t m L, Inv X pins σ L t → Q (.ref D) L → t.heap.Ns C m → FpOk X pins L C → compPost (model X.prog X.w) X.A X.xe use Qf (.ref D) C (.ok .next) t) :
    wpAny (model X.prog X.w) X.A (comprehension (.SetComp elt [⟨tg, iter, ifs, 0⟩] scope pos) scope X.env p2 (newSet (.type "set")) false (eval iter X.env) use) Qf X.xe s := by
  have free : ∀ y ∈ scope.names, y.2 = .free → ∃ c, X.env.cells.lookup y.1 = some c := fun y hy e => I.ok.has _ (ok.free y hy e)
  refine wpAny_comprehension_free (use := use) rfl hs (closure_ok free) ok.kind (fun y hy e => by rw [ok.uniq y hy, e]) (thn (hi.run pins s σ H _ I h) fun u t1 hu1 => thn hu1 fun w t2 ⟨it, fp, tn, J, H2, ew, I2, T, st, ff, q⟩ => ?_)
  subst ew
  refine PpSet.newSet_ok (newEnv_comp ?_)
  generalize eD : t2.heap.objs.size = D
  obtain ⟨P, ⟨m0, p0⟩, turn⟩ := q D (I2.hok.fresh (Nat.le_of_eq eD))
  -- the empty set stands
  generalize e3 : ({ t2 with heap := t2.heap.push { cls := .type "set", dict := none, data := .set #[] 0 (.fresh 0 0 (!X.w.params.followText "set-order")) } } : Shared) = t3
  have J3 : Inv X pins σ (upd H2 D (SetO X.w D (fun _ => false) 0)) t3 := by
    subst e3 eD
    exact I2.laid (t' := t2.toks) (fun _ _ z => Heap.get?_push_of_some _ z) (Nat.le_refl _) (setO_new (setR_fresh X.w))
  have hp3 : t3.heap = t2.heap.push { cls := .type "set", dict := none, data := .set #[] 0 (.fresh 0 0 (!X.w.params.followText "set-order")) } := by subst e3; rfl
  have lt2 : ∀ b ∈ fp, b < t2.heap.objs.size := fun b hb => (T.obj _ _ st b hb).elim fun o z => Heap.lt_size z.1
  have fine : ∀ b ∈ fp, FpOk X pins (upd H2 D (SetO X.w D (fun _ => false) 0)) b ∧ b < t3.heap.objs.size := fun b hb => by
    have l := lt2 b hb
    have nd : b ≠ D := by rw [← eD]; exact Nat.ne_of_lt l
    refine ⟨⟨(upd_ne nd).trans (ff b hb).1, (ff b hb).2⟩, ?_⟩
    rw [hp3, Heap.size_push]
    exact Nat.lt_succ_of_lt l
  have st3 : tn 0 t3.heap := T.keep _ _ _ st fun b _ o z => by rw [hp3]; exact Heap.get?_push_of_some _ z
  have J4 := block_start J3 ok hN fine
  have bg := pg t3 (upd H2 D (SetO X.w D (fun _ => false) 0)) t3.heap.objs.size (cellsFrom (t3.heap.objs.size + 1) scope.names (cloFrom X.env.cells scope.names [])) fp
  have bt := pt t3 (upd H2 D (SetO X.w D (fun _ => false) 0)) t3.heap.objs.size (cellsFrom (t3.heap.objs.size + 1) scope.names (cloFrom X.env.cells scope.names [])) fp
  have be := pe t3 (upd H2 D (SetO X.w D (fun _ => false) 0)) t3.heap.objs.size (cellsFrom (t3.heap.objs.size + 1) scope.names (cloFrom X.env.cells scope.names [])) fp
  show codeAny _ _ (.compStart (.SetComp elt [⟨tg, iter, ifs, 0⟩] scope pos) 0 (.ref it) (.ref D) (compEnvC scope (cellsFrom (t3.heap.objs.size + 1) scope.names (cloFrom X.env.cells scope.names [])) t3.heap.objs.size X.env)) _
    { t3 with heap := pushCells (t3.heap.push { cls := .type "dict", data := .dict #[] }) scope.names }
  generalize ec : compEnvC scope (cellsFrom (t3.heap.objs.size + 1) scope.names (cloFrom X.env.cells scope.names [])) t3.heap.objs.size X.env = ce at J4 bg bt be ⊢
  have lc : ce.locals = t3.heap.objs.size := by subst ec; rfl
  have none3 : ∀ b ∈ fp, (upd H2 D (SetO X.w D (fun _ => false) 0)) b = none := fun b hb => (fine b hb).1.1
  generalize eH : upd H2 D (SetO X.w D (fun _ => false) 0) = H3 at J3 J4 bg bt be p0 none3 fine
  generalize e4 : ({ t3 with heap := pushCells (t3.heap.push { cls := .type "dict", data := .dict #[] }) scope.names } : Shared) = t4 at J4 ⊢
  have st4 : tn 0 t4.heap := T.keep _ _ _ st3 fun b _ o z => by subst e4; exact pushCells_keeps _ _ _ _ (Heap.get?_push_of_some _ z)
  have own' : ∀ {ς : L2.St} {L : Hp} {t : Shared}, Inv (X.blk t3 H3 scope ce fp) [] ς L t → (∀ b ∈ fp, L b = none) → ∀ b ∈ fp, FpOk (X.blk t3 H3 scope ce fp) [] L b := fun K nn b hb =>
    ⟨nn b hb, (K.ok.exf b hb).1, K.ok.exfs b hb, .inl hb, fun x c z => (K.ok.exf b hb).2 x c z, fun p hp => absurd (show p ∈ ([] : List (Addr × Obj)) ++ [] from hp) (by simp)⟩
  refine (fun loop => PpSet.codeAny_compStart_set loop (T.self X.A 0 _ _ _ st4 loop)) ?_
  refine PpSet.compLoopS_any (fun n t => ∃ i L, Inv (X.blk t3 H3 scope ce fp) [] (wipe σ (own.map (·.2))) L t ∧ tn i t.heap ∧ (∀ b ∈ fp, L b = none) ∧ P i n L) (fun n t5 ⟨i, L, K, sti, nn, pi⟩ => ?_) m0 ⟨0, H3, J4, st4, none3, p0⟩
  rcases turn i n L pi with ⟨stop, fin⟩ | ⟨go, N, hN', step⟩
  · refine thnF (T.done (X.blk t3 H3 scope ce fp) rfl rfl rfl hc i [] t5 _ L (fun _ _ => False) K (own' K nn) sti stop) fun r t6 ⟨hr, K6⟩ => ?_
    subst hr
    have back : Inv X pins σ L t6 := J3.call' (ch := fp) K6.os K6.base K6.hok K6.bare fun b hb => ⟨(fine b hb).1.2.2.2.1, (fine b hb).1.2.1, (fine b hb).1.2.2.2.2.1, (fine b hb).1.2.2.2.2.2⟩
    have free6 : L t3.heap.objs.size = none := lc ▸ (show L ce.locals = none from K6.free)
    obtain ⟨m, hn, _⟩ := K6.loc
    have hn : t6.heap.Ns t3.heap.objs.size m := lc ▸ (show t6.heap.Ns ce.locals m from hn)
    exact hR D t3.heap.objs.size t6 m L back fin hn (J3.fpOk (Nat.le_refl _) free6)
  · refine thnF (T.item (X.blk t3 H3 scope ce fp) rfl rfl rfl hc i [] t5 _ L (fun _ _ => False) K (own' K nn) sti go) fun r t6 ⟨u, hr, k6⟩ => ?_
    subst hr
    refine thnF k6 fun _ t7 ⟨x, L7, K7, r7, y7, st7, n7⟩ => ?_
    have K7' := K7.pinned (own' K7 n7) (T.obj _ _ st7)
    refine thnF (bg.run _ t7 _ L7 x u _ K7' r7 (step x L7 y7)) fun _ t8 ⟨ς, L8, K8, same, q8⟩ => ?_
    have last : ∀ {t : Shared} {L' : Hp}, Inv (X.blk t3 H3 scope ce fp) ([] ++ pinsAt fp t7.heap) ς L' t → N L' →
        ∃ m, m < n ∧ ∃ i L, Inv (X.blk t3 H3 scope ce fp) [] (wipe σ (own.map (·.2))) L t ∧ tn i t.heap ∧ (∀ b ∈ fp, L b = none) ∧ P i m L := fun {t L'} K' nx => by
      obtain ⟨k, hk, pk⟩ := hN' L' nx
      have pin : ∀ b ∈ fp, ∀ o, t7.heap.get? b = some o → t.heap.get? b = some o ∧ L' b = none := fun b hb o e => by
        have z := K'.pin (b, o) (List.mem_append_right _ (List.mem_append_right _ (mem_pinsAt hb e)))
        exact ⟨z.1, z.2.1⟩
      refine ⟨k, hk, i + 1, L', (K'.unpinned (pins := [])).weak (by rw [← same, wipe_length]) (fun j v e => (wipe_some (same ▸ e)).1), T.keep _ _ _ st7 fun b hb o e => (pin b hb o e).1, fun b hb => ?_, pk⟩
      obtain ⟨o, e, _⟩ := T.obj _ _ st7 b hb
      exact (pin b hb o e).2
    refine thnF (bt.run _ t8 ς L8 _ K8 q8) fun c t9 ⟨L9, K9, yes, no⟩ => ?_
    cases c with
    | false => exact last K9 (no rfl)
    | true =>
      refine thnF (be.run _ t9 ς L9 _ K9 (yes rfl)) fun z t10 ⟨y, L10, K10, r10, k, S, n0, ey, hD, hz, nx⟩ => ?_
      subst ey
      obtain ⟨t, rfl⟩ := r10
      exact si_put (X := X.blk t3 H3 scope ce fp) K10 hD hz fun t12 K12 => last K12 nx
/-- as a value -/
theorem pe_sci (hc : X.calm = true) (hN : X.N.Nodup) (hi : PI X tg iter wi) (ok : BlkOk X.N X.env.scope scope own)
    (pg : ∀ (s : Shared) (H : Hp) (C : Addr) (cl : List (Str × Addr)) (fp : List Addr), PG (X.blk s H scope (compEnvC scope cl C X.env) fp) tg g) (pt : ∀ (s : Shared) (H : Hp) (C : Addr) (cl : List (Str × Addr)) (fp : List Addr), PTs (X.blk s H scope (compEnvC scope cl C X.env) fp) ifs tt)
    (pe : ∀ (s : Shared) (H : Hp) (C : Addr) (cl : List (Str × Addr)) (fp : List Addr), PE (X.blk s H scope (compEnvC scope cl C X.env) fp) elt te) (hs : ∀ x, foldedSetIterable iter X.env x = pure x := by intro _; rfl) :
    PE X (.SetComp elt [⟨tg, iter, ifs, 0⟩] scope pos) (tSci X.w wi g tt te (own.map (·.2))) := by
  refine ⟨fun pins s σ H Q I h => ?_⟩
  rw [PpSet.eval_SetComp]
  refine run_sci (use := none) hc hN hi ok pg pt pe hs I h fun D C t m L K q hn f => ⟨m, hn, fun h2 sb => ?_⟩
  obtain ⟨f0, f1, f2, f3, f4, f5⟩ := f
  exact ⟨.ref D, L, K.turned (t' := t.toks) (fun b o hb z => (sb.2 b hb).trans z) f0 f1 f3 f4 f5, rfl, q⟩
end
end DL
namespace DL
open PySem PySem.Spec PyProof.Rows L2
/-! ## sorted({e for ..}) of numbers, over data -/
def wSiL (g : WG) (tt : WT) (we : WE) (vs : List Nat) (ρ0 : Sls) : List PyData → List Int → Sls → (List Int → Sls → Prop) → Prop
  | [], acc, ρ, Q => Q acc (backS ρ0 ρ vs)
  | x :: xs, acc, ρ, Q => g x (wipS ρ vs) fun ρ1 => tt ρ1 fun c ρ2 => if c = true then we ρ2 fun d ρ3 => ∃ k : Int, d = .int k ∧ 0 ≤ k ∧ k < 60 ∧ wSiL g tt we vs ρ0 xs (acc ++ [k]) ρ3 Q else wSiL g tt we vs ρ0 xs acc ρ2 Q
@[simp] def wSortSi (wi : WI) (g : WG) (tt : WT) (we : WE) (vs : List Nat) : WE := fun ρ Q => wi ρ fun xs ρ1 => wSiL g tt we vs ρ1 xs [] ρ1 fun ms ρ' => ∀ ns : List Int, ns.Pairwise (· < ·) → (∀ k, k ∈ ns ↔ k ∈ ms) → Q (.list (ns.map PyData.int)) ρ'
theorem mono_siL {g : WG} {tt : WT} {we : WE} {vs : List Nat} {ρ0 : Sls} (mg : MonoG g) (mt : MonoT tt) (me : MonoE we) : ∀ (xs : List PyData) (acc : List Int) (ρ : Sls) (Q Q' : List Int → Sls → Prop), (∀ ds ρ', Q ds ρ' → Q' ds ρ') →
    wSiL g tt we vs ρ0 xs acc ρ Q → wSiL g tt we vs ρ0 xs acc ρ Q'
  | [], acc, ρ, Q, Q', h, q => h _ _ q
  | x :: xs, acc, ρ, Q, Q', h, q => by
    refine mg _ _ _ _ (fun ρ1 q => mt _ _ _ (fun c ρ2 q => ?_) q) q
    cases c with
    | false => exact mono_siL mg mt me xs _ _ _ _ h q
    | true => exact me _ _ _ (fun d ρ3 ⟨k, e, a, b, q⟩ => ⟨k, e, a, b, mono_siL mg mt me xs _ _ _ _ h q⟩) q
theorem mono_sortSi {wi : WI} {g : WG} {tt : WT} {we : WE} {vs : List Nat} (mi : MonoI wi) (mg : MonoG g) (mt : MonoT tt) (me : MonoE we) : MonoE (wSortSi wi g tt we vs) :=
  fun ρ Q Q' h => mi ρ _ _ fun xs ρ1 q => mono_siL mg mt me xs [] ρ1 _ _ (fun ms ρ' q ns a b => h _ _ (q ns a b)) q
/-- the distinct ones of what has been put in -/
structure Dst (S : Int → Bool) (n : Nat) (acc : List Int) : Prop where
  s : ∀ k, S k = decide (k ∈ acc)
  r : ∀ k ∈ acc, 0 ≤ k ∧ k < 60
  d : ∃ ks : List Int, ks.Nodup ∧ (∀ k, k ∈ ks ↔ k ∈ acc) ∧ ks.length = n
theorem Dst.few {S : Int → Bool} {n : Nat} {acc : List Int} (h : Dst S n acc) : n < 64 := by
  obtain ⟨ks, nd, hk, rfl⟩ := h.d
  exact few_of nd fun k hk' => h.r k ((hk k).mp hk')
theorem Dst.put {S : Int → Bool} {n : Nat} {acc : List Int} (h : Dst S n acc) {k : Int} (a : 0 ≤ k) (b : k < 60) : Dst (fun j => S j || decide (j = k)) (if S k = true then n else n + 1) (acc ++ [k]) := by
  obtain ⟨ks, nd, hk, hn⟩ := h.d
  refine ⟨fun j => ?_, fun j hj => ?_, ?_⟩
  · rw [h.s j, Bool.eq_iff_iff]
    simp
  · rcases List.mem_append.mp hj with hj | hj
    · exact h.r j hj
    · rw [List.mem_singleton.mp hj]
      exact ⟨a, b⟩
  · by_cases c : k ∈ acc
    · refine ⟨ks, nd, fun j => ?_, ?_⟩
      · rw [hk j]
        simp
        intro e
        exact e ▸ c
      · rw [if_pos (by rw [h.s]; exact decide_eq_true c)]
        exact hn
    · refine ⟨k :: ks, List.nodup_cons.mpr ⟨fun z => c ((hk k).mp z), nd⟩, fun j => ?_, ?_⟩
      · rw [List.mem_cons, hk j]
        simp [or_comm]
      · rw [if_neg (by rw [h.s]; simpa using c), List.length_cons, hn]
section
variable {R : Res} {X : Cx} {pos : Pos}
/-- a cell aside stays aside -/
theorem Rel.overR {K : PySem.W.Frag} {B : Bs} {G G0' H0' H : Hp} {σ : L2.St} {D : Addr} {oo : HO} {ρ ρ0 : Sls} {vs : List Nat} (r0 : Rel R K B G0' ρ0 σ H0') (sg : Sub G0' G) (n0 : H0' D = none) (r : Rel R K (B.wthH D oo) G (wipS ρ vs) (wipe σ vs) H) (g0 : B.G0 D = none) (nf : D ∉ B.fp) :
    Rel R K B G (backS ρ0 ρ vs) σ H := by
  obtain ⟨hD, gD⟩ := r.apartH g0 nf
  obtain ⟨r3, n3⟩ := Rel.overH r0 sg n0 (r.turnH g0 nf (.lst [])) (.lst .nil)
  obtain ⟨p, ho, e, hp, _, r4, nf4, g4, h4⟩ := r3.aside n3
  cases e
  have r5 := r4.turnH g4 nf4 oo
  have e1 : upd (upd H D (.lst [])) D oo = H := by
    funext b
    by_cases hb : b = D
    · subst hb
      rw [upd_same, hD]
    · rw [upd_ne hb, upd_ne hb]
  rw [e1] at r5
  exact r5.unapart h4 nf4
theorem si_lift {w : World} {K : PySem.W.Frag} {B : Bs} {wi : WI} {t : TG} {g : WG} {tt : WT} {we : WE} {is vs : List Nat} {σ : L2.St} {H : Hp} {Q : VK} (mi : MonoI wi) (mt : MonoT tt) (me : MonoE we)
    (hg : ∀ (B : Bs) (ρ : Sls) (G : Hp) (σ : L2.St) (H : Hp) (v : V) (d : PyData) (q : L2.St → Hp → Prop), Rel R K B G ρ σ H → Is K G v d → (g d ρ fun ρ' => ∀ σ' G' H', Off is σ σ' → Sub G G' → Rel R K B G' ρ' σ' H' → q σ' H') → t v σ H q) (mg : MonoG g)
    (his : ∀ i ∈ is, i ∈ vs) (h : liftF R K B (wSortSi wi g tt we vs) σ H Q) : tSci w (liftI R K B wi) t (anyT R K tt) (anyE R K we) vs σ H fun x H1 => rSortedSet w [x] H1 Q := by
  obtain ⟨ρ, G, r, h⟩ := h
  refine ⟨ρ, G, r, mi ρ _ _ (fun xs ρ1 q J G1 H1 s1 r1 j D nD => ?_) h⟩
  have g0 : B.G0 D = none := by
    cases z : B.G0 D with
    | none => rfl
    | some o =>
      have := r1.sub _ _ (r1.g0 _ _ z)
      rw [nD] at this
      cases this
  have nf : D ∉ B.fp := fun hb => (r1.fp0 D hb).2.2 nD
  let P : Nat → Hp → Prop := fun i H' => ∃ ρ' G' S n acc, Sub G1 G' ∧ Rel R K (B.wthH D (SetO w D S n)) G' (wipS ρ' vs) (wipe σ vs) H' ∧ Dst S n acc ∧ wSiL g tt we vs ρ1 (xs.drop i) acc ρ' fun ms ρ' => ∀ ns : List Int, ns.Pairwise (· < ·) → (∀ k, k ∈ ns ↔ k ∈ ms) → ∀ v G' H', Sub G G' → Rel R K B G' ρ' σ H' → IsNew R K B G' σ ρ' H' v (.list (ns.map PyData.int)) → Q v H'
  refine ⟨fun i m H' => m = xs.length - i ∧ i ≤ xs.length ∧ P i H', ⟨xs.length, rfl, Nat.zero_le _, ρ1, G1, fun _ => false, 0, [], Same.refl G1, (r1.beginH (oo := SetO w D (fun _ => false) 0) nD).wip, ⟨fun k => by simp, by simp, [], by simp, by simp, rfl⟩, q⟩, ?_⟩
  rintro i m H2 ⟨rfl, hle, ρ2, G2, S, n, acc, s2, r2, ha, k⟩
  by_cases hlt : i < xs.length
  · refine .inr ⟨j.go i H2 hlt (s2.trans r2.sub), P (i + 1), fun H' n => ⟨xs.length - (i + 1), by omega, rfl, hlt, n⟩, fun v H3 y => ?_⟩
    rw [List.drop_eq_getElem_cons hlt] at k
    have step : ∀ G3, Sub G2 G3 → Rel R K (B.wthH D (SetO w D S n)) G3 (wipS ρ2 vs) (wipe σ vs) H3 → Is K G3 v xs[i] → STurn w D t (anyT R K tt) (anyE R K we) vs σ (P (i + 1)) v H3 := fun G3 s3 r3 i3 => by
      refine hg _ _ G3 _ H3 v _ _ r3 i3 (mg _ _ _ _ (fun ρ4 k4 σ4 G4 H4 off s4 r4 => ?_) k)
      have hw := wipe_same off his
      refine ⟨hw, B.wthH D (SetO w D S n), ρ4, G4, r4, mt ρ4 _ _ (fun c ρ5 k5 G5 H5 s5 r5 => ?_) k4⟩
      have t5 : Sub G1 G5 := ((s2.trans s3).trans s4).trans s5
      cases c with
      | false =>
        refine ⟨nofun, fun _ => ⟨ρ5, G5, S, n, acc, t5, ?_, ha, k5⟩⟩
        have := r5.wip (vs := vs)
        rw [hw] at this
        exact this
      | true =>
        refine ⟨fun _ => ⟨B.wthH D (SetO w D S n), ρ5, G5, r5, me ρ5 _ _ (fun d ρ6 k6 u G6 H6 s6 r6 i6 => ?_) k5⟩, nofun⟩
        obtain ⟨kk, rfl, h0, h1, k6⟩ := k6
        obtain ⟨hD, gD⟩ := r6.apartH g0 nf
        cases i6
        refine ⟨kk, S, n, rfl, hD, Nat.lt_of_le_of_lt (Nat.succ_le_of_lt (Nat.lt_of_lt_of_le ha.few (Nat.le_refl 64))) (by decide), ρ6, G6, _, _, acc ++ [kk], t5.trans s6, ?_, ha.put h0 h1, k6⟩
        have := (r6.turnH g0 nf (SetO w D (fun j => S j || decide (j = kk)) (if S kk = true then n else n + 1))).wip (vs := vs)
        rw [hw] at this
        exact this
    rcases j.yld i H2 v H3 xs[i] (List.getElem?_eq_getElem hlt) (s2.trans r2.sub) y with ⟨rfl, iv⟩ | ⟨T, vs', ds', nT, rfl, rfl, hv, ex⟩
    · exact step G2 (Same.refl G2) r2 (iv.mono s2)
    · have sg : Sub G2 (upd G2 T (.tup vs')) := upd_new (r2.sub.free nT)
      refine step _ sg (r2.laid nT) ?_
      rw [ex]
      exact .tup (.inl (.inl upd_same)) (hv.mono (s2.trans sg))
  · have e : i = xs.length := by omega
    subst e
    rw [List.drop_length] at k
    obtain ⟨hD, gD⟩ := r2.apartH g0 nf
    have r3 := Rel.overR r1 s2 nD r2 g0 nf
    refine .inl ⟨j.stop H2 (s2.trans r2.sub), D, S, n, rfl, hD, ha.few, fun ns p h1 h2 h3 np => ?_⟩
    have h2' : ∀ k, k ∈ ns ↔ k ∈ acc := fun k => by rw [h2 k, ha.s k, decide_eq_true_iff]
    exact aftF (fun v G2' H2' s2' r2' n2' => k ns h1 h2' v G2' H2' ((s1.trans s2).trans s2') r2' n2') r3 np (.lst (Iss.ints ns))
theorem sf_sortSi {elt tg iter : Expr} {ifs : List Expr} {scope : Scope} {own : List (Str × Nat)} {wi : WI} {t : TG} {g : WG} {tt : WT} {we : WE} {is : List Nat} {p ps : Pos} (hc : X.calm = true) (hN : X.N.Nodup) (hgs : Gl X "sorted") (hms : X.mg "sorted" = none) (hi : SI R X tg iter wi) (ok : BlkOk X.N X.env.scope scope own)
    (hg : ∀ (s : Shared) (H : Hp) (C : Addr) (cl : List (Str × Addr)) (fp : List Addr), SG R (X.blk s H scope (compEnvC scope cl C X.env) fp) tg t g is) (his : ∀ i ∈ is, i ∈ own.map (·.2))
    (ht : ∀ (s : Shared) (H : Hp) (C : Addr) (cl : List (Str × Addr)) (fp : List Addr), STs R (X.blk s H scope (compEnvC scope cl C X.env) fp) ifs tt)
    (he : ∀ (s : Shared) (H : Hp) (C : Addr) (cl : List (Str × Addr)) (fp : List Addr), SE R (X.blk s H scope (compEnvC scope cl C X.env) fp) elt we) (hs : ∀ x, foldedSetIterable iter X.env x = pure x := by intro _; rfl)
    (nb : starEach [Expr.SetComp elt [⟨tg, iter, ifs, 0⟩] scope ps] X.env = (false, eval (.SetComp elt [⟨tg, iter, ifs, 0⟩] scope ps) X.env) :: starEach [] X.env := by rfl) (h1 : (backTo pos (starEach [] X.env)).any (·.1) = false := by rfl) :
    SF R X (.Call (.Name "sorted" p) [.SetComp elt [⟨tg, iter, ifs, 0⟩] scope ps] [] pos) (wSortSi wi g tt we (own.map (·.2))) := by
  have mg := (hg sh0 (fun _ => none) 0 [] []).mono
  have mt := (ht sh0 (fun _ => none) 0 [] []).mono
  have me := (he sh0 (fun _ => none) 0 [] []).mono
  exact ⟨fun B => PE.imp (pe_callB (cr_sortedSet hc) hgs hms (by decide +kernel) (pa_cons (pe_sci hc hN (hi.pi B) ok (fun s H C cl fp => (hg s H C cl fp).pg) (fun s H C cl fp => (ht s H C cl fp).any) (fun s H C cl fp => (he s H C cl fp).any) hs) pa_nil nb) (by decide) (by decide) nb h1)
    fun σ H Q h => si_lift hi.mono mt me (hg sh0 (fun _ => none) 0 [] []).to mg his h, mono_sortSi hi.mono mg mt me⟩
end
end DL
namespace DL
open PySem PySem.Spec PyProof.Rows L2
/-! ## the resource of the fourth kind: great numbers that are used up digit by digit, a number, a turn -/
def bagHO (fa : Addr) (st tm : Int) : HO := .dK [(.inr "great", .ref fa), (.inr "mixed", .int st), (.inr "turn", .int tm)]
def bagR : Res where
  ok H la fp := ∃ (fa : Addr) (far : List Int) (st tm : Int), fp = [la, fa] ∧ la ≠ fa ∧ H la = some (bagHO fa st tm) ∧ H fa = some (.lst (far.map V.int)) ∧ far.length ≤ 63
  loc := fun H H' a fp h ⟨fa, far, st, tm, e, n, h1, h2, h3⟩ => by
    subst e
    exact ⟨fa, far, st, tm, rfl, n, by rw [h a (by simp)]; exact h1, by rw [h fa (by simp)]; exact h2, h3⟩
  there := fun H a fp ⟨fa, far, st, tm, e, n, h1, h2, h3⟩ b hb => by
    subst e
    rcases List.mem_cons.mp hb with z | z
    · rw [z, h1]
      exact nofun
    · rw [List.mem_singleton.mp z, h2]
      exact nofun
  rd := fun H a fp ⟨fa, far, st, tm, e, n, h1, h2, h3⟩ => by
    subst e
    simp
instance plain_bag : Plain bagR := ⟨fun _ _ _ _ => True.intro⟩
theorem bag_great {la fa : Addr} {st tm : Int} {H : Hp} (h : H la = some (bagHO fa st tm)) : DGet H la (.str "great") (some (.ref fa)) := DGet.k (k := .inr "great") h
theorem bag_mixed {la fa : Addr} {st tm : Int} {H : Hp} (h : H la = some (bagHO fa st tm)) : DGet H la (.str "mixed") (some (.int st)) := DGet.k (k := .inr "mixed") h
theorem bag_turn {la fa : Addr} {st tm : Int} {H : Hp} (h : H la = some (bagHO fa st tm)) : DGet H la (.str "turn") (some (.int tm)) := DGet.k (k := .inr "turn") h
theorem bag_put {la fa : Addr} {st tm t2 : Int} {H : Hp} (h : H la = some (bagHO fa st tm)) : DPut H la (.str "turn") (.int t2) (upd H la (bagHO fa st t2)) := DPut.k (k := .inr "turn") h (show 3 < sizeLine by decide)
/-- a draw of so many, at least one -/
def S_drawB : Sd := fun as q => ∃ n : Int, as = [.loom, .d (.int n)] ∧ 1 ≤ n ∧ n < 2 ^ 30 ∧ ∀ r : Int, 0 ≤ r → r < n → q (.int r)
theorem mono_drawB : MonoD S_drawB := fun as q q' h ⟨n, e, a, b, k⟩ => ⟨n, e, a, b, fun r d e => h _ (k r d e)⟩
theorem drawB_sp {R : Res} {K : PySem.W.Frag} {vs : List V} {H : Hp} {Q : VK} {E : XK} (h : spD R K 2 S_drawB vs H Q E) :
    ∃ (la : Addr) (fp : List Addr) (n : Int), vs = [.ref la, .int n] ∧ 1 ≤ n ∧ n < 2 ^ 30 ∧ R.ok H la fp ∧ ∀ (r : Int) (H' : Hp), 0 ≤ r → r < n → R.ok H' la fp → (∀ b o, H b = some o → b ∉ fp → H' b = some o) → Q (.int r) H' := by
  obtain ⟨hn, G, as, la, fp, sg, ra, hf, hl, n, e, h1n, hb, k⟩ := h
  subst e
  cases ra with
  | cons h1 h2 =>
    cases h2 with
    | cons h2 h3 =>
      cases h3
      have h1 : _ = V.ref la := h1
      have h2 := Is.intV (show Is K G _ (.int n) from h2)
      subst h1 h2
      exact ⟨la, fp, n, rfl, h1n, hb, hl rfl, fun r H' d e ok same => k r d e _ _ _ (Left.of sg hf same ok) (.int r)⟩
end DL
namespace DL
open PySem PySem.Spec PyProof.Rows L2
theorem wSiL_mp {α : Type} {g : WG} {te : WE} {vs : List Nat} {ρ0 : Sls} (I : Sls → Prop) (en : α → PyData) (y : α → Int) {Q : List Int → Sls → Prop} : ∀ (as : List α) (acc : List Int) (ρ : Sls),
    (∀ a, a ∈ as → ∀ ρ, I ρ → ∀ k : PyData → Sls → Prop, (∀ ρ', I ρ' → k (.int (y a)) ρ') → g (en a) (wipS ρ vs) fun ρ1 => te ρ1 k) → (∀ a ∈ as, 0 ≤ y a ∧ y a < 60) → I ρ → (∀ ρ', I ρ' → Q (acc ++ as.map y) (backS ρ0 ρ' vs)) →
    wSiL g wYes te vs ρ0 (as.map en) acc ρ Q
  | [], acc, ρ, _, _, hi, h => by
    have := h ρ hi
    simpa [wSiL] using this
  | a :: as, acc, ρ, stp, bd, hi, h => by
    have key := stp a List.mem_cons_self ρ hi (fun d ρ3 => ∃ k : Int, d = .int k ∧ 0 ≤ k ∧ k < 60 ∧ wSiL g wYes te vs ρ0 (as.map en) (acc ++ [k]) ρ3 Q) fun ρ' hi' => ⟨y a, rfl, (bd a List.mem_cons_self).1, (bd a List.mem_cons_self).2, ?_⟩
    · exact key
    · refine wSiL_mp I en y as _ ρ' (fun b hb => stp b (List.mem_cons_of_mem _ hb)) (fun b hb => bd b (List.mem_cons_of_mem _ hb)) hi' fun ρ'' hi'' => ?_
      have := h ρ'' hi''
      rw [List.map_cons] at this
      rw [List.append_assoc]
      exact this
end DL
namespace DL
open PySem PySem.Spec PyProof.Rows L2
/-- one of two fresh cells -/
theorem sf_if {R : Res} {X : Cx} {c e1 e2 : Expr} {t : WT} {wa wb : WE} {pos : Pos} (ht : ST R X c t) (h1 : SF R X e1 wa) (h2 : SF R X e2 wb) : SF R X (.IfExp c e1 e2 pos) (wIf t wa wb) := by
  refine ⟨fun B => PE.imp (pe_ifExp (ht.pt B) (h1.pe B) (h2.pe B)) fun σ H Q ⟨ρ, G, r, h⟩ => ⟨ρ, G, r, ht.mono ρ _ _ (fun c ρ1 q G' H' s r' => ?_) h⟩, fun ρ Q Q' hq => ht.mono ρ _ _ fun c ρ1 q => ?_⟩
  · cases c with
    | true => exact ⟨ρ1, G', r', h1.mono ρ1 _ _ (fun d ρ2 q v2 G2 H2 s2 r2 i2 => q v2 G2 H2 (s.trans s2) r2 i2) q⟩
    | false => exact ⟨ρ1, G', r', h2.mono ρ1 _ _ (fun d ρ2 q v2 G2 H2 s2 r2 i2 => q v2 G2 H2 (s.trans s2) r2 i2) q⟩
  · cases c with
    | true => exact h1.mono ρ1 _ _ hq q
    | false => exact h2.mono ρ1 _ _ hq q
end DL
namespace DL
open PySem PySem.Spec PyProof.Rows L2
/-! ## a range kept in a name -/
section
variable {X : Cx}
theorem cr_range1 : CallR X (.type "range") (fun vs H Q => ∃ j, vs = [V.int j] ∧ ∀ p, H p = none → Q (.ref p) (upd H p (.rng 0 j))) := by
  intro pins s σ H vs us Q I r h
  obtain ⟨j, rfl, q⟩ := h
  cases r with
  | cons r rr =>
    cases rr
    obtain ⟨t, rfl⟩ := r
    refine call_range_1 ⟨.ref s.heap.objs.size, upd H s.heap.objs.size (.rng 0 j), I.laid (t' := s.toks + 1 + 1) (fun b o e => Heap.get?_push_of_some _ e) (Nat.le_refl _) ?_, rfl, q _ (I.hok.fresh (Nat.le_refl _))⟩
    exact ⟨s.toks, t, s.toks + 1, Heap.get?_push_size _ rfl⟩
/-- a range, walked -/
theorem range_walk {pins : List (Addr × Obj)} {σ : L2.St} {H : Hp} {s : Shared} {R : It → Hp → Prop} {E : Value → Shared → Prop} {a : Addr} {lo hi : Int} {tg : Expr} (I : L2.Inv X pins σ H s) (ha : H a = some (.rng lo hi)) (h1 : -(2 ^ 62) ≤ lo) (h2 : lo < 2 ^ 62) (h3 : -(2 ^ 62) ≤ hi) (h4 : hi < 2 ^ 62)
    (q : R (Itr lo (hi - lo).toNat) H) : wpAny (model X.prog X.w) X.A (pyIter (.ref a)) (PIE X pins σ tg R) E s := by
  obtain ⟨t, u, v, ho⟩ := I.hok a _ ha
  refine wpAny_pyIter_range ho (small_one h1 h2 h3 h4) ?_
  refine ⟨s.heap.objs.size, [s.heap.objs.size], _, _, H, rfl, I.kept (t' := s.toks) fun b o e => Heap.get?_push_of_some _ e, turn_range _ lo (hi - lo).toNat, ?_, fun b hb => ?_, q⟩
  · have e1 : lo + ((0 : Nat) : Int) * 1 = lo := by simp
    have e2 : (((hi - lo).toNat : Nat) : Int) - ((0 : Nat) : Int) = Builtin.Range.rangeSize lo hi 1 := by rw [rangeSize_one]; split <;> omega
    show IsRangeIter _ _ (lo + ((0 : Nat) : Int) * 1) ((((hi - lo).toNat : Nat) : Int) - ((0 : Nat) : Int)) 1
    rw [e1, e2]
    exact Heap.get?_push_size _ rfl
  · have e : b = s.heap.objs.size := by simpa using hb
    subst e
    exact I.fpOk (Nat.le_refl _) (I.hok.fresh (Nat.le_refl _))
def iRngV (t : TE) : TI := fun σ H R => t σ H fun x H1 => ∃ a lo hi, x = .ref a ∧ H1 a = some (.rng lo hi) ∧ Fit62 lo ∧ Fit62 hi ∧ R (Itr lo (hi - lo).toNat) H1
theorem pi_rngV {l tg : Expr} {tl : TE} (hl : PE X l tl) : PI X tg l (iRngV tl) := by
  refine ⟨fun pins s σ H R I h => ?_⟩
  refine thn (hl.run pins s σ H _ I h) fun v s1 ⟨x, H1, I1, r1, q1⟩ => ?_
  obtain ⟨a, lo, hi, e, ha, f1, f2, q⟩ := q1
  subst e
  cases r1
  exact range_walk I1 ha f1.1 f1.2 f2.1 f2.2 q
end
section
variable {R : Res} {K : PySem.W.Frag} {B : Bs} {G : Hp} {ρ : Sls} {σ : L2.St} {H : Hp}
theorem Rel.setC (r : Rel R K B G ρ σ H) {i : Nat} {v : Addr} {d : Sc} (h : ScOk K G v d) : Rel R K B G (ρ.set i (.scr d)) (σ.set i (some (.ref v))) H := by
  have own : ∀ (j : Nat) (y : PyData), (ρ.set i (.scr d))[j]? = some (.own y) → i ≠ j ∧ ρ[j]? = some (.own y) := fun j y e => by
    rcases set_at e with ⟨_, z⟩ | z
    · cases z
    · exact z
  refine ⟨r.sub, by rw [List.length_set, List.length_set]; exact r.len, r.g0, r.new, r.fr, r.fp0, fun j y e => ?_, fun j y e => ?_, fun j y e => ?_, ?_⟩
  · rcases set_at e with ⟨z1, z2⟩ | ⟨z1, z2⟩
    · cases z2
    · rw [set_get z1]
      exact r.d j y z2
  · rcases set_at e with ⟨z1, z2⟩ | ⟨z1, z2⟩
    · cases z2
      subst z1
      refine ⟨v, ?_, h⟩
      have hi : i < σ.length := by
        have := (List.getElem?_eq_some_iff.mp e).1
        rw [List.length_set, r.len] at this
        exact this
      rw [List.getElem?_set_self hi]
    · rw [set_get z1]
      exact r.s j y z2
  · obtain ⟨n, e'⟩ := own j y e
    obtain ⟨a, ho, e1, e2, e3, e4, e5, e6⟩ := r.o j y e'
    rw [set_get n]
    refine ⟨a, ho, e1, e2, e3, e4, e5, fun k z h1 h2 => ?_⟩
    obtain ⟨n2, h1'⟩ := own k z h1
    rw [set_get n2] at h2
    exact e6 k z h1' h2
  · obtain ⟨la, fp, q⟩ := r.l
    have lo : ∀ (j : Nat), (ρ.set i (.scr d))[j]? = some .loom → i ≠ j ∧ ρ[j]? = some .loom := fun j e => by
      rcases set_at e with ⟨_, z2⟩ | z
      · cases z2
      · exact z
    refine ⟨la, fp, fun j e => ?_, fun z => q.ok (z.imp (fun ⟨j, e⟩ => ⟨j, (lo j e).2⟩) id), fun b hb => ?_, q.tie⟩
    · rw [set_get (lo j e).1]
      exact q.pl j (lo j e).2
    · obtain ⟨z1, z0, z2, z3⟩ := q.pf b hb
      refine ⟨z1, z0, z2, fun j y e => ?_⟩
      obtain ⟨n, e'⟩ := own j y e
      rw [set_get n]
      exact z3 j y e'
end
@[simp] def wSetRg (i : Nat) (w : WE) : WS := fun D ρ => w ρ fun d ρ' => ∃ n : Int, d = .int n ∧ D.nx (ρ'.set i (.scr (.rg 0 n)))
@[simp] def wRgV (i : Nat) : WI := fun ρ Q => ∃ lo hi : Int, ρ[i]? = some (.scr (.rg lo hi)) ∧ Fit62 lo ∧ Fit62 hi ∧ Q (rngD lo (hi - lo).toNat) ρ
section
variable {R : Res} {X : Cx} {i : Nat} {x : Str} {e tg : Expr} {w : WE} {p pos pos' cpos : Pos}
/-- name = range(e) -/
theorem ss_setRg (hN : X.N.Nodup) (hi : X.N[i]? = some x) (hx : Loc X.env.scope x) (hg : Gl X "range") (hm : X.mg "range" = none) (he : SE R X e w) (na : starEach [e] X.env = (false, eval e X.env) :: starEach [] X.env := by rfl) (h1 : (backTo cpos (starEach [] X.env)).any (·.1) = false := by rfl)
    (hs : swapsWith (.Call (.Name "range" p) [e] [] cpos) (some (.Name x pos')) pos.line X.env = pure false := by rfl) (hf : X.fn x = true ∨ X.env.scope.names.lookup x = some .local := by first | exact .inl rfl | exact .inr rfl | assumption) :
    SS R X (.Assign [.Name x pos'] (.Call (.Name "range" p) [e] [] cpos) pos) (wSetRg i w) := by
  refine ⟨fun B => PS.imp (ps_set hN hi hx (pe_callTy cr_range1 hg hm (by decide +kernel) (pa_cons (he.pe B) pa_nil na) (by decide) (by decide) na h1) hs hf) fun D σ H ⟨ρ, G, r, q⟩ => ⟨ρ, G, r, he.mono ρ _ _ (fun d ρ' ⟨n, e, q⟩ v G' H' s r' i => ?_) q⟩, fun D D' ρ l => he.mono ρ _ _ fun d ρ' ⟨n, e, q⟩ => ⟨n, e, l.nx _ q⟩⟩
  subst e
  obtain rfl := i.intV
  refine ⟨n, rfl, fun p np => ?_⟩
  have sg : Sub G' (upd G' p (.rng 0 n)) := upd_new (r'.sub.free np)
  exact q _ _ _ (s.trans sg) ((r'.laid np).setC (d := .rg 0 n) upd_same)
/-- what such a name goes through -/
theorem si_rgV (h : PE X (.Name x p) (tVar i)) : SI R X tg (.Name x p) (wRgV i) := by
  refine ⟨fun B => ⟨fun pins s σ H q I ⟨ρ, G, r, lo, hi, e, f1, f2, k⟩ => (pi_rngV h).run pins s σ H q I ?_⟩, fun ρ Q Q' hq ⟨lo, hi, e, f1, f2, q⟩ => ⟨lo, hi, e, f1, f2, hq _ _ q⟩⟩
  obtain ⟨a, e1, e2⟩ := r.s i _ e
  exact ⟨_, e1, a, lo, hi, rfl, r.sub _ _ e2, f1, f2, k _ G H (Same.refl G) r itd_rng⟩
end
end DL
namespace DL
open PySem PySem.Spec PyProof.Rows L2
/-! ## [e for x in xs for y in ys if ..], by an invariant -/
section
variable {α β : Type} {g g1 : WG} {tt tt1 : WT} {te : WE} {wi1 : WI} {vs vs1 : List Nat} {ρ0 : Sls} {Q : List PyData → Sls → Prop}
theorem wInL_fl (I : Sls → Prop) (en : α → PyData) (c : α → Bool) (y : α → PyData) : ∀ (as : List α) (acc : List PyData) (ρ : Sls),
    (∀ a, a ∈ as → ∀ ρ, I ρ → ∀ k1 : PyData → Sls → Prop, ∀ k0 : Sls → Prop, (c a = true → ∀ ρ', I ρ' → k1 (y a) ρ') → (c a = false → ∀ ρ', I ρ' → k0 ρ') → g (en a) (wipS ρ vs) fun ρ1 => tt ρ1 fun c ρ2 => if c = true then te ρ2 k1 else k0 ρ2) →
    acc.length + as.length ≤ sizeLine → I ρ → (∀ ρ', I ρ' → Q (acc ++ (as.filter c).map y) ρ') → wInL g tt te vs (as.map en) acc ρ Q
  | [], acc, ρ, _, _, hi, h => by
    have := h ρ hi
    simpa [wInL] using this
  | a :: as, acc, ρ, stp, hl, hi, h => by
    have hl : acc.length + as.length < sizeLine := by
      rw [List.length_cons] at hl
      omega
    have stp' : ∀ a, a ∈ as → ∀ ρ, I ρ → ∀ k1 : PyData → Sls → Prop, ∀ k0 : Sls → Prop, (c a = true → ∀ ρ', I ρ' → k1 (y a) ρ') → (c a = false → ∀ ρ', I ρ' → k0 ρ') → g (en a) (wipS ρ vs) fun ρ1 => tt ρ1 fun c ρ2 => if c = true then te ρ2 k1 else k0 ρ2 := fun b hb => stp b (List.mem_cons_of_mem _ hb)
    refine stp a List.mem_cons_self ρ hi _ _ (fun e ρ' hi' => ⟨by omega, ?_⟩) fun e ρ' hi' => ?_
    · refine wInL_fl I en c y as (acc ++ [y a]) ρ' stp' (by rw [List.length_append]; simp; omega) hi' fun ρ2 hi2 => ?_
      have := h ρ2 hi2
      rw [List.filter_cons, if_pos e] at this
      simpa using this
    · refine wInL_fl I en c y as acc ρ' stp' (by omega) hi' fun ρ2 hi2 => ?_
      have := h ρ2 hi2
      rw [List.filter_cons, if_neg (by rw [e]; exact Bool.false_ne_true)] at this
      exact this
theorem wLc2L_fl (I : Sls → Prop) (en : β → PyData) (F : β → List PyData) (m : Nat) (hm : ∀ b, (F b).length ≤ m) : ∀ (bs : List β) (acc : List PyData) (ρ : Sls),
    (∀ b, b ∈ bs → ∀ ρ, I ρ → ∀ (acc : List PyData) (k : List PyData → Sls → Prop), acc.length + m ≤ sizeLine → (∀ ρ', I ρ' → k (acc ++ F b) ρ') → g (en b) (wipS ρ vs) fun ρ1 => tt ρ1 fun c ρ2 => if c = true then wi1 ρ2 fun ys ρ3 => wInL g1 tt1 te vs1 ys acc ρ3 k else k acc ρ2) →
    acc.length + bs.length * m ≤ sizeLine → I ρ → (∀ ρ', I ρ' → Q (acc ++ bs.flatMap F) (backS ρ0 ρ' vs)) → wLc2L g tt wi1 g1 tt1 te vs vs1 ρ0 (bs.map en) acc ρ Q
  | [], acc, ρ, _, _, hi, h => by
    have := h ρ hi
    simpa [wLc2L] using this
  | b :: bs, acc, ρ, stp, hl, hi, h => by
    have hl : acc.length + bs.length * m + m ≤ sizeLine := by
      rw [List.length_cons, Nat.succ_mul] at hl
      omega
    refine stp b List.mem_cons_self ρ hi acc (fun acc' ρ4 => wLc2L g tt wi1 g1 tt1 te vs vs1 ρ0 (bs.map en) acc' ρ4 Q) (by omega) fun ρ' hi' => ?_
    have := hm b
    refine wLc2L_fl I en F m hm bs (acc ++ F b) ρ' (fun c hc => stp c (List.mem_cons_of_mem _ hc)) (by rw [List.length_append]; omega) hi' fun ρ2 hi2 => ?_
    have := h ρ2 hi2
    rw [List.flatMap_cons] at this
    simpa using this
end
end DL
namespace DL
open PySem PySem.Spec PyProof.Rows L2
/-! ## a list times a number, fresh -/
@[simp] def repFD : D2
  | .list ds, .int k, q => Fit63 k ∧ ds.length * k.toNat ≤ sizeLine ∧ q (.list (repD ds k))
  | _, _, _ => False
theorem lkF_rep {R : Res} {K : PySem.W.Frag} : LkF2 R K rRep repFD := by
  refine ⟨fun B G ρ σ H v u x y Q r hx hy h => ?_, fun x y q q' hq h => ?_⟩
  · cases hx <;> cases hy <;> first
      | exact h.elim
      | skip
    rename_i a vs ds sa ha k
    exact ⟨a, k, vs, rfl, rfl, sa, h.1.1, h.1.2, by rw [ha.length]; exact h.2.1, fun p np => aftF h.2.2 r np (.lst (ha.rep _))⟩
  · unfold repFD at h ⊢
    split at h
    · exact ⟨h.1, h.2.1, hq _ h.2.2⟩
    · exact h.elim
/-! ## xs[i::k] -/
def stpI (k : Int) (o : Option Int) (n : Nat) : List Nat := sliceRange (sliceBounds o none (some k) n).1 (sliceBounds o none (some k) n).2.1 (sliceBounds o none (some k) n).2.2
def stpL {α : Type} (k : Int) (o : Option Int) (xs : List α) : List α := (stpI k o xs.length).filterMap (xs[·]?)
theorem Vals.pick {xs : List V} {us : List Value} (r : Vals xs us) : ∀ is : List Nat, Vals (is.filterMap (xs[·]?)) (is.filterMap (us[·]?))
  | [] => .nil
  | i :: is => by
    rw [List.filterMap_cons, List.filterMap_cons]
    cases e : xs[i]? with
    | none =>
      have e2 : us[i]? = none := by
        rw [List.getElem?_eq_none_iff] at e ⊢
        rw [← r.length]
        exact e
      rw [e2]
      exact Vals.pick r is
    | some x =>
      obtain ⟨u, e2, h⟩ := r.get e
      rw [e2]
      exact .cons h (Vals.pick r is)
theorem Iss.pick {K : PySem.W.Frag} {G : Hp} {vs : List V} {ds : List PyData} (h : Iss K G vs ds) : ∀ is : List Nat, Iss K G (is.filterMap (vs[·]?)) (is.filterMap (ds[·]?))
  | [] => .nil
  | i :: is => by
    rw [List.filterMap_cons, List.filterMap_cons]
    cases e : vs[i]? with
    | none =>
      have e2 : ds[i]? = none := by
        rw [List.getElem?_eq_none_iff] at e ⊢
        rw [← h.length]
        exact e
      rw [e2]
      exact Iss.pick h is
    | some x =>
      obtain ⟨u, e2, z⟩ := h.getV e
      rw [e2]
      exact .cons z (Iss.pick h is)
section
variable {X : Cx}
def qStp (K : PySem.W.Frag) (k : Int) (x : V) (Q : VK) : Option Int → Hp → Prop := fun o H2 => ∃ a xs, x = .ref a ∧ SqL K H2 a xs ∧ (stpL k o xs).length ≤ sizeLine ∧ ∀ p, H2 p = none → Q (.ref p) (upd H2 p (.lst (stpL k o xs)))
def tStp (K : PySem.W.Frag) (k : Int) (te tl : TE) : TE := fun σ H Q => te σ H fun x H1 => tl σ H1 fun y H2 => ∃ i, y = .int i ∧ qStp K k x Q (some i) H2
theorem pe_stp {e lo : Expr} {te tl : TE} {k : Int} {j : Nat} {p1 p2 pos : Pos} (hk : k ≠ 0) (he : PE X e te) (hl : PE X lo tl) : PE X (.Subscript e (.Slice (some lo) none (some (.Constant (.int k) j p1)) p2) pos) (tStp X.K k te tl) := by
  refine ⟨fun pins s σ H Q I h => ?_⟩
  refine Subscript_ (thn (he.run pins s σ H _ I h) fun v s1 ⟨x, H1, I1, r1, q1⟩ => ?_)
  have hst : PO X (some (.Constant (.int k) j p1)) (tPart (tC (.int k))) := po_some pe_int
  refine wpAny_Slice (thn ((po_some hl).run pins s1 σ H1 (qStp X.K k x Q) I1 q1) fun vl s2 ⟨l, H2, I2, pl, q2⟩ => ?_)
  refine thn (po_none.run pins s2 σ H2 (fun o H3 => o = none ∧ H3 = H2) I2 ⟨rfl, rfl⟩) fun vu s3 ⟨u, H3, I3, pu, eu, e3⟩ => ?_
  subst eu e3
  refine thn (hst.run pins s3 σ H3 (fun o H4 => o = some k ∧ H4 = H3) I3 ⟨k, rfl, rfl, rfl⟩) fun vs s4 ⟨o, H4, I4, ps, eo, e4⟩ => ?_
  subst eo e4
  obtain ⟨a, xs, ex, hx, hle, q⟩ := q2
  subst ex
  cases r1
  have I5 : L2.Inv X pins σ H4 { s4 with heap := s4.heap.push { cls := .type "slice", data := .fields #[vl, vu, vs] } } := I4.kept (t' := s4.toks) fun b ob q => Heap.get?_push_of_some _ q
  obtain ⟨its, r, ht, hz⟩ := I5.list hx
  have hlen := r.length
  show wpAny (model X.prog X.w) X.A (subscriptTail e (.Slice (some lo) none (some (.Constant (.int k) j p1)) p2) (.ref a) (.ref s4.heap.objs.size)) (EP X pins σ Q) X.xe { s4 with heap := s4.heap.push { cls := .type "slice", data := .fields #[vl, vu, vs] } }
  refine tail_any (ops := [.ref a, .ref s4.heap.objs.size]) ht.isList.typeIs (PySem.slot_list_getitem.lookup) ?_ (by with_unfolding_all rfl)
  refine wpAny_getItem_list_slice ht.isList (Heap.IsSliceOf.new _ vl vu vs) pl pu ps (fun z => hk (Option.some.inj z)) ?_ (by rw [List.size_toArray]; omega)
  have ep : slicePick its.toArray l none (some k) = (stpL k l its).toArray := by
    unfold slicePick stpL stpI
    simp
  rw [ep]
  have rp : Vals (stpL k l xs) (stpL k l its) := by
    unfold stpL
    rw [hlen]
    exact Vals.pick r _
  refine ⟨.ref _, _, I5.laid (t' := s4.toks) (o := .lst (stpL k l xs)) (fun b ob q => Heap.get?_push_of_some _ q) (Nat.le_refl _) ?_, rfl, q _ (I5.hok.fresh (Nat.le_refl _))⟩
  exact ⟨hle, _, 0, rp, Heap.get?_push_size _ rfl⟩
end
@[simp] def wStp (k : Int) (w u : WE) : WE := fun ρ Q => w ρ fun d ρ1 => u ρ1 fun y ρ' => ∃ i ds, y = .int i ∧ d = .list ds ∧ (stpL k (some i) ds).length ≤ sizeLine ∧ Q (.list (stpL k (some i) ds)) ρ'
theorem se_stp {R : Res} {X : Cx} {e lo : Expr} {w u : WE} {k : Int} {j : Nat} {p1 p2 pos : Pos} (hk : k ≠ 0) (he : SE R X e w) (hl : SE R X lo u) : SE R X (.Subscript e (.Slice (some lo) none (some (.Constant (.int k) j p1)) p2) pos) (wStp k w u) := by
  refine ⟨fun B => PE.imp (pe_stp hk (he.pe B) (hl.pe B)) fun σ H Q ⟨ρ, G, r, q⟩ => ⟨ρ, G, r, he.mono ρ _ _ (fun d ρ1 q v G1 H1 s1 r1 i1 => ?_) q⟩, fun ρ Q Q' hq => he.mono ρ _ _ fun d ρ1 => hl.mono ρ1 _ _ fun y ρ' ⟨i, ds, e1, e2, z, q⟩ => ⟨i, ds, e1, e2, z, hq _ _ q⟩⟩
  refine ⟨ρ1, G1, r1, hl.mono ρ1 _ _ (fun y ρ2 ⟨i, ds, e1, e2, z, qq⟩ u G2 H2 s2 r2 i2 => ?_) q⟩
  subst e1 e2
  obtain rfl := i2.intV
  have i1 := i1.mono s2
  cases i1 with
  | lst sa ha =>
    rename_i a vs
    have hp : Iss X.K G2 (stpL k (some i) vs) (stpL k (some i) ds) := by
      unfold stpL
      rw [ha.length]
      exact ha.pick _
    exact ⟨i, rfl, a, vs, rfl, .of (r2.sub _ _ sa), by rw [hp.length]; exact z, fun p np => qq _ _ _ ((s1.trans s2).trans (upd_new (r2.sub.free np))) (r2.laid np) (.lst upd_same (Iss.mono (upd_new (r2.sub.free np)) hp))⟩
end DL
namespace DL
open PySem PySem.Spec PyProof.Rows L2
/-! ## more of texts -/
def repS (a : Str) (n : Int) : Str := ⟨(List.replicate n.toNat a.cps).foldl (· ++ ·) #[]⟩
theorem foldl_size (xs : Array Nat) : ∀ (n : Nat) (acc : Array Nat), ((List.replicate n xs).foldl (· ++ ·) acc).size = acc.size + n * xs.size
  | 0, acc => by simp
  | n + 1, acc => by
    rw [List.replicate_succ, List.foldl_cons, foldl_size xs n, Array.size_append, Nat.succ_mul]
    omega
theorem repS_len (a : Str) (n : Int) : (repS a n).length = n.toNat * a.length := by
  have := foldl_size a.cps n.toNat #[]
  simp at this
  exact this
theorem foldl_mem {c : Nat} (xs : Array Nat) : ∀ (n : Nat) (acc : Array Nat), c ∈ ((List.replicate n xs).foldl (· ++ ·) acc) → c ∈ acc ∨ c ∈ xs
  | 0, acc, h => .inl (by simpa using h)
  | n + 1, acc, h => by
    rw [List.replicate_succ, List.foldl_cons] at h
    rcases foldl_mem xs n _ h with z | z
    · rcases Array.mem_append.mp z with z | z
      · exact .inl z
      · exact .inr z
    · exact .inr z
def rSMul : R2 := fun x y H Q => ∃ a n, x = V.str a ∧ y = V.int n ∧ 2 ≤ n ∧ n ≤ 1000 ∧ 1 ≤ a.length ∧ a.length ≤ 10000 ∧ Q (.str (repS a n)) H
theorem op_smul {X : Cx} : OpR X (binaryOp .Mult) rSMul := by
  intro pins s σ H x y v u Q I rx ry h
  obtain ⟨a, n, rfl, rfl, n2, n3, a1, a2, q⟩ := h
  obtain ⟨t, rfl⟩ := rx
  obtain ⟨t', rfl⟩ := ry
  have c1 : ¬ n < 1 := by omega
  have c2 : (n == 1 || a.length == 0) = false := by
    rw [Bool.or_eq_false_iff]
    exact ⟨beq_eq_false_iff_ne.mpr (by omega), beq_eq_false_iff_ne.mpr (by omega)⟩
  refine PySem.P.mul_str (x := a) (n := n) (by
    rw [decide_eq_false (by omega : ¬ n < -(2 ^ 63 : Int)), decide_eq_false (by omega : ¬ n ≥ 2 ^ 63)]
    rfl) (fun _ _ => ?_) (fun _ _ => ?_) ?_
  · have : (1000000000000000 : Int) ≤ (2 ^ 63 - 1) / n := by
      refine (Int.le_ediv_iff_mul_le (by omega)).mpr ?_
      omega
    omega
  · have : a.length * n.toNat ≤ 10000 * 1000 := Nat.mul_le_mul a2 (by omega)
    have z : a.length * n.toNat ≤ sizeLine := by rw [sizeLine_eq]; omega
    exact decide_eq_false (by omega)
  · rw [if_neg c1, c2, if_neg Bool.false_ne_true]
    refine ⟨?_, .str (repS a n), H, I.tok _, ⟨_, rfl⟩, q⟩
    show (repS a n).length ≤ sizeLine
    rw [repS_len]
    have : n.toNat * a.length ≤ 1000 * 10000 := Nat.mul_le_mul (by omega) a2
    rw [sizeLine_eq]
    omega
@[simp] def smulD : D2
  | .str a, .int n, q => 2 ≤ n ∧ n ≤ 1000 ∧ 1 ≤ a.length ∧ a.length ≤ 10000 ∧ q (.str (repS a n))
  | _, _, _ => False
theorem lk_smul {R : Res} {K : PySem.W.Frag} : Lk2 R K rSMul smulD := by
  refine ⟨fun B G ρ σ H v u x y Q r hx hy h => ?_, fun x y q q' hq h => ?_⟩
  · cases hx <;> cases hy <;> first
      | exact h.elim
      | skip
    rename_i a n
    exact ⟨a, n, rfl, rfl, h.1, h.2.1, h.2.2.1, h.2.2.2.1, aft h.2.2.2.2 r (.str _)⟩
  · unfold smulD at h ⊢
    split at h
    · exact ⟨h.1, h.2.1, h.2.2.1, h.2.2.2.1, hq _ h.2.2.2.2⟩
    · exact h.elim
/-! ### find, index, upper -/
@[simp] def findD : D2
  | .str a, .str b, q => q (.int (Txt.find a b))
  | _, _, _ => False
theorem lk_find {R : Res} {K : PySem.W.Frag} : Lk2 R K (fun v u H Q => (fun x xs H Q => ∃ a b, x = .str a ∧ xs = [.str b] ∧ Q (.int (Txt.find a b)) H) v [u] H Q) findD := by
  refine ⟨fun B G ρ σ H v u x y Q r hx hy h => ?_, fun x y q q' hq h => ?_⟩
  · cases hx <;> cases hy <;> first
      | exact h.elim
      | skip
    rename_i a b
    exact ⟨a, b, rfl, rfl, aft h r (.int _)⟩
  · unfold findD at h ⊢
    split at h
    · exact hq _ h
    · exact h.elim
@[simp] def sixD : D2
  | .str a, .str b, q => ∃ i rest, Builtin.Str.occurrences a b 0 a.length 1 = i :: rest ∧ q (.int (i : Nat))
  | _, _, _ => False
theorem lk_six {R : Res} {K : PySem.W.Frag} : Lk2 R K (fun v u H Q => (fun x xs H Q => ∃ a b i rest, x = .str a ∧ xs = [.str b] ∧ Builtin.Str.occurrences a b 0 a.length 1 = i :: rest ∧ Q (.int (i : Nat)) H) v [u] H Q) sixD := by
  refine ⟨fun B G ρ σ H v u x y Q r hx hy h => ?_, fun x y q q' hq h => ?_⟩
  · cases hx <;> cases hy <;> first
      | exact h.elim
      | skip
    rename_i a b
    obtain ⟨i, rest, e, q⟩ := h
    exact ⟨a, b, i, rest, rfl, rfl, e, aft q r (.int _)⟩
  · unfold sixD at h ⊢
    split at h
    · obtain ⟨i, rest, e, q⟩ := h
      exact ⟨i, rest, e, hq _ q⟩
    · exact h.elim
section
variable {R : Res} {X : Cx} {o e : Expr} {a b : Od} {w : WE} {apos pos : Pos}
theorem se_find (ha : SO R X o a) (hb : SO R X e b) (hs : starEach [e] X.env = [(false, eval e X.env)] := by rfl) (hbase : attributeBase o "find" X.env (eval o X.env) = eval o X.env := by rfl) (hline : (apos.endLine == pos.line) = true := by rfl) :
    SE R X (.Call (.Attribute o "find" apos) [e] [] pos) (wOpS findD a b) :=
  se_m1 (fun to te h1 h2 => pe_m1 F.slot_str_find F.type_str_find mt_find h1 h2 hs hbase hline) lk_find ha hb
theorem se_sindex (ha : SO R X o a) (hb : SO R X e b) (hs : starEach [e] X.env = [(false, eval e X.env)] := by rfl) (hbase : attributeBase o "index" X.env (eval o X.env) = eval o X.env := by rfl) (hline : (apos.endLine == pos.line) = true := by rfl) :
    SE R X (.Call (.Attribute o "index" apos) [e] [] pos) (wOpS sixD a b) :=
  se_m1 (fun to te h1 h2 => pe_m1 F.slot_str_index F.type_str_index mt_sindex h1 h2 hs hbase hline) lk_six ha hb
@[simp] def wUp (w : WE) : WE := fun ρ Q => w ρ fun d ρ' => ∃ a, d = .str a ∧ a.length ≤ 5592405 ∧ Q (.str (Txt.upper a)) ρ'
theorem se_upper (he : SE R X o w) (hbase : attributeBase o "upper" X.env (eval o X.env) = eval o X.env := by rfl) (hline : (apos.endLine == pos.line) = true := by rfl) : SE R X (.Call (.Attribute o "upper" apos) [] [] pos) (wUp w) := by
  refine ⟨fun B => PE.imp (pe_upper (he.pe B) hbase hline) fun σ H Q ⟨ρ, G, r, q⟩ => ⟨ρ, G, r, he.mono ρ _ _ (fun d ρ' ⟨a, e, l, q⟩ v G' H' s r' i => ?_) q⟩, fun ρ Q Q' hq => he.mono ρ _ _ fun d ρ' ⟨a, e, l, q⟩ => ⟨a, e, l, hq _ _ q⟩⟩
  subst e
  cases i
  exact ⟨⟨a, rfl⟩, a, rfl, rfl, l, q _ G' H' s r' (.str _)⟩
end
end DL
namespace DL
open PySem PySem.Spec PyProof.Rows L2
/-! ## list(text) -/
def sgV (z : Str) : List V := z.cps.toList.map fun c => V.str ⟨#[c]⟩
theorem vals_of : ∀ (xs : List V) (us : List Value), xs.length = us.length → (∀ (i : Nat) (x : V) (u : Value), xs[i]? = some x → us[i]? = some u → RelV x u) → Vals xs us
  | [], [], _, _ => .nil
  | [], _ :: _, h, _ => by simp at h
  | _ :: _, [], h, _ => by simp at h
  | x :: xs, u :: us, h, k => .cons (k 0 x u rfl rfl) (vals_of xs us (by simpa using h) fun i x u h1 h2 => k (i + 1) x u (by simpa using h1) (by simpa using h2))
theorem call_listS {X : Cx} (hc : X.calm = true) : CallR X (.type "list") (fun xs H Q => ∃ z : Str, xs = [.str z] ∧ z.length ≤ sizeLine ∧ ∀ l, H l = none → Q (.ref l) (upd H l (.lst (sgV z)))) := by
  intro pins s σ H xs us Q I r h
  obtain ⟨z, rfl, hz, q⟩ := h
  obtain ⟨u, rfl, rx⟩ := vals1 r
  obtain ⟨t, rfl⟩ := rx
  refine call_list_str (I.ok.hd hc) z t (fun h' tk acc' c' kp e hi => ?_) hz
  have hv : Vals (sgV z) acc'.toList := by
    refine vals_of _ _ (by have := hi.1; simp [sgV]; omega) fun i x u h1 h2 => ?_
    obtain ⟨c, t', e1, e2⟩ := hi.2 i u (by simpa using h2)
    unfold sgV at h1
    rw [List.getElem?_map] at h1
    rw [show z.cps.toList[i]? = some c by simpa using e1] at h1
    cases h1
    exact ⟨t', e2⟩
  have hl := hv.length
  have lz : (sgV z).length = z.length := by simp [sgV, Str.length]
  exact ⟨.ref s.heap.objs.size, _, I.laid (t' := tk) kp (Nat.le_refl _) (show ObjOk X.prog X.w _ h' _ (.lst (sgV z)) from ⟨by omega, acc'.toList, c', hv, e⟩), rfl, q _ (I.hok.fresh (Nat.le_refl _))⟩
def rListX (K : PySem.W.Frag) : List V → Hp → VK → Prop := fun xs H Q => (∃ p ys, xs = [.ref p] ∧ (SqL K H p ys ∨ SqT K H p ys) ∧ ∀ l, H l = none → Q (.ref l) (upd H l (.lst ys))) ∨ ∃ z : Str, xs = [.str z] ∧ z.length ≤ sizeLine ∧ ∀ l, H l = none → Q (.ref l) (upd H l (.lst (sgV z)))
theorem call_listX {X : Cx} (hc : X.calm = true) : CallR X (.type "list") (rListX X.K) := call_list_of.or (call_listS hc)
@[simp] def lstXD : D1
  | .list ds, q => q (.list ds)
  | .tuple ds, q => q (.list ds)
  | .str z, q => z.length ≤ sizeLine ∧ q (.list (DL.signs z))
  | _, _ => False
theorem iss_signs {K : PySem.W.Frag} {G : Hp} (z : Str) : Iss K G (sgV z) (DL.signs z) := by
  unfold sgV DL.signs
  induction z.cps.toList with
  | nil => exact .nil
  | cons c r ih => exact .cons (.str _) ih
theorem lk_listX {R : Res} {K : PySem.W.Frag} : Lk1 R K (fun v H Q => rListX K [v] H Q) lstXD := by
  refine ⟨fun B G ρ σ H v x Q r hx h => ?_, fun x q q' hq h => ?_⟩
  · cases hx <;> first
      | exact h.elim
      | skip
    · rename_i z
      exact .inr ⟨z, rfl, h.1, fun p np => aftN h.2 r np (isLst (H := H) (r.sub.free np) (iss_signs z))⟩
    · rename_i a vs ds sa ha
      exact .inl ⟨a, vs, rfl, .inl (.of sa), fun p np => aftN h r np (isLst (H := H) (r.sub.free np) ha)⟩
    · rename_i a vs ds sa ha
      exact .inl ⟨a, vs, rfl, .inr (Sub.seqT r.sub sa), fun p np => aftN h r np (isLst (H := H) (r.sub.free np) ha)⟩
  · unfold lstXD at h ⊢
    split at h <;> first
      | exact hq _ h
      | exact ⟨h.1, hq _ h.2⟩
      | exact h.elim
end DL
namespace DL
open PySem PySem.Spec PyProof.Rows L2
/-! ## dict(a list of pairs) as a value -/
theorem isKd {K : PySem.W.Frag} {G : Hp} {p : Addr} {es : List (NestedKey × Addr × V)} {ps : List (PyData × PyData)} {ob : Obj} (n : G p = none) (h : Isn K G es ps) : Is K (upd G p (KD p es ob)) (.ref p) (kdd ps) := .kdt upd_same (Isn.mono (upd_new n) h)
theorem lk_dctL {R : Res} {K : PySem.W.Frag} : Lk1 R K (fun v H Q => (fun xs H Q => ∃ p vs es, xs = [.ref p] ∧ SqL K H p vs ∧ PkAt K H vs es ∧ ∀ l, H l = none → ∀ ob', Q (.ref l) (upd H l (KD l (putEs [] es) ob'))) [v] H Q) dctLD := by
  refine ⟨fun B G ρ σ H v x Q r hx h => ?_, fun x q q' hq ⟨ps, e, n, h⟩ => ⟨ps, e, n, hq _ h⟩⟩
  obtain ⟨ps, e, n, q⟩ := h
  subst e
  cases hx with
  | lst sa ha =>
    obtain ⟨es, pk, put⟩ := Iss.pk r.sub ha n
    exact ⟨_, _, es, rfl, .of sa, pk, fun p np ob' => aftN q r np (isKd (r.sub.free np) (put [] [] .nil))⟩
end DL
namespace DL
open PySem PySem.Spec PyProof.Rows L2
/-! ## any list != [] -/
section
variable {X : Cx}
def rNeE (K : PySem.W.Frag) : R2 := fun x y H Q => ∃ p q xs, x = .ref p ∧ y = .ref q ∧ SqL K H p xs ∧ SqL K H q [] ∧ Q (.bl (!xs.isEmpty)) H
theorem op_neE (hu : X.A.units + 64 < cLine) : OpR X (compareOp .NotEq) (rNeE X.K) := by
  intro pins s σ H x y v u Q I rx ry h
  obtain ⟨p, q, xs, rfl, rfl, h1, h2, hq⟩ := h
  obtain rfl : v = Value.ref p := rx
  obtain rfl : u = Value.ref q := ry
  obtain ⟨its, r1, p1, z1⟩ := I.list h1
  obtain ⟨its2, r2, p2, z2⟩ := I.list h2
  have e1 := r1.length
  have e2 := r2.length
  have n2 : its2 = [] := List.eq_nil_of_length_eq_zero e2.symm
  subst n2
  cases xs with
  | nil =>
    have n1 : its = [] := List.eq_nil_of_length_eq_zero e1.symm
    subst n1
    exact PySem.EqBoolInt.of_rcne (SeqAt.RcNeAt.lists (e := fun _ => true) p1.isList p2.isList rfl (by omega) (fun j j1 _ => absurd j1 (by simp))) ⟨.bl false, H, I, rfl, hq⟩
  | cons y ys =>
    refine PySem.EqBoolInt.of_rcne (SeqAt.RcNeAt.lists_lengths p1.isList p2.isList ?_ (by omega)) ⟨.bl true, H, I, rfl, hq⟩
    simp only [List.length_cons] at e1
    simp [← e1]
end
def neLD : D2 := fun x y q => neXD x y q ∨ ∃ xs, x = .list xs ∧ y = .list [] ∧ q (.bool (!xs.isEmpty))
@[simp] theorem neLD_nil (xs : List PyData) (q : PyData → Prop) (h : q (.bool (!xs.isEmpty))) : neLD (.list xs) (.list []) q := .inr ⟨xs, rfl, rfl, h⟩
section
variable {R : Res} {K : PySem.W.Frag}
theorem lk_neE : Lk2 R K (rNeE K) (fun x y q => ∃ xs, x = .list xs ∧ y = .list [] ∧ q (.bool (!xs.isEmpty))) := by
  refine ⟨fun B G ρ σ H v u x y Q r hx hy h => ?_, fun x y q q' hq ⟨xs, e1, e2, h⟩ => ⟨xs, e1, e2, hq _ h⟩⟩
  obtain ⟨xs, e1, e2, q⟩ := h
  subst e1 e2
  cases hx
  rename_i a vs sa ha
  cases hy
  rename_i b us sb hb
  cases hb
  refine ⟨a, b, vs, rfl, rfl, .of sa, .of sb, ?_⟩
  have e : vs.isEmpty = xs.isEmpty := by cases ha <;> rfl
  rw [e]
  exact aft q r (.bl _)
theorem op_neL {X : Cx} (hu : X.A.units + 64 < cLine) : OpR X (compareOp .NotEq) (fun x y H Q => (rNe x y H Q ∨ rNeD X.K x y H Q) ∨ rNeE X.K x y H Q) := (op_neX hu).or (op_neE hu)
theorem lk_neL : Lk2 R K (fun x y H Q => (rNe x y H Q ∨ rNeD K x y H Q) ∨ rNeE K x y H Q) neLD :=
  ⟨fun B G ρ σ H v u x y Q r hx hy h => h.imp (lk_neX.to B G ρ σ H v u x y Q r hx hy) (lk_neE.to B G ρ σ H v u x y Q r hx hy), fun x y q q' hq h => h.imp (lk_neX.mono (R := R) (K := K) x y q q' hq) (lk_neE.mono (R := R) (K := K) x y q q' hq)⟩
end
end DL
namespace DL
open PySem PySem.Spec PyProof.Rows L2
/-! ## a pick from a list of one's own, that stays one's own -/
def spPO (R : Res) : Sp := fun vs H Q _ => ∃ (la : Addr) (fp : List Addr) (a : Addr) (xs : List V), vs = [.ref la, .ref a] ∧ H a = some (.lst xs) ∧ 0 < xs.length ∧ xs.length ≤ 1000 ∧ R.ok H la fp ∧ a ∉ fp ∧
  ∀ v ∈ xs, ∀ H', R.ok H' la fp → (∀ b o, H b = some o → b ∉ fp → H' b = some o) → Q v H'
structure PickO (R : Res) (P : Program) (w : World) (K : PySem.W.Frag) (mg : Str → Option Value) (base : Heap) (k : Nat) (x : Str) : Prop where
  ex : ∃ f fd, GFn P w K mg base CX0 k f fd ["loom", "things"] (spPO R) ∧ mg x = some (.ref f) ∧ PySem.W.keepIn K (.ref f) = true ∧ Binds K fd ["loom", "things"] []
theorem iss_mem {K : PySem.W.Frag} {G : Hp} : ∀ {vs : List V} {ds : List PyData} {v : V}, Iss K G vs ds → v ∈ vs → ∃ d ∈ ds, Is K G v d
  | [], _, v, _, h => nomatch h
  | x :: xs, _, v, .cons h1 h2, h => by
    rcases List.mem_cons.mp h with rfl | h
    · exact ⟨_, List.mem_cons_self, h1⟩
    · obtain ⟨d, hd, i⟩ := iss_mem h2 h
      exact ⟨d, List.mem_cons_of_mem _ hd, i⟩
theorem iss_len {K : PySem.W.Frag} {G : Hp} : ∀ {vs : List V} {ds : List PyData}, Iss K G vs ds → vs.length = ds.length
  | [], _, .nil => rfl
  | _ :: _, _, .cons _ t => congrArg (· + 1) (iss_len t)
def wPickO (l i : Nat) : WE := fun ρ Q => ρ[l]? = some .loom ∧ ∃ ds, ρ[i]? = some (.own (.list ds)) ∧ 0 < ds.length ∧ ds.length ≤ 1000 ∧ ∀ d ∈ ds, Q d ρ
section
variable {R : Res} {X : Cx} {k j l i : Nat} {x : Str} {p pos : Pos} {e0 e1 : Expr}
theorem se_pickO (D : PickO R X.prog X.w X.K X.mg X.base k x) (hgd : X.A.guards = some []) (hr : Room j X.A) (hl : PE X e0 (tVar l)) (hi : PE X e1 (tVar i)) (hj : k ≤ j := by first | exact Nat.le_refl _ | decide | omega) (hg : Gl X x := by rfl)
    (hdb : (x == ("__debug__" : Str)) = false := by decide) (he : starEach [e0, e1] X.env = (false, eval e0 X.env) :: starEach [e1] X.env := by rfl) (he2 : starEach [e1] X.env = (false, eval e1 X.env) :: starEach [] X.env := by rfl) (hpl : (backTo pos (starEach [e1] X.env)).any (·.1) = false := by rfl) :
    SE R X (.Call (.Name x p) [e0, e1] [] pos) (wPickO l i) := by
  obtain ⟨f, fd, F, m, kp, b⟩ := D.ex
  refine ⟨fun B => PE.imp (ge_call F hgd (hr.mono hj) hg m kp b pass0 (pa_cons hl (pa_cons hi pa_nil he2) he) hdb he hpl) fun σ H Q ⟨ρ, G, r, q⟩ => ?_, fun ρ Q Q' h ⟨a, ds, b, c, d, e⟩ => ⟨a, ds, b, c, d, fun x hx => h x ρ (e x hx)⟩⟩
  obtain ⟨q1, ds, q2, p1, p2, q⟩ := q
  obtain ⟨la, fp, ql⟩ := r.l
  obtain ⟨a, ho, s1, s2, s3, s4, s5, s6⟩ := r.o i _ q2
  cases s5 with
  | @lst vs _ hiss =>
  refine ⟨_, ql.pl l q1, _, s1, ?_⟩
  have len := iss_len hiss
  refine ⟨la, fp, a, vs, rfl, s4, by omega, by omega, ql.ok (.inl ⟨l, q1⟩), fun hb => (ql.pf a hb).2.2.2 i _ q2 s1, fun v hv H' ok' fr => ?_⟩
  obtain ⟨d, hd, is⟩ := iss_mem hiss hv
  have z : Left R X.K G H la fp true G H' := ⟨fun _ _ e => e, fun b o e => fr b o (r.sub b o e) (fun hb => by rw [(ql.pf b hb).1] at e; cases e), fun b _ h => h, fr, R.there H' la fp ok', fun _ => ok'⟩
  exact q d hd v G H' (Same.refl G) (r.after (l := true) (fp' := fp) ql (fun _ => ⟨l, q1⟩) rfl z) is
end
end DL
namespace DL
open PySem PySem.Spec PyProof.Rows L2
/-! ## calls from which an exception leaves, in a def that lets it out -/
section
variable {R : Res} {K : PySem.W.Frag} {B : Bs} {G H G' H' : Hp} {ρ : Sls} {σ : L2.St} {la : Addr} {fp : List Addr}
theorem spDX_of {S : Sd} (mS : MonoD S) {n : Nat} {Q : VK} {E : XK} {vs : List V} {as : List Sl} (r : Rel R K B G ρ σ H) (q : LoomAt R B G ρ σ H la fp) (ra : ArgR K G la vs as) (hn : vs.length = n) (hl : hasL as = true → ∃ i : Nat, ρ[i]? = some .loom)
    (h : S as fun d => (∀ v G' H', Sub G G' → Rel R K B G' ρ σ H' → Is K G' v d → Q v H') ∧ ∀ c fs dx G' H', d = exn c fs → Sub G G' → Rel R K B G' ρ σ H' → XAt K G' H' fs dx → E (.ref c) dx H') : spDX R K n S vs H Q E := by
  refine ⟨hn, G, as, la, if hasL as = true then fp else [], r.sub, ra, fun b hb => ?_, fun z => ?_, mS as _ _ (fun d k => ⟨fun v G' H' z i => k.1 v G' H' z.g (r.after q hl rfl z) i, fun c fs dx G' H' e z x => k.2 c fs dx G' H' e z.g (r.after q hl rfl z) x⟩) h⟩
  · split at hb
    · exact ⟨(q.pf b hb).1, (q.pf b hb).2.1⟩
    · exact absurd hb (by simp)
  · rw [if_pos z]
    exact q.ok (.inl (hl z))
end
@[simp] def wRetX (S : Sd) (gs : List Ag) : WS := fun D ρ => wAgs gs ρ fun as ρ' => okL gs ρ' ∧ S as D.rt
@[simp] def wSetX (i : Nat) (S : Sd) (gs : List Ag) : WS := fun D ρ => wAgs gs ρ fun as ρ' => okL gs ρ' ∧ S as fun d => (∀ c fs, d = exn c fs → D.rt d) ∧ ((∀ c fs, d ≠ exn c fs) → D.nx (ρ'.set i (.d d)))
@[simp] def wDropX (S : Sd) (gs : List Ag) : WS := fun D ρ => wAgs gs ρ fun as ρ' => okL gs ρ' ∧ S as fun d => (∀ c fs, d = exn c fs → D.rt d) ∧ ((∀ c fs, d ≠ exn c fs) → D.nx ρ')
section
variable {R : Res} {X : Cx} {k j i : Nat} {st : Stmt} {ps : List Str} {S : Sd} {x : Str} {p pos pos2 pos' : Pos} {e : Expr} {es : List Expr} {gs : List Ag}
theorem pe_cX (D : DefX R X.prog X.w X.K X.mg X.base k x st ps S) (hgd : X.A.guards = some []) (hr : Room j X.A) (tk : Takes X R.xw) (ha : SA R X (e :: es) gs) (hj : k ≤ j) (hn : gs.length = ps.length) (hg : Gl X x)
    (hdb : (x == ("__debug__" : Str)) = false) (he : starEach (e :: es) X.env = (false, eval e X.env) :: starEach es X.env) (hpl : (backTo pos (starEach es X.env)).any (·.1) = false) (B : Bs) :
    PE X (.Call (.Name x p) (e :: es) [] pos) fun σ H Q => ∃ ρ G, Rel R X.K B G ρ σ H ∧ wAgs gs ρ fun as ρ' => okL gs ρ' ∧ S as fun d => (∀ v G' H', Sub G G' → Rel R X.K B G' ρ' σ H' → Is X.K G' v d → Q v H') ∧ ∀ c fs dx G' H', d = exn c fs → Sub G G' → Rel R X.K B G' ρ' σ H' → XAt X.K G' H' fs dx → R.xw (.ref c) dx σ H' := by
  obtain ⟨f, fd, F, G, m, b⟩ := D.ex
  refine PE.imp (ge_callS G hgd (hr.mono hj) hg m F.kp b (passAt tk) (ha.pa B) hdb he hpl) fun σ H Q ⟨ρ, G, r, q⟩ => ?_
  refine ⟨ρ, G, r, ha.mono.run (fun as ρ' ⟨ok, q⟩ vs G' H' s r' i => ?_) q⟩
  obtain ⟨la, fp, ql⟩ := r'.l
  exact spDX_of D.mS r' ql (i.rel ql ok) (i.len.trans hn) (fun z => okL_any i ok z) (D.mS as _ _ (fun d q => ⟨fun v G2 H2 s2 r2 i2 => q.1 v G2 H2 (s.trans s2) r2 i2, fun c fs dx G2 H2 e s2 r2 x2 => q.2 c fs dx G2 H2 e (s.trans s2) r2 x2⟩) q)
/-- return f(..) -/
theorem ss_retX (D : DefX R X.prog X.w X.K X.mg X.base k x st ps S) (hgd : X.A.guards = some []) (hr : Room j X.A) (tk : Takes X R.xw) (ha : SA R X (e :: es) gs) (hj : k ≤ j := by first | exact Nat.le_refl _ | decide | omega) (hn : gs.length = ps.length := by rfl) (hg : Gl X x := by rfl)
    (hdb : (x == ("__debug__" : Str)) = false := by decide) (he : starEach (e :: es) X.env = (false, eval e X.env) :: starEach es X.env := by rfl) (hpl : (backTo pos (starEach es X.env)).any (·.1) = false := by rfl) :
    SS R X (.Return (some (.Call (.Name x p) (e :: es) [] pos)) pos2) (wRetX S gs) :=
  ⟨fun B => PS.imp (ps_ret (pe_cX D hgd hr tk ha hj hn hg hdb he hpl B)) fun D' σ H ⟨ρ, G, r, q⟩ => ⟨ρ, G, r, ha.mono.run (fun as ρ' ⟨ok, q⟩ => ⟨ok, D.mS as _ _ (fun d q => ⟨fun v G' H' s r' i => q.1 v ρ' σ G' H' s r' i, fun c fs dx G' H' e s r' x => q.2 c fs dx ρ' σ G' H' e s r' x⟩) q⟩) q⟩,
    fun D1 D2 ρ l q => ha.mono.run (fun as ρ' ⟨ok, q⟩ => ⟨ok, D.mS as _ _ (fun d q => l.rt d q) q⟩) q⟩
/-- name = f(..) -/
theorem ss_setX (D : DefX R X.prog X.w X.K X.mg X.base k x st ps S) (hgd : X.A.guards = some []) (hr : Room j X.A) (tk : Takes X R.xw) {y : Str} (hN : X.N.Nodup) (hi : X.N[i]? = some y) (hx : Loc X.env.scope y) (ha : SA R X (e :: es) gs)
    (hs : swapsWith (.Call (.Name x p) (e :: es) [] pos) (some (.Name y pos')) pos2.line X.env = pure false := by rfl) (hf : X.fn y = true ∨ X.env.scope.names.lookup y = some .local := by first | exact .inl rfl | exact .inr rfl | assumption)
    (hj : k ≤ j := by first | exact Nat.le_refl _ | decide | omega) (hn : gs.length = ps.length := by rfl) (hg : Gl X x := by rfl)
    (hdb : (x == ("__debug__" : Str)) = false := by decide) (he : starEach (e :: es) X.env = (false, eval e X.env) :: starEach es X.env := by rfl) (hpl : (backTo pos (starEach es X.env)).any (·.1) = false := by rfl) :
    SS R X (.Assign [.Name y pos'] (.Call (.Name x p) (e :: es) [] pos) pos2) (wSetX i S gs) :=
  ⟨fun B => PS.imp (ps_set hN hi hx (pe_cX D hgd hr tk ha hj hn hg hdb he hpl B) hs hf) fun D' σ H ⟨ρ, G, r, q⟩ => ⟨ρ, G, r, ha.mono.run (fun as ρ' ⟨ok, q⟩ => ⟨ok, D.mS as _ _ (fun d q => ⟨fun v G' H' s r' i => q.2 (fun c fs e => not_exn (e ▸ i)) _ G' H' s (r'.setD i), fun c fs dx G' H' e s r' x => (q.1 c fs e).2 c fs dx ρ' σ G' H' e s r' x⟩) q⟩) q⟩,
    fun D1 D2 ρ l q => ha.mono.run (fun as ρ' ⟨ok, q⟩ => ⟨ok, D.mS as _ _ (fun d q => ⟨fun c fs e => l.rt d (q.1 c fs e), fun n => l.nx _ (q.2 n)⟩) q⟩) q⟩
/-- f(..) -/
theorem ss_exprX (D : DefX R X.prog X.w X.K X.mg X.base k x st ps S) (hgd : X.A.guards = some []) (hr : Room j X.A) (tk : Takes X R.xw) (ha : SA R X (e :: es) gs)
    (hs : swapsWith (.Call (.Name x p) (e :: es) [] pos) none pos2.line X.env = pure false := by rfl)
    (hj : k ≤ j := by first | exact Nat.le_refl _ | decide | omega) (hn : gs.length = ps.length := by rfl) (hg : Gl X x := by rfl)
    (hdb : (x == ("__debug__" : Str)) = false := by decide) (he : starEach (e :: es) X.env = (false, eval e X.env) :: starEach es X.env := by rfl) (hpl : (backTo pos (starEach es X.env)).any (·.1) = false := by rfl) :
    SS R X (.Expr (.Call (.Name x p) (e :: es) [] pos) pos2) (wDropX S gs) :=
  ⟨fun B => PS.imp (ps_expr (pe_cX D hgd hr tk ha hj hn hg hdb he hpl B) hs) fun D' σ H ⟨ρ, G, r, q⟩ => ⟨ρ, G, r, ha.mono.run (fun as ρ' ⟨ok, q⟩ => ⟨ok, D.mS as _ _ (fun d q => ⟨fun v G' H' s r' i => q.2 (fun c fs e => not_exn (e ▸ i)) σ G' H' s r', fun c fs dx G' H' e s r' x => (q.1 c fs e).2 c fs dx ρ' σ G' H' e s r' x⟩) q⟩) q⟩,
    fun D1 D2 ρ l q => ha.mono.run (fun as ρ' ⟨ok, q⟩ => ⟨ok, D.mS as _ _ (fun d q => ⟨fun c fs e => l.rt d (q.1 c fs e), fun n => l.nx _ (q.2 n)⟩) q⟩) q⟩
end
end DL
namespace DL
open PySem PySem.Spec PyProof.Rows L2
/-! ## own errors without a field: raise X() -/
theorem pmk_own0 {X : Cx} {C : Addr} {bmB : List Value} {B newId initId : String} {x : Str} {p pos : Pos} (F : ExcBaseFacts B newId initId bmB) (q : PySem.W.excIn X.K C bmB newId = true) (gC : X.mg x = some (.ref C)) (kC : PySem.W.keepIn X.K (.ref C) = true) (r : Raises X (.ref C)) (hg : Gl X x)
    (hdb : (x == ("__debug__" : Str)) = false := by decide) : PMk X (.Call (.Name x p) [] [] pos) (fun _ H Q => Q (.ref C) none H) := by
  intro pins s σ H Q I h
  refine wpAny_Call_Name_kw (ld_glob I hg gC ?_ hdb)
  refine PySem.W.callWith_K0 I.kIn kC ?_
  show wpAny _ _ (call (.ref C) []) _ _ _
  obtain ⟨bm, N, nm, qn, bs, hdct, sn, sub, ab, col, dd, k0, k1, k2, k3, k5, mN, hC, hN, hni, T⟩ := exc_obj I.kIn q
  refine wpAny_call_exc_subT F T hC hN hni (fun h' e hm => ?_) (Nat.zero_le _)
  exact L2.mk_of I hm r h (I.hok.gone hm.new)
/-- what the top has written of an own error x without a field -/
structure XC0 (K : PySem.W.Frag) (mg : Str → Option Value) (x : Str) (C : Addr) : Prop where
  q : PySem.W.excIn K C [.type "ValueError", .type "Exception", .type "BaseException", .type "object"] "ValueError.__new__" = true
  gC : mg x = some (.ref C)
  kC : PySem.W.keepIn K (.ref C) = true
  eC : PySem.W.subIn K (.ref C) (.type "BaseException") = some true
  tC : PySem.W.typeIn K (.ref C) = some (.type "type")
  is : ExcC K C
  cl : (PySem.W.clsIn K C).isSome = true
  exm : PySem.W.exmOne K (.ref C) (.ref C) = some true
@[simp] def wRaise0 (C : Addr) : WS := fun D _ => D.rt (exn C [])
section
variable {R : Res} {X : Cx} {x : Str} {C : Addr} {p pos pos2 : Pos}
theorem ss_raise0 (T : XC0 X.K X.mg x C) (hc : X.calm = true) (tk : Takes X R.xw) (hg : Gl X x) (hdb : (x == ("__debug__" : Str)) = false := by decide) : SS R X (.Raise (some (.Call (.Name x p) [] [] pos)) none pos2) (wRaise0 C) := by
  refine ⟨fun B => PS.imp (ps_raise hc tk (pmk_own0 PySem.F.excBase_ValueError T.q T.gC T.kC (raises_own T.eC T.tC) hg hdb)) fun D σ H ⟨ρ, G, r, q⟩ => ?_, fun D D' ρ l q => l.rt _ q⟩
  exact q.2 C [] none ρ σ G H rfl (Same.refl G) r (.inl ⟨rfl, rfl⟩)
end
end DL
namespace DL
open PySem PySem.Spec PyProof.Rows L2
/-- a def that may let an exception out keeps its promise where exceptions are asked for, too -/
theorem DefX.withX {R : Res} {P : Program} {w : World} {K : PySem.W.Frag} {mg : Str → Option Value} {base : Heap} {k : Nat} {S : Sd} {x : Str} {st : Stmt} {ps : List Str} (D : DefX R P w K mg base k x st ps S) (W : Value → Option Addr → L2.St → Hp → Prop) : DefX (R.withX W) P w K mg base k x st ps S := by
  obtain ⟨f, fd, F, G, m, b⟩ := D.ex
  exact ⟨D.mS, f, fd, F, G.imp fun vs H Q E ⟨h1, Gp, as, la, fp, a, b, c, d, q⟩ => ⟨h1, Gp, as, la, fp, a, b, c, d, D.mS as _ _ (fun d q => ⟨fun v G' H' l i => q.1 v G' H' l.withX i, fun c fs dx G' H' e l x => q.2 c fs dx G' H' e l.withX x⟩) q⟩, m, b⟩
end DL
namespace DL
open PySem PySem.Spec PyProof.Rows L2
/-! ## str(n), str(text) -/
def rStrI : List V → Hp → VK → Prop := fun xs H Q => (∃ i : Int, xs = [.int i] ∧ -4611686018427387904 < i ∧ i < 4611686018427387904 ∧ Q (.str (Str.ofString (toString i))) H) ∨ ∃ z, xs = [.str z] ∧ Q (.str z) H
theorem call_strI {X : Cx} : CallR X (.type "str") rStrI := by
  intro pins s σ H xs us Q I r h
  rcases h with ⟨i, rfl, h1, h2, q⟩ | ⟨z, rfl, q⟩
  · obtain ⟨u, rfl, t, rfl⟩ := vals1 r
    exact str_of_int_fit (N := 4611686018427387904) (by split <;> omega) (by decide) (fun _ => ⟨.str _, H, I.tok _, ⟨_, rfl⟩, q⟩)
  · obtain ⟨u, rfl, t, rfl⟩ := vals1 r
    exact PySem.P.str_of_str ⟨.str z, H, I, ⟨t, rfl⟩, q⟩
@[simp] def strID : D1
  | .int i, q => -4611686018427387904 < i ∧ i < 4611686018427387904 ∧ q (.str (Str.ofString (toString i)))
  | .str z, q => q (.str z)
  | _, _ => False
theorem lk_strI {R : Res} {K : PySem.W.Frag} : Lk1 R K (fun v H Q => rStrI [v] H Q) strID := by
  refine ⟨fun B G ρ σ H v x Q r hx h => ?_, fun x q q' hq h => ?_⟩
  · cases hx <;> first
      | exact h.elim
      | exact .inl ⟨_, rfl, h.1, h.2.1, aft h.2.2 r (.str _)⟩
      | exact .inr ⟨_, rfl, aft h r (.str _)⟩
  · unfold strID at h ⊢
    split at h
    · exact ⟨h.1, h.2.1, hq _ h.2.2⟩
    · exact hq _ h
    · exact h.elim
end DL
namespace DL
open PySem PySem.Spec PyProof.Rows L2
/-! ## a list of one's own lent to a def: it is one's own again behind the call, if the answer holds no list of its look -/
@[simp] def tgV : V → Nat
  | .non => 0
  | .bl _ => 1
  | .int _ => 2
  | .str _ => 3
  | _ => 4
@[simp] def tg : PyData → Nat
  | .none => 0
  | .bool _ => 1
  | .int _ => 2
  | .str _ => 3
  | _ => 4
mutual
@[simp] def noT (ts : List Nat) : PyData → Prop
  | .list es => es.map tg ≠ ts ∧ noTs ts es
  | .tuple es => noTs ts es
  | .dict ps => noTk ts ps
  | _ => True
@[simp] def noTs (ts : List Nat) : List PyData → Prop
  | [] => True
  | d :: ds => noT ts d ∧ noTs ts ds
@[simp] def noTk (ts : List Nat) : List (PyData × PyData) → Prop
  | [] => True
  | (k, d) :: ps => noT ts k ∧ noT ts d ∧ noTk ts ps
end
theorem Is.tg {K : PySem.W.Frag} {G : Hp} {v : V} {d : PyData} (h : Is K G v d) : tgV v = DL.tg d := by
  cases h <;> rfl
theorem Iss.tg {K : PySem.W.Frag} {G : Hp} : ∀ {vs : List V} {ds : List PyData}, Iss K G vs ds → vs.map tgV = ds.map DL.tg
  | [], _, .nil => rfl
  | _ :: _, _, .cons h t => by rw [List.map_cons, List.map_cons, h.tg, Iss.tg t]
theorem del_some {G : Hp} {a b : Addr} {o : HO} (n : b ≠ a) (h : G b = some o) : L2.del G a b = some o := by
  rw [L2.del_ne n]
  exact h
theorem ne_cell {G : Hp} {a b : Addr} {o o' : HO} (ha : G a = some o) (hb : G b = some o') (n : o' ≠ o) : b ≠ a := fun e => by
  subst e
  rw [ha] at hb
  exact n (Option.some.inj hb).symm
mutual
theorem Is.del {K : PySem.W.Frag} {G : Hp} {a : Addr} {vs0 : List V} (ea : G a = some (.lst vs0)) : ∀ {v : V} {d : PyData}, noT (vs0.map tgV) d → Is K G v d → Is K (L2.del G a) v d
  | _, _, _, .non => .non
  | _, _, _, .bl b => .bl b
  | _, _, _, .int i => .int i
  | _, _, _, .str x => .str x
  | _, _, n, .lst (a := b) s h => by
    simp only [noT] at n
    have hb : b ≠ a := fun e => by
      subst e
      rw [ea] at s
      cases s
      exact n.1 h.tg.symm
    exact .lst (del_some hb s) (Iss.del ea n.2 h)
  | _, _, n, .tup (a := b) s h => by
    simp only [noT] at n
    refine .tup ?_ (Iss.del ea n h)
    rcases s with (s | ⟨o, s⟩) | s
    · exact .inl (.inl (del_some (ne_cell ea s nofun) s))
    · exact .inl (.inr ⟨o, del_some (ne_cell ea s nofun) s⟩)
    · exact .inr s
  | _, _, n, .dct (a := b) s h => by
    simp only [noT] at n
    exact .dct (del_some (ne_cell ea s nofun) s) (Isd.del ea n h)
  | _, _, n, .kdt (a := b) s h => by
    simp only [noT, noTk] at n
    exact .kdt (del_some (ne_cell ea s nofun) s) (Isn.del ea n.2.2 h)
theorem Iss.del {K : PySem.W.Frag} {G : Hp} {a : Addr} {vs0 : List V} (ea : G a = some (.lst vs0)) : ∀ {vs : List V} {ds : List PyData}, noTs (vs0.map tgV) ds → Iss K G vs ds → Iss K (L2.del G a) vs ds
  | _, _, _, .nil => .nil
  | _, _, n, .cons h t => by
    simp only [noTs] at n
    exact .cons (Is.del ea n.1 h) (Iss.del ea n.2 t)
theorem Isd.del {K : PySem.W.Frag} {G : Hp} {a : Addr} {vs0 : List V} (ea : G a = some (.lst vs0)) : ∀ {kvs : List (Key × V)} {ps : List (PyData × PyData)}, noTk (vs0.map tgV) ps → Isd K G kvs ps → Isd K (L2.del G a) kvs ps
  | _, _, _, .nil => .nil
  | _, _, n, .cons h t => by
    simp only [noTk] at n
    exact .cons (Is.del ea n.2.1 h) (Isd.del ea n.2.2 t)
theorem Isn.del {K : PySem.W.Frag} {G : Hp} {a : Addr} {vs0 : List V} (ea : G a = some (.lst vs0)) : ∀ {es : List (NestedKey × Addr × V)} {ps : List (PyData × PyData)}, noTk (vs0.map tgV) ps → Isn K G es ps → Isn K (L2.del G a) es ps
  | _, _, _, .nil => .nil
  | _, _, n, .cons p hk h t => by
    simp only [noTk] at n
    exact .cons p (Is.del ea n.1 hk) (Is.del ea n.2.1 h) (Isn.del ea n.2.2 t)
end
end DL
namespace DL
open PySem PySem.Spec PyProof.Rows L2
/-- an argument of a call that is lent a list: a slot, or a number -/
inductive Lg
  | sl (i : Nat)
  | ci (n : Int)
def tLgs : List Lg → TA
  | [] => tNil
  | .sl i :: r => tCons (tVar i) (tLgs r)
  | .ci n :: r => tCons (tC (.int n)) (tLgs r)
@[simp] def argL (ρ : Sls) : List Lg → Option (List Sl)
  | [] => some []
  | .sl i :: r => match ρ[i]? with
    | some (.d x) => (argL ρ r).map (.d x :: ·)
    | some .loom => (argL ρ r).map (.loom :: ·)
    | _ => none
  | .ci n :: r => (argL ρ r).map (.d (.int n) :: ·)
/-- f(.., own, ..): slot i keeps its own list -/
def wLend (S : Sd) (i : Nat) (js : List Lg) : WE := fun ρ Q => ∃ ds as, ρ[i]? = some (.own (.list ds)) ∧ argL (ρ.set i (.d (.list ds))) js = some as ∧ S as fun d => noT (ds.map tg) d ∧ Q d ρ
section
variable {R : Res} {K : PySem.W.Frag} {B : Bs} {G H : Hp} {ρ : Sls} {σ : L2.St} {la a : Addr} {fp : List Addr} {i : Nat} {ds : List PyData} {vs : List V}
theorem argL_run (r : Rel R K B G ρ σ H) (ql : LoomAt R B G ρ σ H la fp) (e1 : ρ[i]? = some (.own (.list ds))) (s1 : σ[i]? = some (some (.ref a))) (s2 : G a = none) (hi : Iss K G vs ds) :
    ∀ (js : List Lg) (as : List Sl), argL (ρ.set i (.d (.list ds))) js = some as → ∃ ws, ArgR K (upd G a (.lst vs)) la ws as ∧ ws.length = js.length ∧ (hasL as = true → ∃ j : Nat, ρ[j]? = some .loom) ∧ ∀ Q : List V → Hp → Prop, Q ws H → tLgs js σ H Q
  | [], as, h => by
    cases h
    exact ⟨[], .nil, rfl, nofun, fun Q h => h⟩
  | .ci n :: js, as, h => by
    obtain ⟨as', h', rfl⟩ := Option.map_eq_some_iff.mp h
    obtain ⟨ws, ra, hn, hl, go⟩ := argL_run r ql e1 s1 s2 hi js as' h'
    exact ⟨.int n :: ws, .cons (.int n) ra, congrArg (· + 1) hn, hl, fun Q q => go _ q⟩
  | .sl j :: js, as, h => by
    have sg : Sub G (upd G a (.lst vs)) := upd_new s2
    have il : i < ρ.length := (List.getElem?_eq_some_iff.mp e1).1
    unfold argL at h
    split at h
    · rename_i x ex
      obtain ⟨as', h', rfl⟩ := Option.map_eq_some_iff.mp h
      obtain ⟨ws, ra, hn, hl, go⟩ := argL_run r ql e1 s1 s2 hi js as' h'
      by_cases c : i = j
      · subst c
        rw [List.getElem?_set_self il] at ex
        cases ex
        exact ⟨.ref a :: ws, .cons (Is.lst upd_same (hi.mono sg)) ra, congrArg (· + 1) hn, hl, fun Q q => ⟨_, s1, go _ q⟩⟩
      · rw [List.getElem?_set_ne c] at ex
        obtain ⟨v, p1, p2⟩ := r.d j x ex
        exact ⟨v :: ws, .cons (p2.mono sg) ra, congrArg (· + 1) hn, hl, fun Q q => ⟨_, p1, go _ q⟩⟩
    · rename_i ex
      obtain ⟨as', h', rfl⟩ := Option.map_eq_some_iff.mp h
      obtain ⟨ws, ra, hn, hl, go⟩ := argL_run r ql e1 s1 s2 hi js as' h'
      have c : i ≠ j := fun c => by
        subst c
        rw [List.getElem?_set_self il] at ex
        cases ex
      rw [List.getElem?_set_ne c] at ex
      exact ⟨.ref la :: ws, .cons rfl ra, congrArg (· + 1) hn, fun _ => ⟨j, ex⟩, fun Q q => ⟨_, ql.pl j ex, go _ q⟩⟩
    · cases h
end
section
variable {R : Res} {X : Cx} {k j i : Nat} {st : Stmt} {ps : List Str} {S : Sd} {x : Str} {p pos : Pos} {e : Expr} {es : List Expr} {js : List Lg}
theorem se_lend (D : Def R X.prog X.w X.K X.mg X.base k x st ps S) (hgd : X.A.guards = some []) (hr : Room j X.A) (ha : PA X (e :: es) (tLgs js)) (hj : k ≤ j := by first | exact Nat.le_refl _ | decide | omega) (hn : js.length = ps.length := by rfl) (hg : Gl X x := by rfl)
    (hdb : (x == ("__debug__" : Str)) = false := by decide) (he : starEach (e :: es) X.env = (false, eval e X.env) :: starEach es X.env := by rfl) (hpl : (backTo pos (starEach es X.env)).any (·.1) = false := by rfl) :
    SE R X (.Call (.Name x p) (e :: es) [] pos) (wLend S i js) := by
  obtain ⟨f, fd, F, GF, m, b⟩ := D.ex
  refine ⟨fun B => PE.imp (ge_call GF hgd (hr.mono hj) hg m F.kp b pass0 ha hdb he hpl) fun σ H Q ⟨ρ, G, r, q⟩ => ?_, fun ρ Q Q' h ⟨ds, as, e1, e2, q⟩ => ⟨ds, as, e1, e2, D.mS as _ _ (fun d ⟨n, q⟩ => ⟨n, h d ρ q⟩) q⟩⟩
  obtain ⟨ds, as, e1, e2, q⟩ := q
  obtain ⟨la, fp, ql⟩ := r.l
  obtain ⟨a, ho, s1, s2, s3, s4, s5, s6⟩ := r.o i _ e1
  cases s5 with
  | @lst vs _ hi =>
  obtain ⟨ws, ra, hw, hl, go⟩ := argL_run r ql e1 s1 s2 hi js as e2
  refine go _ ?_
  rw [List.append_nil]
  have nfp : ∀ b ∈ fp, b ≠ a := fun b hb z => (ql.pf b hb).2.2.2 i _ e1 (z ▸ s1)
  have sub' : ∀ b, b ∈ (if hasL as = true then fp else []) → b ∈ fp := fun b hb => by
    split at hb
    · exact hb
    · exact absurd hb (by simp)
  refine ⟨hw.trans hn, upd G a (.lst vs), as, la, if hasL as = true then fp else [], fun b o z => ?_, ra, fun b hb => ?_, fun z => ?_, D.mS as _ _ (fun d ⟨nt, q⟩ v G' H' z iv => ?_) q⟩
  · by_cases hb : b = a
    · subst hb
      rw [upd_same] at z
      cases z
      exact s4
    · rw [upd_ne hb] at z
      exact r.sub b o z
  · have hb := sub' b hb
    rw [upd_ne (nfp b hb)]
    exact ⟨(ql.pf b hb).1, (ql.pf b hb).2.1⟩
  · rw [if_pos z]
    exact ql.ok (.inl (hl z))
  · have ea : G' a = some (.lst vs) := z.g a _ upd_same
    have sg : Sub G (L2.del G' a) := fun b o w => by
      have hb : b ≠ a := fun c => by
        subst c
        rw [s2] at w
        cases w
      exact del_some hb (z.g b o (by rw [upd_ne hb]; exact w))
    have z' : Left R X.K G H la (if hasL as = true then fp else []) (hasL as) (L2.del G' a) H' := by
      refine ⟨sg, fun b o w => ?_, fun b h1 h2 => ?_, z.fr, z.pf, z.lm⟩
      · by_cases hb : b = a
        · subst hb
          rw [L2.del_same] at w
          cases w
        · rw [L2.del_ne hb] at w
          exact z.h b o w
      · by_cases hb : b = a
        · subst hb
          exact absurd L2.del_same h2
        · rw [L2.del_ne hb] at h2
          have := z.new b h1 h2
          rwa [upd_ne hb] at this
    exact q v (L2.del G' a) H' sg (r.after ql hl rfl z') (Is.del ea (by rw [hi.tg]; exact nt) iv)
end
end DL
namespace DL
open PySem PySem.Spec PyProof.Rows L2
/-! ## for over the keys of a dict, keys of any depth -/
theorem pr_get {α β : Type} {F : α → β → Prop} : ∀ {xs : List α} {ys : List β}, Paired F xs ys → ∀ {i : Nat} {x : α}, xs[i]? = some x → ∃ y, ys[i]? = some y ∧ F x y
  | _, _, .nil, i, x, h => by simp at h
  | _, _, .cons r t, 0, x, h => by
    have e := Option.some.inj h
    exact ⟨_, rfl, e ▸ r⟩
  | _, _, .cons r t, i + 1, x, h => pr_get t (by simpa using h)
theorem kd_exact {X : Cx} {pins : List (Addr × Obj)} {σ : L2.St} {H : Hp} {s : Shared} {d : Addr} {es : KEs} {ob : Obj} (I : Inv X pins σ H s) (h : H d = some (KD d es ob)) :
    (d == sysModules) = false ∧ s.heap.get? d = some ob ∧ ob.ExactDict ∧ ∃ (ds : Array DictEntry) (ep : Nat), ob.data = .dict ds ep ∧ ds.size = es.length ∧ ∀ (i : Nat) (e : NestedKey × Addr × V), es[i]? = some e → ∃ en : DictEntry, ds[i]? = some en ∧ en.key = .ref e.2.1 := by
  obtain ⟨⟨z, y, xs, r, ds, ep, h1, h2, h3, h4, h5⟩, _⟩ := (show ObjOk X.prog X.w H s.heap d (KD d es ob) from I.hok d _ h)
  have hl : es.length = xs.length := Paired.length r
  refine ⟨y, h1, h2, ds, ep, h3, ?_, fun i e he => ?_⟩
  · have := congrArg List.length h4
    rw [List.length_map, Array.length_toList] at this
    omega
  · obtain ⟨x, hx, e1, e2, _⟩ := pr_get r he
    refine ⟨⟨hash0 x.1, .ref x.2.1, x.2.2⟩, ?_, by rw [e2]⟩
    rw [← Array.getElem?_toList, h4, List.getElem?_map, hx]
    rfl
def ItN (d : Addr) (es : KEs) (ob : Obj) : It :=
  ⟨fun i H => H d = some (KD d es ob) ∧ i < es.length, fun i H x H' => H' = H ∧ ∃ e, es[i]? = some e ∧ x = .ref e.2.1, fun i H => H d = some (KD d es ob) ∧ es.length ≤ i⟩
section
variable {P : Program} {w : World} {K : PySem.W.Frag} {tg : Expr} {d : Addr} {ob : Obj} {ds : Array DictEntry} {ep : Nat}
theorem turn_nk {es : KEs} (it : Addr) (hod : ob.data = .dict ds ep) : Turn P w K tg (ItN d es ob) [it] it (fun i h => h.IsKeyIter it d i es.length ep) where
  mem := by simp
  obj := fun i h st b hb => by
    have e : b = it := by simpa using hb
    subst e
    obtain ⟨oi, e, c, dd⟩ := st
    exact ⟨oi, e, fun v z => by rw [dd] at z; cases z⟩
  keep := fun i h h' st k => st.at fun oi e => k it (by simp) oi e
  item := by
    intro X hP hw hK hc i pins s σ H E I hf st hg
    subst hP hw hK
    obtain ⟨hd, hi⟩ := hg
    obtain ⟨f0, f1, f2, f3, f4, f5⟩ := hf it (by simp)
    obtain ⟨hs, hgd, hx, es', ep', hdt, hsz, ent⟩ := kd_exact I hd
    obtain ⟨rfl, rfl⟩ := dict_ep hod hdt
    have hkv := List.getElem?_eq_getElem hi
    obtain ⟨en, hen, hkey⟩ := ent i _ hkv
    refine next_key_item st hgd hdt hsz hen fun h' st' sb => ?_
    have I1 : Inv X pins σ H { s with heap := h' } := I.turned (t' := s.toks) (fun b ob hb e => (sb.2 b hb).trans e) f0 f1 f3 f4 f5
    obtain ⟨oi, e, c, dd⟩ := id st'
    exact ⟨en.key, rfl, go_of (s := { s with heap := h' }) e c dd (by decide) ⟨.ref _, H, I1, hkey, ⟨rfl, _, hkv, rfl⟩, st', fun b hb => (hf b hb).1⟩⟩
  done := by
    intro X hP hw hK hc i pins s σ H E I hf st hg
    subst hP hw hK
    obtain ⟨hd, hi⟩ := hg
    obtain ⟨f0, f1, f2, f3, f4, f5⟩ := hf it (by simp)
    obtain ⟨hs, hgd, hx, es', ep', hdt, hsz, ent⟩ := kd_exact I hd
    obtain ⟨rfl, rfl⟩ := dict_ep hod hdt
    exact next_key_end (I.ok.hd hc) st hgd hdt hsz hi fun h' eb => ⟨rfl, I.turned (t' := s.toks) (fun b ob hb e => eb b ob hb e) f0 f1 f3 f4 f5⟩
  self := fun A i s Q E st h => by
    refine wpAny_pyIter_slot st.typeIs F.slot_dict_keyiterator_iter (wpAny_call_entry F.slot_dict_keyiterator_iter st.typeIs F.entry_dict_keyiterator_iter ?_ (F.args_dict_keyiterator_iter_1 _))
    show wpAny _ _ (ret (.ref it)) _ _ s
    exact wpAny_pure ⟨_, rfl, "dict_keyiterator", _, st.typeIs, F.slot_dict_keyiterator_next.lookup, h⟩
end
theorem itd_nk {K : PySem.W.Frag} {G : Hp} {d : Addr} {es : KEs} {ob : Obj} {ps : List (PyData × PyData)} (s : G d = some (KD d es ob)) (h : Isn K G es ps) : ItD K G (ItN d es ob) (ps.map (·.1)) := by
  have hk := isn_keys h
  have hl : es.length = ps.length := by
    have := hk.length
    simpa using this
  refine ⟨fun i H hi q => ⟨q _ _ s, by simpa [hl] using hi⟩, fun H q => ⟨q _ _ s, by simp [hl]⟩, fun i H v H' x e q y => ?_⟩
  obtain ⟨y1, en, y2, rfl⟩ := y
  obtain ⟨u, e1, e2⟩ := hk.get e
  rw [List.getElem?_map, y2] at e1
  cases e1
  exact .inl ⟨y1, e2⟩
@[simp] def wNd (w : WE) : WI := fun ρ Q => w ρ fun d ρ' => ∃ ps, d = kdd ps ∧ Q (ps.map (·.1)) ρ'
section
variable {R : Res} {X : Cx} {tg e : Expr}
theorem si_nd {w : WE} (he : SE R X e w) : SI R X tg e (wNd w) := by
  refine ⟨fun B => ⟨fun pins s σ H q I ⟨ρ, G, r, h⟩ => ?_⟩, fun ρ Q Q' hq => he.mono ρ _ _ fun d ρ' ⟨xs, e, q⟩ => ⟨xs, e, hq _ _ q⟩⟩
  have h' : liftE R X.K B w σ H fun v H1 => ∃ ps ρ' G', Rel R X.K B G' ρ' σ H1 ∧ Is X.K G' v (kdd ps) ∧ ∀ J, ItD X.K G' J (ps.map (·.1)) → q J H1 :=
    ⟨ρ, G, r, he.mono ρ _ _ (fun d ρ' ⟨ps, e, k⟩ v G' H' s r' i => ⟨ps, ρ', G', r', e ▸ i, fun J j => k J G' H' s r' j⟩) h⟩
  refine thn ((he.pe B).run pins s σ H _ I h') fun v s1 ⟨x, H1, I1, r1, ps, ρ', G', rl, i, k⟩ => ?_
  unfold kdd at i
  cases i with
  | dct sa ha => exact absurd rfl ha.noN
  | @kdt a es _ ob sa ha =>
    obtain rfl : v = Value.ref a := r1
    obtain ⟨hs, hgd, hx, ds, ep, hdt, hsz, ent⟩ := kd_exact I1 (rl.sub _ _ sa)
    refine iter_keys hs hgd hx hdt (pi_one (tk := s1.toks) I1 _ (turn_nk _ hdt) ⟨_, Heap.get?_push_size _ rfl, rfl, ?_⟩ (k _ (itd_nk sa ha)))
    rw [hsz] <;> rfl
end
end DL
namespace DL
open PySem PySem.Spec PyProof.Rows L2
/-! ## the resource of the third kind -/
def deckHO (fa : Addr) (st tm : Int) : HO := .dK [(.inr "great", .ref fa), (.inr "mixed", .int st), (.inr "turns", .int tm)]
def deckR : Res where
  ok H la fp := ∃ (fa : Addr) (far : List Int) (st tm : Int), fp = [la, fa] ∧ la ≠ fa ∧ H la = some (deckHO fa st tm) ∧ H fa = some (.lst (far.map V.int)) ∧ far.length ≤ 63
  loc := fun H H' a fp h ⟨fa, far, st, tm, e, n, h1, h2, h3⟩ => by
    subst e
    exact ⟨fa, far, st, tm, rfl, n, by rw [h a (by simp)]; exact h1, by rw [h fa (by simp)]; exact h2, h3⟩
  there := fun H a fp ⟨fa, far, st, tm, e, n, h1, h2, h3⟩ b hb => by
    subst e
    rcases List.mem_cons.mp hb with z | z
    · rw [z, h1]
      exact nofun
    · rw [List.mem_singleton.mp z, h2]
      exact nofun
  rd := fun H a fp ⟨fa, far, st, tm, e, n, h1, h2, h3⟩ => by
    subst e
    simp
instance plain_deck : Plain deckR := ⟨fun _ _ _ _ => True.intro⟩
theorem deck_great {la fa : Addr} {st tm : Int} {H : Hp} (h : H la = some (deckHO fa st tm)) : DGet H la (.str "great") (some (.ref fa)) := DGet.k (k := .inr "great") h
theorem deck_mixed {la fa : Addr} {st tm : Int} {H : Hp} (h : H la = some (deckHO fa st tm)) : DGet H la (.str "mixed") (some (.int st)) := DGet.k (k := .inr "mixed") h
theorem deck_turns {la fa : Addr} {st tm : Int} {H : Hp} (h : H la = some (deckHO fa st tm)) : DGet H la (.str "turns") (some (.int tm)) := DGet.k (k := .inr "turns") h
theorem deck_put {la fa : Addr} {st tm t2 : Int} {H : Hp} (h : H la = some (deckHO fa st tm)) : DPut H la (.str "turns") (.int t2) (upd H la (deckHO fa st t2)) := DPut.k (k := .inr "turns") h (show 3 < sizeLine by decide)
theorem deck_mix {la fa : Addr} {st tm t2 : Int} {H : Hp} (h : H la = some (deckHO fa st tm)) : DPut H la (.str "mixed") (.int t2) (upd H la (deckHO fa t2 tm)) := DPut.k (k := .inr "mixed") h (show 3 < sizeLine by decide)
end DL
namespace DL
open PySem PySem.Spec PyProof.Rows L2
/-! ## x.remove(y), of data -/
def rRemD (K : PySem.W.Frag) : V → List V → Hp → VK → Prop := fun x vs H Q => ∃ (l : Addr) (y : V) (ws : List V) (ds : List PyData) (d : PyData) (j : Nat), x = .ref l ∧ vs = [y] ∧ H l = some (.lst ws) ∧ DpAll K H ws ds ∧ Dp K H y d ∧ PyData.canLayAll0 ds = true ∧ d.canLay0 = true ∧ d.depth ≤ 20 ∧ SeqAt.dataPlace ds d = some j ∧ Q .non (upd H l (.lst (ws.eraseIdx j)))
theorem mt_remD {X : Cx} (hu : X.A.units + 65 < cLine) : MtR X "list.remove" (rRemD X.K) := by
  intro pins s σ H x vs v us Q I rx rv h
  obtain ⟨l, y, ws, ds, d, j, rfl, rfl, hH, hw, hy, c1, c2, dp, hj, q⟩ := h
  cases rx
  obtain ⟨u, rfl, ru⟩ := rv.one
  obtain ⟨z, its, n, r, hl, e⟩ := I.lstM hH
  obtain ⟨as, r1⟩ := Dp.readsAll I ds ws its hw r
  obtain ⟨bs, r2⟩ := Dp.reads I d y u hy ru
  have hil : s.heap.IsList l its.toArray := ⟨_, e, rfl, n, rfl⟩
  have zl : its.toArray.size ≤ sizeLine := by rw [List.size_toArray]; omega
  refine SeqAt.remove_list_data (vs := its.toArray) (xs := ds) hil r1 r2 (PyData.plainAll_of_canLay0 ds c1) (PyData.plain_of_canLay0 d c2) (by omega) hj zl ?_
  refine ⟨.non, _, I.lset (its' := its.eraseIdx j) hH e ?_ (r.eraseIdx j) ?_, rfl, q⟩
  · show its.toArray.eraseIdxIfInBounds j = (its.eraseIdx j).toArray
    rw [List.eraseIdxIfInBounds_toArray]
  · have := List.length_eraseIdx_le (l := ws) (i := j)
    omega
@[simp] def wRemD (i : Nat) (w : WE) : WE := fun ρ Q => (∃ ds, ρ[i]? = some (.own (.list ds))) ∧ w ρ fun d ρ1 => ∃ (ds : List PyData) (j : Nat), ρ1[i]? = some (.own (.list ds)) ∧ PyData.canLayAll0 ds = true ∧ d.canLay0 = true ∧ d.depth ≤ 20 ∧ SeqAt.dataPlace ds d = some j ∧ Q .none (ρ1.set i (.own (.list (ds.eraseIdx j))))
section
variable {R : Res} {X : Cx} {i : Nat} {x : Str} {p apos cpos : Pos} {e : Expr} {w : WE}
theorem Iss.eraseI {K : PySem.W.Frag} {G : Hp} : ∀ {vs : List V} {ds : List PyData} (j : Nat), Iss K G vs ds → Iss K G (vs.eraseIdx j) (ds.eraseIdx j)
  | _, _, _, .nil => .nil
  | _, _, 0, .cons _ t => t
  | _, _, j + 1, .cons h t => .cons h (Iss.eraseI j t)
theorem se_removeD (hu : X.A.units + 65 < cLine) (h : PE X (.Name x p) (tVar i)) (he : SE R X e w) (hbase : attributeBase (.Name x p) "remove" X.env (eval (.Name x p) X.env) = eval (.Name x p) X.env := by rfl)
    (hfew : ((backTo cpos (starEach [e] X.env)).all (fun x => !x.1) && (backToKw cpos (keywordEach [] X.env)).all (fun x => x.1.isSome) && decide ([e].length + ([] : List Keyword).length + (if ([] : List Keyword).isEmpty then 0 else 1) < 30)) = true := by rfl)
    (hline : (apos.endLine == cpos.line) = true := by rfl) (hs : starEach [e] X.env = (false, eval e X.env) :: starEach [] X.env := by rfl) (hplain : (backTo cpos (starEach [] X.env)).any (·.1) = false := by rfl) :
    SE R X (.Call (.Attribute (.Name x p) "remove" apos) [e] [] cpos) (wRemD i w) := by
  refine ⟨fun B => PE.imp (pe_bm PySem.F.plainAttrs_list PySem.F.slot_list_remove PySem.F.type_list_remove (mt_remD hu) h ((ses_cons he ses_nil hs).pa B) hbase hfew hline hs hplain) fun σ H Q ⟨ρ, G, r, ⟨ds0, e0⟩, q⟩ => ?_, fun ρ Q Q' hq ⟨z, q⟩ => ⟨z, he.mono ρ _ _ (fun d ρ1 ⟨ns, j, a, b, c, d', f, q⟩ => ⟨ns, j, a, b, c, d', f, hq _ _ q⟩) q⟩⟩
  obtain ⟨a, vs0, ea, eH, _⟩ := r.ownL e0
  refine ⟨_, ea, tyL eH, ρ, G, r, he.mono ρ _ _ (fun d ρ1 ⟨ds, j, e1, c1, c2, dp, hj, q⟩ us G' H' s r' iv => ?_) q⟩
  obtain ⟨a', vs, ea', eH', iv'⟩ := r'.ownL e1
  rw [ea] at ea'
  cases ea'
  cases iv with
  | cons i1 i2 =>
    cases i2
    exact ⟨a, _, vs, ds, d, j, rfl, rfl, eH', Iss.dp r'.sub c1 iv', Is.dp r'.sub c2 i1, c1, c2, dp, hj, q _ G' _ s (r'.put e1 ea (.lst (iv'.eraseI j))) .non⟩
end
end DL
namespace DL
open PySem PySem.Spec PyProof.Rows L2
/-! ## max(xs, default=d), of whole numbers -/
def rMaxDef (K : PySem.W.Frag) (d : Int) : List V → List V → Hp → VK → Prop := fun vs zs H Q => ∃ (a : Addr) (ns : List Int), vs = [V.ref a] ∧ zs = [V.int d] ∧ SqL K H a (ns.map V.int) ∧ (ns = [] → Q (.int d) H) ∧ ∀ m, m ∈ ns → (∀ y, y ∈ ns → y ≤ m) → Q (.int m) H
theorem maxOf_top : ∀ (ys : List Int) (y : Int), PySem.W.maxOf y ys ∈ y :: ys ∧ ∀ z ∈ y :: ys, z ≤ PySem.W.maxOf y ys
  | [], y => ⟨by simp [PySem.W.maxOf], by simp [PySem.W.maxOf]⟩
  | z :: zs, y => by
    have e : PySem.W.maxOf y (z :: zs) = PySem.W.maxOf (if y < z then z else y) zs := by
      show List.foldl _ _ _ = List.foldl _ _ _
      rw [List.foldl_cons]
      congr 1
      show (if decide (y < z) = true then z else y) = _
      by_cases c : y < z <;> simp [c]
    rw [e]
    obtain ⟨h1, h2⟩ := maxOf_top zs (if y < z then z else y)
    have h3 := h2 _ List.mem_cons_self
    refine ⟨?_, fun x hx => ?_⟩
    · rcases List.mem_cons.mp h1 with h | h
      · rw [h]
        split <;> simp
      · simp [h]
    · by_cases c : y < z
      · rw [if_pos c] at h2 h3 ⊢
        rcases List.mem_cons.mp hx with rfl | hx
        · omega
        · exact h2 x hx
      · rw [if_neg c] at h2 h3 ⊢
        rcases List.mem_cons.mp hx with rfl | hx
        · exact h3
        · rcases List.mem_cons.mp hx with rfl | hx
          · omega
          · exact h2 x (List.mem_cons_of_mem _ hx)
theorem cr_maxDef {X : Cx} {d : Int} (hc : X.calm = true) (hu : X.A.units + 64 < cLine) : CallRK X (.builtin "max") [Str.ofString "default"] (rMaxDef X.K d) := by
  intro pins s σ H vs zs us ws Q I r rz h
  obtain ⟨a, ns, rfl, rfl, hs, q0, q⟩ := h
  obtain ⟨its, rv, hl, _⟩ := I.list hs
  obtain ⟨w1, rfl, e1⟩ := vals1 rz
  rw [Vals.ref1 r]
  obtain ⟨as, hr, _⟩ := Iss.reads I (.inr (canLay_map (f := PyData.int) (fun t => rfl) ns)) (Iss.ints ns) rv
  refine PySem.W.max_list_datum_default (α := Int) (xs := ns) (I.ok.hd hc) hl.isList ⟨as, by rw [List.toList_toArray]; exact hr⟩ (by show X.A.units + 1 + 0 < cLine; omega) (fun e h' tk keep => ?_) fun y ys i v h' tk e hv rd keep => ?_
  · exact ⟨.int d, H, I.kept keep, e1, q0 e⟩
  · obtain ⟨bs, rd⟩ := rd
    obtain ⟨t, rfl⟩ : ∃ t, v = .int (PySem.W.maxOf y ys) t := by
      cases rd
      exact ⟨_, rfl⟩
    obtain ⟨h1, h2⟩ := maxOf_top ys y
    rw [← e] at h1 h2
    exact ⟨.int (PySem.W.maxOf y ys), H, I.kept keep, ⟨_, rfl⟩, q _ h1 h2⟩
@[simp] def maxDefD (d : Int) : D1
  | .list ds, q => ∃ ns : List Int, ds = ns.map PyData.int ∧ (ns = [] → q (.int d)) ∧ ∀ m, m ∈ ns → (∀ y, y ∈ ns → y ≤ m) → q (.int m)
  | _, _ => False
theorem lk_maxDef {R : Res} {K : PySem.W.Frag} {d : Int} : Lk1 R K (fun v H Q => rMaxDef K d [v] [.int d] H Q) (maxDefD d) := by
  refine ⟨fun B G ρ σ H v x Q r hx h => ?_, fun x q q' hq h => ?_⟩
  · cases hx <;> first
      | exact h.elim
      | skip
    rename_i a vs ds sa ha
    obtain ⟨ns, e, h0, q⟩ := h
    subst e
    rw [ha.intsV] at sa
    exact ⟨a, ns, rfl, rfl, .of sa, fun e => aft (h0 e) r (.int _), fun m h1 h2 => aft (q m h1 h2) r (.int _)⟩
  · unfold maxDefD at h ⊢
    split at h
    · obtain ⟨ns, e, h0, k⟩ := h
      exact ⟨ns, e, fun z => hq _ (h0 z), fun m h1 h2 => hq _ (k m h1 h2)⟩
    · exact h.elim
section
variable {R : Res} {X : Cx} {p pos dp kp : Pos} {e : Expr} {a : Od} {d : Int} {dq : Nat}
theorem se_maxDef (hc : X.calm = true) (hu : X.A.units + 64 < cLine) (hg : Gl X "max") (hm : X.mg "max" = none) (ha : SO R X e a)
    (he : starEach [e] X.env = (false, eval e X.env) :: starEach [] X.env := by rfl) (he2 : backTo pos (starEach [e] X.env) = (false, eval e X.env) :: backTo pos (starEach [] X.env) := by rfl) (hpl : (backTo pos (starEach [e] X.env)).any (·.1) = false := by rfl) :
    SE R X (.Call (.Name "max" p) [e] [⟨some "default", .Constant (.int d) dq dp, kp⟩] pos) (wOp1 (maxDefD d) a) :=
  ⟨fun B => PE.imp (pe_callBK (cr_maxDef (d := d) hc hu) hg hm rfl (pa_cons (ha.pe B) pa_nil he) (pk_cons pe_int pk_nil) (by decide) (by decide) he2 hpl (by rfl) (by rfl) (by rfl)) fun σ H Q h => op1 lk_maxDef ha.mono h, mono_op1 (lk_maxDef (R := R) (K := X.K)).mono ha.mono⟩
end
end DL
namespace DL
open PySem PySem.Spec PyProof.Rows L2
/-! ## zip(x, y), a list and a tuple, gone through -/
def ItzM (K : PySem.W.Frag) (a b : Addr) : It :=
  ⟨fun i H => ∃ (xs ys : List V) (x y : V), SqL K H a xs ∧ SqT K H b ys ∧ xs[i]? = some x ∧ ys[i]? = some y,
    fun i H v H' => ∃ T x y, v = .ref T ∧ H T = none ∧ H' = upd H T (.tup [x, y]) ∧ (∀ xs, SqL K H a xs → xs[i]? = some x) ∧ ∀ ys, SqT K H b ys → ys[i]? = some y,
    fun i H => ∃ xs ys : List V, SqL K H a xs ∧ SqT K H b ys ∧ i ≤ xs.length ∧ i ≤ ys.length ∧ (i = xs.length ∨ i = ys.length)⟩
theorem sepM {z TI TO i1 i2 a b : Addr} (D : ZipApart z TI TO i1 i2 a b) (TIa : True) (q1 : TO ≠ a) (q2 : TO ≠ b) (q3 : z ≠ a) (q4 : z ≠ b) (q5 : i1 ≠ b) (q6 : i2 ≠ a) : ZipSep2 z TI TO i1 i2 [i1, a] [i2, b] where
  TIz := D.TIz
  TOz := D.TOz
  TITO := D.TITO
  TIi1 := D.TIi1
  mem1 := by simp
  zf1 := by simp [q3, D.i1z.symm]
  Tf1 := by simp [q1, D.TOi1]
  TIi2 := D.TIi2
  mem2 := by simp
  zf2 := by simp [q4, D.i2z.symm]
  Tf2 := by simp [q2, D.TOi2]
  sep1_2 := by simp [q5, D.i12]
  sep2_1 := by simp [q6, D.i12.symm]
theorem turn_zipM {P : Program} {w : World} {K : PySem.W.Frag} {elts : List Expr} {kk : Nat} {tpos : Pos} {a b z TI TO i1 i2 : Addr} (S : ZipSep2 z TI TO i1 i2 [i1, a] [i2, b]) (ha : a ≠ i1) (hb : b ≠ i2) :
    Turn P w K (.Tuple elts kk tpos) (ItzM K a b) [z, TI, TO, i1, i2] z (fun i h => IsZip h z TI TO .none ∧ IsTupOf2 h TI (.ref i1) (.ref i2) ∧ (∃ x y, IsTupOf2 h TO x y) ∧ h.IsListIter i1 a i ∧ h.IsTupleIter i2 b i) where
  mem := by simp
  obj := fun i h st c hc => by
    obtain ⟨hz, hTI, ⟨x, y, hTO⟩, ⟨o1, e1, _, d1⟩, ⟨o2, e2, _, d2⟩⟩ := st
    have e' : c = z ∨ c = TI ∨ c = TO ∨ c = i1 ∨ c = i2 := by simpa using hc
    rcases e' with q | q | q | q | q
    · rw [q]; exact ⟨_, hz, fun v q => nomatch q⟩
    · rw [q]; exact ⟨_, hTI, fun v q => nomatch q⟩
    · rw [q]; exact ⟨_, hTO, fun v q => nomatch q⟩
    · rw [q]; exact ⟨o1, e1, fun v q => by rw [d1] at q; cases q⟩
    · rw [q]; exact ⟨o2, e2, fun v q => by rw [d2] at q; cases q⟩
  keep := fun i h h' st k => by
    obtain ⟨hz, hTI, ⟨x, y, hTO⟩, h1, h2⟩ := st
    exact ⟨k z (by simp) _ hz, k TI (by simp) _ hTI, ⟨x, y, k TO (by simp) _ hTO⟩, h1.at fun o q => k i1 (by simp) o q, h2.at fun o q => k i2 (by simp) o q⟩
  item := by
    intro X hP hw hK hc i pins s σ H E I hf st hg
    subst hP hw hK
    obtain ⟨hz, hTI, ⟨x0, y0, hTO⟩, h1, h2⟩ := st
    obtain ⟨xs, ys, x, y, hqx, hqy, hx, hy⟩ := hg
    obtain ⟨its, rv, p, _⟩ := I.list hqx
    obtain ⟨its2, rv2, p2, _⟩ := I.tuple hqy
    have l1 := rv.length
    have l2 := rv2.length
    have ix : i < xs.length := (List.getElem?_eq_some_iff.mp hx).1
    have iy : i < ys.length := (List.getElem?_eq_some_iff.mp hy).1
    have hzl : z < s.heap.objs.size := Heap.lt_size hz
    have hh : X.A.handled = none := I.ok.hd hc
    refine wpAny_pyNext_zipD2_item S (Draws.list (A := X.A.in1) hh i1 a ha its.toArray) (Draws.tuple (A := X.A.in1) hh i2 b hb its2.toArray) hz hTI hTO ⟨h1, p.isList⟩ ⟨h2, show s.heap.IsTuple b its2.toArray from p2⟩ (by simp; omega) (by simp; omega) fun u u2 h' tk hu hu2 z' TO' h1' h2' hT hsz hk => ?_
    obtain ⟨v1, k1, ru⟩ := rv.get hx
    obtain ⟨v2, k2, ru2⟩ := rv2.get hy
    have e1 : u = v1 := by
      have : its[i]? = some u := by simpa using hu
      rw [k1] at this
      exact (Option.some.inj this).symm
    have e2 : u2 = v2 := by
      have : its2[i]? = some u2 := by simpa using hu2
      rw [k2] at this
      exact (Option.some.inj this).symm
    subst e1 e2
    refine ⟨_, rfl, wpAny_letOwnedTupleGo_zip (s := { s with heap := h', toks := tk }) z' fun h'' z'' sb => ?_⟩
    have hT2 : h''.get? s.heap.objs.size = some { cls := .type "tuple", data := .seq #[u, u2] } := (sb.2 _ (Nat.ne_of_gt hzl)).trans hT
    have new : ObjOk X.prog X.w (upd H s.heap.objs.size (.tup [x, y])) h'' s.heap.objs.size (.tup [x, y]) :=
      ⟨by show 2 ≤ sizeLine; decide, [u, u2], .cons ru (.cons ru2 .nil), ⟨_, hT2, rfl, _, rfl⟩⟩
    have I1 : Inv X pins σ (upd H s.heap.objs.size (.tup [x, y])) { s with heap := h'', toks := tk } :=
      I.turnedNew (t' := tk) (ch := [z, TI, TO, i1, i2]) (fun c o hb q => (sb.2 c (fun q' => hb (by simp [q']))).trans (hk c o (fun q' => hb (by simp [q'])) (fun q' => hb (by simp [q'])) (fun q' => hb (by simp [q'])) (fun q' => hb (by simp [q'])) q)) hf (Nat.le_refl _) new
    refine ⟨.ref s.heap.objs.size, _, I1, rfl, ⟨_, x, y, rfl, I.hok.fresh (Nat.le_refl _), rfl, fun l hl => by rw [I.list_inj hl hqx]; exact hx, fun l hl => by rw [I.tuple_inj hl hqy]; exact hy⟩, ⟨z'', ?_, ⟨u, u2, ?_⟩, ?_, ?_⟩, fun c hcm => ?_⟩
    · exact (sb.2 _ S.TIz).trans (hk _ _ S.TIz S.TITO S.TIi1 S.TIi2 hTI)
    · exact (sb.2 _ S.TOz).trans TO'
    · exact h1'.1.at fun o q => (sb.2 _ S.zi1.symm).trans q
    · exact h2'.1.at fun o q => (sb.2 _ S.zi2.symm).trans q
    · have hlt : c < s.heap.objs.size := by
        have e' : c = z ∨ c = TI ∨ c = TO ∨ c = i1 ∨ c = i2 := by simpa using hcm
        rcases e' with q | q | q | q | q
        · rw [q]; exact hzl
        · rw [q]; exact Heap.lt_size hTI
        · rw [q]; exact Heap.lt_size hTO
        · rw [q]; obtain ⟨_, e1, _⟩ := h1; exact Heap.lt_size e1
        · rw [q]; obtain ⟨_, e2, _⟩ := h2; exact Heap.lt_size e2
      rw [upd_ne (Nat.ne_of_lt hlt)]
      exact (hf c hcm).1
  done := by
    intro X hP hw hK hc i pins s σ H E I hf st hg
    subst hP hw hK
    obtain ⟨hz, hTI, ⟨x0, y0, hTO⟩, h1, h2⟩ := st
    obtain ⟨xs, ys, hqx, hqy, e1, e2, hend⟩ := hg
    obtain ⟨its, rv, p, _⟩ := I.list hqx
    obtain ⟨its2, rv2, p2, _⟩ := I.tuple hqy
    have l1 := rv.length
    have l2 := rv2.length
    have hh : X.A.handled = none := I.ok.hd hc
    exact wpAny_pyNext_zipD2_end S (Draws.list (A := X.A.in1) hh i1 a ha its.toArray) (Draws.tuple (A := X.A.in1) hh i2 b hb its2.toArray) hz hTI hTO ⟨h1, p.isList⟩ ⟨h2, show s.heap.IsTuple b its2.toArray from p2⟩ (by simp; omega) (by simp; omega) (by simp; omega) fun h' tk hk =>
      ⟨rfl, I.turnedL (t' := tk) (ch := [z, TI, TO, i1, i2]) (fun c o hb q => hk c o (fun q' => hb (by simp [q'])) (fun q' => hb (by simp [q'])) (fun q' => hb (by simp [q'])) (fun q' => hb (by simp [q'])) q) hf⟩
  self := fun A i s Q E st h => wpAny_pyIter_zip st.1 h
theorem ne_lt {a b : Addr} (h : a < b) : b ≠ a := fun e => Nat.lt_irrefl a (by rw [e] at h; exact h)
def iZipM (K : PySem.W.Frag) (ta : TA) : TI := fun σ H R => ta σ H fun vs H1 => ∃ a b xs ys, vs = [.ref a, .ref b] ∧ SqL K H1 a xs ∧ SqT K H1 b ys ∧ R (ItzM K a b) H1
theorem pi_zipM {X : Cx} {e e2 : Expr} {ta : TA} {p pos tpos : Pos} {elts : List Expr} {kk : Nat} (hg : Gl X "zip") (hm : X.mg "zip" = none) (ha : PA X [e, e2] ta)
    (hs : starEach [e, e2] X.env = (false, eval e X.env) :: starEach [e2] X.env := by rfl) (hpl : (backTo pos (starEach [e2] X.env)).any (·.1) = false := by rfl) :
    PI X (.Tuple elts kk tpos) (.Call (.Name "zip" p) [e, e2] [] pos) (iZipM X.K ta) := by
  refine ⟨fun pins s σ H R I h => ?_⟩
  refine Call_ (ld_blt I hg hm PyProof.Rows.boot_zip (PyProof.Rows.callWith_type1 (thn (ha.run pos pins s σ H _ I h) fun us s1 ⟨vs, H1, I1, r1, q1⟩ => ?_) hs hpl))
  obtain ⟨a, b, xs, ys, ex, hqx, hqy, q⟩ := q1
  subst ex
  cases r1 with
  | cons r rr =>
    cases rr with
    | cons r' rr =>
      cases rr
      cases r
      cases r'
      have fresh5 : ∀ c, c ∈ [s1.heap.objs.size + 4, s1.heap.objs.size + 2, s1.heap.objs.size + 3, s1.heap.objs.size, s1.heap.objs.size + 1] → FpOk X pins H1 c := fun c hcm => by
        have e' : c = s1.heap.objs.size + 4 ∨ c = s1.heap.objs.size + 2 ∨ c = s1.heap.objs.size + 3 ∨ c = s1.heap.objs.size ∨ c = s1.heap.objs.size + 1 := by simpa using hcm
        have hle : s1.heap.objs.size ≤ c := by
          rcases e' with z | z | z | z | z
          · rw [z]; exact Nat.le_add_right _ _
          · rw [z]; exact Nat.le_add_right _ _
          · rw [z]; exact Nat.le_add_right _ _
          · rw [z]; exact Nat.le_refl _
          · rw [z]; exact Nat.le_add_right _ _
        exact I1.fpOk hle (I1.hok.fresh hle)
      obtain ⟨its, rv, p1, _⟩ := I1.list hqx
      obtain ⟨its2, rv2, p2, _⟩ := I1.tuple hqy
      obtain ⟨o2, ho2, _⟩ := id p2
      have la : a < s1.heap.objs.size := p1.lt
      have lb : b < s1.heap.objs.size := Heap.lt_size ho2
      have D := PySem.W.ktu_apart s1.heap.objs.size a b la lb
      refine zip_begins2 (begins_list a its.toArray) (begins_tuple b its2.toArray) p1.isList (show s1.heap.IsTuple b its2.toArray from p2) fun h' hz hTI hTO h1 h2 hsz hk => wpAny_pyIter_zip hz ?_
      have I2 : Inv X pins σ H1 { s1 with heap := h' } := I1.kept (t' := s1.toks) hk
      have S := sepM D trivial (ne_lt (Nat.lt_of_lt_of_le la (Nat.le_add_right _ 3))) (ne_lt (Nat.lt_of_lt_of_le lb (Nat.le_add_right _ 3))) (ne_lt (Nat.lt_of_lt_of_le la (Nat.le_add_right _ 4))) (ne_lt (Nat.lt_of_lt_of_le lb (Nat.le_add_right _ 4))) (ne_lt lb) (ne_lt (Nat.lt_of_lt_of_le la (Nat.le_add_right _ 1)))
      exact ⟨s1.heap.objs.size + 4, [s1.heap.objs.size + 4, s1.heap.objs.size + 2, s1.heap.objs.size + 3, s1.heap.objs.size, s1.heap.objs.size + 1], _, _, H1, rfl, I2, turn_zipM S (ne_lt la).symm (ne_lt (Nat.lt_of_lt_of_le lb (Nat.le_add_right _ 1))).symm, ⟨hz, hTI, ⟨_, _, hTO⟩, ⟨_, h1, rfl, rfl⟩, ⟨_, h2, rfl, rfl⟩⟩, fresh5, q⟩
section
variable {K : PySem.W.Frag} {G : Hp}
theorem itd_zipM {a b : Addr} {vs us : List V} {ds es : List PyData} (sa : G a = some (.lst vs)) (sb : SqT K G b us) (ha : Iss K G vs ds) (hb : Iss K G us es) : ItD K G (ItzM K a b) (zipD ds es) := by
  refine ⟨fun i H hi q => ?_, fun H q => ?_, fun i H v H' x e q y => ?_⟩
  · rw [zipD_length] at hi
    obtain ⟨x, e1, _⟩ := ha.get (List.getElem?_eq_getElem (show i < ds.length by omega))
    obtain ⟨y, e2, _⟩ := hb.get (List.getElem?_eq_getElem (show i < es.length by omega))
    exact ⟨vs, us, x, y, .of (q _ _ sa), Sub.seqT q sb, e1, e2⟩
  · refine ⟨vs, us, .of (q _ _ sa), Sub.seqT q sb, ?_⟩
    rw [zipD_length, ha.length, hb.length]
    omega
  · obtain ⟨d1, d2, e1, e2, rfl⟩ := zipD_get e
    obtain ⟨u1, f1, i1⟩ := ha.get e1
    obtain ⟨u2, f2, i2⟩ := hb.get e2
    obtain ⟨T, x, y', rfl, hT, rfl, hx, hy⟩ := y
    have g1 := hx vs (.of (q _ _ sa))
    have g2 := hy us (Sub.seqT q sb)
    rw [f1] at g1
    rw [f2] at g2
    cases g1
    cases g2
    exact .inr ⟨T, _, [d1, d2], hT, rfl, rfl, .cons i1 (.cons i2 .nil), rfl⟩
end
@[simp] def wZipM (w1 w2 : WE) : WI := fun ρ Q => wEs [w1, w2] ρ fun ds ρ' => ∃ xs ys, ds = [.list xs, .tuple ys] ∧ Q (zipD xs ys) ρ'
theorem si_zipM {R : Res} {X : Cx} {e e2 : Expr} {w1 w2 : WE} {p pos tpos : Pos} {elts : List Expr} {kk : Nat} (hg : Gl X "zip") (hm : X.mg "zip" = none) (h : SEs R X [e, e2] [w1, w2])
    (hs : starEach [e, e2] X.env = (false, eval e X.env) :: starEach [e2] X.env := by rfl) (hpl : (backTo pos (starEach [e2] X.env)).any (·.1) = false := by rfl) :
    SI R X (.Tuple elts kk tpos) (.Call (.Name "zip" p) [e, e2] [] pos) (wZipM w1 w2) := by
  refine ⟨fun B => ⟨fun pins s σ H q I ⟨ρ, G, r, h'⟩ => (pi_zipM hg hm (h.pa B) hs hpl).run pins s σ H q I ?_⟩, fun ρ Q Q' hq => h.mono.run fun ds ρ' ⟨xs, ys, e, q⟩ => ⟨xs, ys, e, hq _ _ q⟩⟩
  refine ⟨ρ, G, r, h.mono.run (fun ds ρ' ⟨xs, ys, e, k⟩ vs G' H' s r' i => ?_) h'⟩
  subst e
  cases i with
  | cons i1 i2 =>
    cases i2 with
    | cons i3 i4 =>
      cases i4
      cases i1 with
      | lst sa ha =>
        cases i3 with
        | tup sb hb => exact ⟨_, _, _, _, rfl, .of (r'.sub _ _ sa), Sub.seqT r'.sub sb, k _ G' H' s r' (itd_zipM sa sb ha hb)⟩
end DL
namespace K56
open PySem PySem.Spec PyProof.Rows L2 DL
def topS (i : Nat) : Stmt := PySem.Challenge.pw_baylines_k56_whole_full_books_and_fewest.main.body.getD i (.Pass ⟨0, 0, 0, 0⟩)
abbrev s_ahead : Stmt := topS 1
theorem sc_ahead : FnScope ["row", "place", "kind"] ["row", "place"] (defScope s_ahead) := ⟨rfl, rfl, rfl, by decide +kernel, rfl, by decide +kernel, by decide +kernel⟩
abbrev s_through : Stmt := topS 3
theorem sc_through : FnScope ["book", "row", "pair", "passing", "came_out", "held", "thing"] ["book", "row"] (defScope s_through) := ⟨rfl, rfl, rfl, by decide +kernel, rfl, by decide +kernel, by decide +kernel⟩
abbrev s_full : Stmt := topS 5
theorem sc_full : FnScope ["n", "x", "h"] ["n"] (defScope s_full) := ⟨rfl, rfl, rfl, by decide +kernel, rfl, by decide +kernel, by decide +kernel⟩
abbrev s_fewest_full : Stmt := topS 6
theorem sc_fewest_full : FnScope ["row", "place"] ["row"] (defScope s_fewest_full) := ⟨rfl, rfl, rfl, by decide +kernel, rfl, by decide +kernel, by decide +kernel⟩
abbrev s__law_deck : Stmt := topS 8
theorem sc__law_deck : FnScope ["script", "deck", "cell", "amount"] ["script"] (defScope s__law_deck) := ⟨rfl, rfl, rfl, by decide +kernel, rfl, by decide +kernel, by decide +kernel⟩
abbrev s__law_draw : Stmt := topS 9
theorem sc__law_draw : FnScope ["deck", "many", "amount", "number"] ["deck", "many"] (defScope s__law_draw) := ⟨rfl, rfl, rfl, by decide +kernel, rfl, by decide +kernel, by decide +kernel⟩
abbrev s__law_pick : Stmt := topS 10
theorem sc__law_pick : FnScope ["deck", "items"] ["deck", "items"] (defScope s__law_pick) := ⟨rfl, rfl, rfl, by decide +kernel, rfl, by decide +kernel, by decide +kernel⟩
abbrev s__law_bay : Stmt := topS 11
theorem sc__law_bay : FnScope ["book", "things", "held", "out", "thing"] ["book", "things"] (defScope s__law_bay) := ⟨rfl, rfl, rfl, by decide +kernel, rfl, by decide +kernel, by decide +kernel⟩
abbrev s__law_lesser : Stmt := topS 12
theorem sc__law_lesser : FnScope ["n", "had", "x", "h"] ["n"] (defScope s__law_lesser) := ⟨rfl, rfl, rfl, by decide +kernel, rfl, by decide +kernel, by decide +kernel⟩
abbrev s__law_row : Stmt := topS 13
theorem sc__law_row : FnScope ["deck", "n", "way", "many", "spot", "row"] ["deck", "n"] (defScope s__law_row) := ⟨rfl, rfl, rfl, by decide +kernel, rfl, by decide +kernel, by decide +kernel⟩
abbrev s__law_ahead_of : Stmt := topS 14
theorem sc__law_ahead_of : FnScope ["row", "place", "kind"] ["row", "place"] (defScope s__law_ahead_of) := ⟨rfl, rfl, rfl, by decide +kernel, rfl, by decide +kernel, by decide +kernel⟩
abbrev s__law_by_bays : Stmt := topS 15
theorem sc__law_by_bays : FnScope ["n", "row", "amount", "book"] ["n", "row"] (defScope s__law_by_bays) := ⟨rfl, rfl, rfl, by decide +kernel, rfl, by decide +kernel, by decide +kernel⟩
abbrev s__law_is_right : Stmt := topS 16
theorem sc__law_is_right : FnScope ["deck", "n", "row", "is_named", "known", "due", "place", "numbers", "told", "behind", "kind", "number", "own", "first", "later"] ["deck", "n", "row", "is_named"] (defScope s__law_is_right) := ⟨rfl, rfl, rfl, by decide +kernel, rfl, by decide +kernel, by decide +kernel⟩
abbrev s_law : Stmt := topS 17
theorem sc_law : FnScope ["script", "deck", "n", "told", "turn", "row"] ["script"] (defScope s_law) := ⟨rfl, rfl, rfl, by decide +kernel, rfl, by decide +kernel, by decide +kernel⟩
/-- what the top has not changed -/
structure Bi (mg : Str → Option Value) : Prop where
  b_abs : mg "abs" = none
  b_enumerate : mg "enumerate" = none
  b_int : mg "int" = none
  b_isinstance : mg "isinstance" = none
  b_len : mg "len" = none
  b_list : mg "list" = none
  b_max : mg "max" = none
  b_min : mg "min" = none
  b_range : mg "range" = none
  b_repr : mg "repr" = none
  b_sorted : mg "sorted" = none
  b_tuple : mg "tuple" = none
  b_zip : mg "zip" = none
section
variable {R : Res} {P : Program} {w : World} {K : PySem.W.Frag} {mg : Str → Option Value} {base : Heap} {k : Nat} (B : Bi mg) (hs : SysIn base) {fa : Addr} {cdv : Value} {A : Around} {outer : List PySem.Env} {s : Shared} {H : Hp} {E : XK}
include B hs
def w_ahead : WS := wRet (wOp1 lenD (.v (wLc (wI (wSl slD (.s 0) (.no) (.e (wVar 1)))) (wgName 2) (wTst (wOp2 gtD (.s 2) (.v (wOp2 ixD (.s 0) (.s 1))))) (wVar 2) [2])))
theorem t_ahead (hg : (A.deeper (envOfC "ahead" (defScope s_ahead) s.heap.objs.size fa cdv)).guards = some []) (hr : Room k (A.deeper (envOfC "ahead" (defScope s_ahead) s.heap.objs.size fa cdv))) : SSs R (cxOf CX0 P w K mg base ["row", "place", "kind"] "ahead" (defScope s_ahead) fa cdv A outer s H E).nox (defBody s_ahead) w_ahead :=
  sss_one (ss_ret (se_b1 call_len lk_len (by rfl) B.b_len (by decide +kernel) (so_val ((sf_lc rfl sc_ahead.nd (si_seq (se_slice sl_D lk_sl (so_var (pv 0)) (sp_no) (sp_e (se_var (pv 1))))) (blkOk_by (own := [("kind", 2)]) (by rfl)) (fun s H C cl fp => sg_name (i := 2) (pg_name (x := "kind") sc_ahead.nd rfl (by first | exact .inl rfl | exact .inr rfl))) (by decide) (fun s H C cl fp => sts_one (st_cmp op_gt lk_gt (so_var (pv 2)) (so_val (se_ix ix_seq lk_ix (so_var (pv 0)) (so_var (pv 1)) (fun _ _ => by with_unfolding_all rfl))) (nomark _))) (fun s H C cl fp => se_var (pv 2))).se))))
def w_through : WS := wSeq (wSetO 3 (wDc (wI (wVar 0)) (wgName 2) (wYes) (wVar 2) (wC (.bool true)) [2])) (wSeq (wSetO 4 (wLst [])) (wSeq (wSet 5 (wC .none)) (wSeq (wFor (wI (wVar 1)) (wgName 6) (wIfS (wTst (wOp2 (ninD false) (.v (wTup [wVar 6, wVar 5])) (.s 3))) (wDrop (wApp 4 (wVar 6))) (wSeq (wDrop (wApp 4 (wVar 5))) (wSet 5 (wVar 6))))) (wSeq (wDrop (wApp 4 (wVar 5))) (wRet (wOp1 tupD (.v (wSl slD (.s 4) (.e (wC (.int 1))) (.no)))))))))
theorem t_through (hg : (A.deeper (envOfC "through" (defScope s_through) s.heap.objs.size fa cdv)).guards = some []) (hr : Room k (A.deeper (envOfC "through" (defScope s_through) s.heap.objs.size fa cdv))) : SSs R (cxOf CX0 P w K mg base ["book", "row", "pair", "passing", "came_out", "held", "thing"] "through" (defScope s_through) fa cdv A outer s H E).nox (defBody s_through) w_through :=
  sss_cons (ss_setDc (i := 3) (hu64 hr) rfl sc_through.nd rfl rfl (by rfl) (si_seq (se_var (pv 0))) (blkOk_by (own := [("pair", 2)]) (by rfl)) (fun s H C cl fp => sg_name (i := 2) (pg_name (x := "pair") sc_through.nd rfl (by first | exact .inl rfl | exact .inr rfl))) (by decide) (fun s H C cl fp => sts_nil) (fun s H C cl fp => se_var (pv 2)) (fun s H C cl fp => se_bl)) (sss_cons (ss_setO (i := 4) sc_through.nd rfl (by first | exact .inl rfl | exact .inr rfl) (sf_lst (ses_nil))) (sss_cons (ss_set (i := 5) sc_through.nd rfl (by first | exact .inl rfl | exact .inr rfl) (se_non)) (sss_cons (ss_for PassesOwn.never rfl (si_seq (se_var (pv 1))) (sg_name (i := 6) (pg_name (x := "thing") sc_through.nd rfl (by first | exact .inl rfl | exact .inr rfl))) (sss_one (ss_if (st_cmp (op_nin (hu64 hr)) lk_nin (so_val (se_tup (ses_cons (se_var (pv 6)) (ses_cons (se_var (pv 5)) (ses_nil))))) (so_var (pv 3)) (by rfl)) (sss_one (ss_expr (se_append (pv 4) (se_var (pv 6))))) (sss_cons (ss_expr (se_append (pv 4) (se_var (pv 5)))) (sss_one (ss_set (i := 5) sc_through.nd rfl (by first | exact .inl rfl | exact .inr rfl) (se_var (pv 6)))))))) (sss_cons (ss_expr (se_append (pv 4) (se_var (pv 5)))) (sss_one (ss_ret (se_t1 call_tuple_of lk_tuple (by rfl) B.b_tuple (by decide +kernel) (so_val (se_slice sl_D lk_sl (so_var (pv 4)) (sp_e (se_int)) (sp_no))))))))))
def w_full : WS := wRet (wOp1 tupD (.v (wLc2 (wRng1 (wVar 0)) (wgName 1) (wYes) (wRng2 (wOp2 addD (.s 1) (.v (wC (.int 1)))) (wVar 0)) (wgName 2) (wYes) (wTup [wVar 1, wVar 2]) [1, 2] [2])))
theorem t_full (hg : (A.deeper (envOfC "full" (defScope s_full) s.heap.objs.size fa cdv)).guards = some []) (hr : Room k (A.deeper (envOfC "full" (defScope s_full) s.heap.objs.size fa cdv))) : SSs R (cxOf CX0 P w K mg base ["n", "x", "h"] "full" (defScope s_full) fa cdv A outer s H E).nox (defBody s_full) w_full :=
  sss_one (ss_ret (se_t1 call_tuple_of lk_tuple (by rfl) B.b_tuple (by decide +kernel) (so_val ((sf_lc2 rfl sc_full.nd (vs1 := [2]) (si_rng1 (by rfl) B.b_range (se_var (pv 0))) (blkOk_by (own := [("x", 1), ("h", 2)]) (by rfl)) ⟨fun s H C cl fp => sg_name (i := 1) (pg_name (x := "x") sc_full.nd rfl (by first | exact .inl rfl | exact .inr rfl)), fun s H C cl fp => sts_nil, fun s H C cl fp => si_rng2 (by rfl) B.b_range (se_bin op_addD lk_add (so_var (pv 1)) (so_val (se_int))) (se_var (pv 0)), fun s H C cl fp => sg_name (i := 2) (pg_name (x := "h") sc_full.nd rfl (by first | exact .inl rfl | exact .inr rfl)), fun s H C cl fp => sts_nil, fun s H C cl fp => se_tup (ses_cons (se_var (pv 1)) (ses_cons (se_var (pv 2)) (ses_nil)))⟩ (by decide) (by decide) (by decide)).se))))
def w_fewest_full (S_ahead : Sd) : WS := wRet (wOp1 (maxDefD 0) (.v (wLc (wRng1 (wOp1 lenD (.s 0))) (wgName 1) (wYes) (wCall S_ahead [.e (wVar 0), .e (wVar 1)]) [1])))
theorem t_fewest_full {S_ahead : Sd} (D_ahead : Def R P w K mg base k "ahead" s_ahead ["row", "place"] S_ahead) (hg : (A.deeper (envOfC "fewest_full" (defScope s_fewest_full) s.heap.objs.size fa cdv)).guards = some []) (hr : Room k (A.deeper (envOfC "fewest_full" (defScope s_fewest_full) s.heap.objs.size fa cdv))) : SSs R (cxOf CX0 P w K mg base ["row", "place"] "fewest_full" (defScope s_fewest_full) fa cdv A outer s H E).nox (defBody s_fewest_full) (w_fewest_full S_ahead) :=
  sss_one (ss_ret (se_maxDef rfl (hu64 hr) (by rfl) B.b_max (so_val ((sf_lc rfl sc_fewest_full.nd (si_rng1 (by rfl) B.b_range (se_b1 call_len lk_len (by rfl) B.b_len (by decide +kernel) (so_var (pv 0)))) (blkOk_by (own := [("place", 1)]) (by rfl)) (fun s H C cl fp => sg_name (i := 1) (pg_name (x := "place") sc_fewest_full.nd rfl (by first | exact .inl rfl | exact .inr rfl))) (by decide) (fun s H C cl fp => sts_nil) (fun s H C cl fp => se_cD D_ahead hg hr (sa_cons (se_var (pv 0)) (sa_cons (se_var (pv 1)) (sa_nil))))).se))))
def w__law_pick (S__law_draw : Sd) : WS := wRet (wOp2 ixD (.s 1) (.v (wCall S__law_draw [.loom 0, .e (wOp1 lenD (.s 1))])))
theorem t__law_pick {S__law_draw : Sd} (D__law_draw : Def R P w K mg base k "_law_draw" s__law_draw ["deck", "many"] S__law_draw) (hg : (A.deeper (envOfC "_law_pick" (defScope s__law_pick) s.heap.objs.size fa cdv)).guards = some []) (hr : Room k (A.deeper (envOfC "_law_pick" (defScope s__law_pick) s.heap.objs.size fa cdv))) : SSs R (cxOf CX0 P w K mg base ["deck", "items"] "_law_pick" (defScope s__law_pick) fa cdv A outer s H E).nox (defBody s__law_pick) (w__law_pick S__law_draw) :=
  sss_one (ss_ret (se_ix ix_seq lk_ix (so_var (pv 1)) (so_val (se_cD D__law_draw hg hr (sa_loom (pv 0) (sa_cons (se_b1 call_len lk_len (by rfl) B.b_len (by decide +kernel) (so_var (pv 1))) (sa_nil))))) (fun _ _ => by with_unfolding_all rfl)))
def w__law_bay : WS := wSeq (wParDO 2 3 (wC .none) (wLst [])) (wSeq (wFor (wI (wVar 1)) (wgName 4) (wIfS (wTst (wOp2 (isND false) (.s 2) (.v (wC .none)))) (wSet 2 (wVar 4)) (wIfS (wTst (wOp2 (inXD false) (.v (wTup [wVar 4, wVar 2])) (.s 0))) (wDrop (wApp 3 (wVar 4))) (wSeq (wDrop (wApp 3 (wVar 2))) (wSet 2 (wVar 4)))))) (wRet (wIf (wTst (wOp2 (isND false) (.s 2) (.v (wC .none)))) (wVar 3) (wOp2 addD (.s 3) (.v (wLst [wVar 2]))))))
theorem t__law_bay (hg : (A.deeper (envOfC "_law_bay" (defScope s__law_bay) s.heap.objs.size fa cdv)).guards = some []) (hr : Room k (A.deeper (envOfC "_law_bay" (defScope s__law_bay) s.heap.objs.size fa cdv))) : SSs R (cxOf CX0 P w K mg base ["book", "things", "held", "out", "thing"] "_law_bay" (defScope s__law_bay) fa cdv A outer s H E).nox (defBody s__law_bay) w__law_bay :=
  sss_cons (ss_parDO (i := 2) (j := 3) rfl sc__law_bay.nd rfl rfl rfl rfl (se_non) (sf_lst (ses_nil))) (sss_cons (ss_for PassesOwn.never rfl (si_seq (se_var (pv 1))) (sg_name (i := 4) (pg_name (x := "thing") sc__law_bay.nd rfl (by first | exact .inl rfl | exact .inr rfl))) (sss_one (ss_if (st_cmp op_isN lk_isN (so_var (pv 2)) (so_val (se_non)) (nomark _)) (sss_one (ss_set (i := 2) sc__law_bay.nd rfl (by first | exact .inl rfl | exact .inr rfl) (se_var (pv 4)))) (sss_one (ss_if (st_cmp (op_inX (hu65 hr)) lk_inX (so_val (se_tup (ses_cons (se_var (pv 4)) (ses_cons (se_var (pv 2)) (ses_nil))))) (so_var (pv 0)) (by rfl)) (sss_one (ss_expr (se_append (pv 3) (se_var (pv 4))))) (sss_cons (ss_expr (se_append (pv 3) (se_var (pv 2)))) (sss_one (ss_set (i := 2) sc__law_bay.nd rfl (by first | exact .inl rfl | exact .inr rfl) (se_var (pv 4)))))))))) (sss_one (ss_ret (se_if (st_cmp op_isN lk_isN (so_var (pv 2)) (so_val (se_non)) (nomark _)) (se_var (pv 3)) (se_bin op_addD lk_add (so_var (pv 3)) (so_val (se_lst (ses_cons (se_var (pv 2)) (ses_nil)))))))))
def w__law_lesser : WS := wSeq (wSet 1 (wC (.list []))) (wSeq (wFor (wRng1 (wVar 0)) (wgName 2) (wSet 1 (wOp2 addD (.s 1) (.v (wLc (wRng2 (wOp2 addD (.s 2) (.v (wC (.int 1)))) (wVar 0)) (wgName 3) (wYes) (wTup [wVar 2, wVar 3]) [3]))))) (wRet (wOp1 tupD (.s 1))))
theorem t__law_lesser (hg : (A.deeper (envOfC "_law_lesser" (defScope s__law_lesser) s.heap.objs.size fa cdv)).guards = some []) (hr : Room k (A.deeper (envOfC "_law_lesser" (defScope s__law_lesser) s.heap.objs.size fa cdv))) : SSs R (cxOf CX0 P w K mg base ["n", "had", "x", "h"] "_law_lesser" (defScope s__law_lesser) fa cdv A outer s H E).nox (defBody s__law_lesser) w__law_lesser :=
  sss_cons (ss_set (i := 1) sc__law_lesser.nd rfl (by first | exact .inl rfl | exact .inr rfl) (se_clst (scs_nil))) (sss_cons (ss_for PassesOwn.never rfl (si_rng1 (by rfl) B.b_range (se_var (pv 0))) (sg_name (i := 2) (pg_name (x := "x") sc__law_lesser.nd rfl (by first | exact .inl rfl | exact .inr rfl))) (sss_one (ss_set (i := 1) sc__law_lesser.nd rfl (by first | exact .inl rfl | exact .inr rfl) (se_bin op_addD lk_add (so_var (pv 1)) (so_val ((sf_lc rfl sc__law_lesser.nd (si_rng2 (by rfl) B.b_range (se_bin op_addD lk_add (so_var (pv 2)) (so_val (se_int))) (se_var (pv 0))) (blkOk_by (own := [("h", 3)]) (by rfl)) (fun s H C cl fp => sg_name (i := 3) (pg_name (x := "h") sc__law_lesser.nd rfl (by first | exact .inl rfl | exact .inr rfl))) (by decide) (fun s H C cl fp => sts_nil) (fun s H C cl fp => se_tup (ses_cons (se_var (pv 2)) (ses_cons (se_var (pv 3)) (ses_nil))))).se)))))) (sss_one (ss_ret (se_t1 call_tuple_of lk_tuple (by rfl) B.b_tuple (by decide +kernel) (so_var (pv 1))))))
def w__law_row (S__law_draw : Sd) (S__law_pick : Sd) : WS := wSeq (wPar 2 3 [wCall S__law_draw [.loom 0, .e (wC (.int 7))], wCall S__law_pick [.loom 0, .e (wC (.list [.int 0, .int 1, .int 2, .int 5, .int 9, .int 20]))]]) (wSeq (wSetO 5 (wLc (wRng1 (wVar 3)) (wgName 4) (wYes) (wCall S__law_draw [.loom 0, .e (wVar 1)]) [4])) (wSeq (wIfS (wTst (wOp2 eqXD (.s 2) (.v (wC (.int 0))))) (wRet (wOp1 tupD (.v (wOp1 sortXD (.s 5))))) (wNx)) (wSeq (wIfS (wTst (wOp2 eqXD (.s 2) (.v (wC (.int 1))))) (wRet (wRev (.v (wOp1 tupD (.v (wOp1 sortXD (.s 5))))))) (wNx)) (wSeq (wIfS (wTst (wOp2 eqXD (.s 2) (.v (wC (.int 2))))) (wRet (wOp2 addD (.v (wOp2 mulXD (.v (wTup [wOp2 subD (.s 1) (.v (wC (.int 1)))])) (.s 3))) (.v (wC (.tuple [.int 0]))))) (wNx)) (wRet (wOp1 tupD (.s 5)))))))
theorem t__law_row {S__law_draw : Sd} (D__law_draw : Def R P w K mg base k "_law_draw" s__law_draw ["deck", "many"] S__law_draw) {S__law_pick : Sd} (D__law_pick : Def R P w K mg base k "_law_pick" s__law_pick ["deck", "items"] S__law_pick) (hg : (A.deeper (envOfC "_law_row" (defScope s__law_row) s.heap.objs.size fa cdv)).guards = some []) (hr : Room k (A.deeper (envOfC "_law_row" (defScope s__law_row) s.heap.objs.size fa cdv))) : SSs R (cxOf CX0 P w K mg base ["deck", "n", "way", "many", "spot", "row"] "_law_row" (defScope s__law_row) fa cdv A outer s H E).nox (defBody s__law_row) (w__law_row S__law_draw S__law_pick) :=
  sss_cons (ss_par (i := 2) (j := 3) rfl sc__law_row.nd rfl rfl rfl rfl (ses_cons (se_cD D__law_draw hg hr (sa_loom (pv 0) (sa_cons (se_int) (sa_nil)))) (ses_cons (se_cD D__law_pick hg hr (sa_loom (pv 0) (sa_cons (se_clst (scs_cons (se_int) (scs_cons (se_int) (scs_cons (se_int) (scs_cons (se_int) (scs_cons (se_int) (scs_cons (se_int) (scs_nil)))))))) (sa_nil)))) (ses_nil)))) (sss_cons (ss_setLc (i := 5) rfl sc__law_row.nd rfl rfl (by rfl) (si_rng1 (by rfl) B.b_range (se_var (pv 3))) (blkOk_by (own := [("spot", 4)]) (by rfl)) (fun s H C cl fp => sg_name (i := 4) (pg_name (x := "spot") sc__law_row.nd rfl (by first | exact .inl rfl | exact .inr rfl))) (by decide) (fun s H C cl fp => sts_nil) (fun s H C cl fp => se_cD D__law_draw hg hr (sa_loom (pv 0) (sa_cons (se_var (pv 1)) (sa_nil))))) (sss_cons (ss_if (st_cmp (op_eqX hr.units) lk_eqX (so_var (pv 2)) (so_val (se_int)) (nomark _)) (sss_one (ss_ret (se_t1 call_tuple_of lk_tuple (by rfl) B.b_tuple (by decide +kernel) (so_val ((sf_b1 cr_sortX lkF_sortX (by rfl) B.b_sorted (by decide +kernel) (so_var (pv 5))).se))))) (sss_nil)) (sss_cons (ss_if (st_cmp (op_eqX hr.units) lk_eqX (so_var (pv 2)) (so_val (se_int)) (nomark _)) (sss_one (ss_ret (se_rev (so_val (se_t1 call_tuple_of lk_tuple (by rfl) B.b_tuple (by decide +kernel) (so_val ((sf_b1 cr_sortX lkF_sortX (by rfl) B.b_sorted (by decide +kernel) (so_var (pv 5))).se)))) pe_neg))) (sss_nil)) (sss_cons (ss_if (st_cmp (op_eqX hr.units) lk_eqX (so_var (pv 2)) (so_val (se_int)) (nomark _)) (sss_one (ss_ret (se_bin op_addD lk_add (so_val (se_bin op_mulX lk_mulX (so_val (se_tup (ses_cons (se_bin op_sub lk_sub (so_var (pv 1)) (so_val (se_int))) (ses_nil)))) (so_var (pv 3)))) (so_val (se_ctup (scs_cons (se_int) (scs_nil))))))) (sss_nil)) (sss_one (ss_ret (se_t1 call_tuple_of lk_tuple (by rfl) B.b_tuple (by decide +kernel) (so_var (pv 5)))))))))
def w__law_ahead_of : WS := wRet (wOp1 lenD (.v (wLc (wI (wSl slD (.s 0) (.no) (.e (wVar 1)))) (wgName 2) (wTst (wOp2 gtD (.s 2) (.v (wOp2 ixD (.s 0) (.s 1))))) (wVar 2) [2])))
theorem t__law_ahead_of (hg : (A.deeper (envOfC "_law_ahead_of" (defScope s__law_ahead_of) s.heap.objs.size fa cdv)).guards = some []) (hr : Room k (A.deeper (envOfC "_law_ahead_of" (defScope s__law_ahead_of) s.heap.objs.size fa cdv))) : SSs R (cxOf CX0 P w K mg base ["row", "place", "kind"] "_law_ahead_of" (defScope s__law_ahead_of) fa cdv A outer s H E).nox (defBody s__law_ahead_of) w__law_ahead_of :=
  sss_one (ss_ret (se_b1 call_len lk_len (by rfl) B.b_len (by decide +kernel) (so_val ((sf_lc rfl sc__law_ahead_of.nd (si_seq (se_slice sl_D lk_sl (so_var (pv 0)) (sp_no) (sp_e (se_var (pv 1))))) (blkOk_by (own := [("kind", 2)]) (by rfl)) (fun s H C cl fp => sg_name (i := 2) (pg_name (x := "kind") sc__law_ahead_of.nd rfl (by first | exact .inl rfl | exact .inr rfl))) (by decide) (fun s H C cl fp => sts_one (st_cmp op_gt lk_gt (so_var (pv 2)) (so_val (se_ix ix_seq lk_ix (so_var (pv 0)) (so_var (pv 1)) (fun _ _ => by with_unfolding_all rfl))) (nomark _))) (fun s H C cl fp => se_var (pv 2))).se))))
def w__law_by_bays (S__law_lesser : Sd) (S__law_bay : Sd) : WS := wSeq (wPar 2 3 [wC (.int 0), wCall S__law_lesser [.e (wVar 0)]]) (wSeq (wWh (wTst (wOp2 neXD (.v (wOp1 lstXD (.s 1))) (.v (wOp1 sortXD (.s 1))))) (wSeq (wSet 1 (wOp1 tupD (.v (wCall S__law_bay [.e (wVar 3), .e (wVar 1)])))) (wSet 2 (wOp2 addD (.s 2) (.v (wC (.int 1))))))) (wRet (wVar 2)))
theorem t__law_by_bays {S__law_lesser : Sd} (D__law_lesser : Def R P w K mg base k "_law_lesser" s__law_lesser ["n"] S__law_lesser) {S__law_bay : Sd} (D__law_bay : Def R P w K mg base k "_law_bay" s__law_bay ["book", "things"] S__law_bay) (hg : (A.deeper (envOfC "_law_by_bays" (defScope s__law_by_bays) s.heap.objs.size fa cdv)).guards = some []) (hr : Room k (A.deeper (envOfC "_law_by_bays" (defScope s__law_by_bays) s.heap.objs.size fa cdv))) : SSs R (cxOf CX0 P w K mg base ["n", "row", "amount", "book"] "_law_by_bays" (defScope s__law_by_bays) fa cdv A outer s H E).nox (defBody s__law_by_bays) (w__law_by_bays S__law_lesser S__law_bay) :=
  sss_cons (ss_par (i := 2) (j := 3) rfl sc__law_by_bays.nd rfl rfl rfl rfl (ses_cons (se_int) (ses_cons (se_cD D__law_lesser hg hr (sa_cons (se_var (pv 0)) (sa_nil))) (ses_nil)))) (sss_cons (ss_while PassesOwn.never (st_cmp (op_neX hr.units) lk_neX (so_val (se_t1 (call_listX rfl) lk_listX (by rfl) B.b_list (by decide +kernel) (so_var (pv 1)))) (so_val ((sf_b1 cr_sortX lkF_sortX (by rfl) B.b_sorted (by decide +kernel) (so_var (pv 1))).se)) (nomark _)) (sss_cons (ss_set (i := 1) sc__law_by_bays.nd rfl (by first | exact .inl rfl | exact .inr rfl) (se_t1 call_tuple_of lk_tuple (by rfl) B.b_tuple (by decide +kernel) (so_val (se_cD D__law_bay hg hr (sa_cons (se_var (pv 3)) (sa_cons (se_var (pv 1)) (sa_nil))))))) (sss_one (ss_set (i := 2) sc__law_by_bays.nd rfl (by first | exact .inl rfl | exact .inr rfl) (se_bin op_addD lk_add (so_var (pv 2)) (so_val (se_int))))))) (sss_one (ss_ret (se_var (pv 2)))))
def w__law_is_right (S__law_by_bays : Sd) (S__law_ahead_of : Sd) (S_ahead : Sd) (S_fewest_full : Sd) (S_through : Sd) (S_full : Sd) (S__law_bay : Sd) (S__law_lesser : Sd) : WS := wSeq (wPar 4 5 [wOp1 shownD (.s 2), wCall S__law_by_bays [.e (wVar 1), .e (wVar 2)]]) (wSeq (wSetO 7 (wLc (wRng1 (wOp1 lenD (.s 2))) (wgName 6) (wYes) (wCall S__law_ahead_of [.e (wVar 2), .e (wVar 6)]) [6])) (wSeq (wIfS (wOr (wTst (wOp2 neXD (.s 5) (.v (wOp1 maxD (.v (wOp2 addD (.v (wC (.list [.int 0]))) (.s 7))))))) (wTst (wOp2 neXD (.v (wLc (wRng1 (wOp1 lenD (.s 2))) (wgName 6) (wYes) (wCall S_ahead [.e (wVar 2), .e (wVar 6)]) [6])) (.s 7)))) (wRet (wC (.bool false))) (wNx)) (wSeq (wSet 8 (wLst [wIf (wTst (wVar 3)) (wCallK S_fewest_full (0, 1, [0]) [] [.e (wVar 2)]) (wCall S_fewest_full [.e (wVar 2)]), wCall S_fewest_full [.e (wVar 2)]])) (wSeq (wIfS (wOr (wTst (wOp2 neXD (.v (wOp1 shownD (.s 8))) (.v (wOp1 shownD (.v (wLst [wVar 5, wVar 5])))))) (wTst (wOp2 neXD (.v (wOp1 shownD (.s 2))) (.s 4)))) (wRet (wC (.bool false))) (wNx)) (wSeq (wSet 9 (wCall S_through [.e (wCall S_full [.e (wVar 1)]), .e (wVar 2)])) (wSeq (wIfS (wOr (wTst (wOp2 neXD (.s 9) (.v (wOp1 tupD (.v (wCall S__law_bay [.e (wCall S__law_lesser [.e (wVar 1)]), .e (wVar 2)])))))) (wTst (wOp2 neXD (.v (wCall S_fewest_full [.e (wVar 9)])) (.v (wOp2 max2D (.v (wC (.int 0))) (.v (wOp2 subD (.s 5) (.v (wC (.int 1)))))))))) (wRet (wC (.bool false))) (wNx)) (wSeq (wFor (wRng1 (wVar 1)) (wgName 10) (wSeq (wSetO 13 (wLc (wZipM (wVar 7) (wVar 2)) (wgTup 2 (wgCons (wgName 11) (wgCons (wgName 12) (wgNil)))) (wTst (wOp2 eqXD (.s 12) (.s 10))) (wVar 11) [11, 12])) (wSeq (wSetO 14 (wLc (wEnum (wVar 9)) (wgTup 2 (wgCons (wgName 6) (wgCons (wgName 12) (wgNil)))) (wTst (wOp2 eqXD (.s 12) (.s 10))) (wCall S__law_ahead_of [.e (wVar 9), .e (wVar 6)]) [6, 12])) (wIfS (wTst (wOp2 neXD (.s 14) (.v (wLc (wI (wVar 13)) (wgName 11) (wYes) (wOp2 max2D (.v (wC (.int 0))) (.v (wOp2 subD (.s 11) (.v (wC (.int 1)))))) [11])))) (wRet (wC (.bool false))) (wNx))))) (wRet (wOrV (wOp2 eqXD (.s 2) (.v (wC (.tuple [])))) (wOp2 leXD (.s 5) (.v (wOp2 subD (.v (wOp1 lenD (.s 2))) (.v (wC (.int 1)))))))))))))))
theorem t__law_is_right {S__law_by_bays : Sd} (D__law_by_bays : Def R P w K mg base k "_law_by_bays" s__law_by_bays ["n", "row"] S__law_by_bays) {S__law_ahead_of : Sd} (D__law_ahead_of : Def R P w K mg base k "_law_ahead_of" s__law_ahead_of ["row", "place"] S__law_ahead_of) {S_ahead : Sd} (D_ahead : Def R P w K mg base k "ahead" s_ahead ["row", "place"] S_ahead) {S_fewest_full : Sd} (D_fewest_full : Def R P w K mg base k "fewest_full" s_fewest_full ["row"] S_fewest_full) {S_through : Sd} (D_through : Def R P w K mg base k "through" s_through ["book", "row"] S_through) {S_full : Sd} (D_full : Def R P w K mg base k "full" s_full ["n"] S_full) {S__law_bay : Sd} (D__law_bay : Def R P w K mg base k "_law_bay" s__law_bay ["book", "things"] S__law_bay) {S__law_lesser : Sd} (D__law_lesser : Def R P w K mg base k "_law_lesser" s__law_lesser ["n"] S__law_lesser) (hg : (A.deeper (envOfC "_law_is_right" (defScope s__law_is_right) s.heap.objs.size fa cdv)).guards = some []) (hr : Room k (A.deeper (envOfC "_law_is_right" (defScope s__law_is_right) s.heap.objs.size fa cdv))) : SSs R (cxOf CX0 P w K mg base ["deck", "n", "row", "is_named", "known", "due", "place", "numbers", "told", "behind", "kind", "number", "own", "first", "later"] "_law_is_right" (defScope s__law_is_right) fa cdv A outer s H E).nox (defBody s__law_is_right) (w__law_is_right S__law_by_bays S__law_ahead_of S_ahead S_fewest_full S_through S_full S__law_bay S__law_lesser) :=
  sss_cons (ss_par (i := 4) (j := 5) rfl sc__law_is_right.nd rfl rfl rfl rfl (ses_cons (se_b1 (call_shown hg hr hs) lk_shown1 (by rfl) B.b_repr (by decide +kernel) (so_var (pv 2))) (ses_cons (se_cD D__law_by_bays hg hr (sa_cons (se_var (pv 1)) (sa_cons (se_var (pv 2)) (sa_nil)))) (ses_nil)))) (sss_cons (ss_setLc (i := 7) rfl sc__law_is_right.nd rfl rfl (by rfl) (si_rng1 (by rfl) B.b_range (se_b1 call_len lk_len (by rfl) B.b_len (by decide +kernel) (so_var (pv 2)))) (blkOk_by (own := [("place", 6)]) (by rfl)) (fun s H C cl fp => sg_name (i := 6) (pg_name (x := "place") sc__law_is_right.nd rfl (by first | exact .inl rfl | exact .inr rfl))) (by decide) (fun s H C cl fp => sts_nil) (fun s H C cl fp => se_cD D__law_ahead_of hg hr (sa_cons (se_var (pv 2)) (sa_cons (se_var (pv 6)) (sa_nil))))) (sss_cons (ss_if ((sw_or (st_cmp (op_neX hr.units) lk_neX (so_var (pv 5)) (so_val (se_b1 (cr_max rfl) lk_max (by rfl) B.b_max (by decide +kernel) (so_val (se_bin op_addD lk_add (so_val (se_clst (scs_cons (se_int) (scs_nil)))) (so_var (pv 7)))))) (nomark _)) (sw_or1 (st_cmp (op_neX hr.units) lk_neX (so_val ((sf_lc rfl sc__law_is_right.nd (si_rng1 (by rfl) B.b_range (se_b1 call_len lk_len (by rfl) B.b_len (by decide +kernel) (so_var (pv 2)))) (blkOk_by (own := [("place", 6)]) (by rfl)) (fun s H C cl fp => sg_name (i := 6) (pg_name (x := "place") sc__law_is_right.nd rfl (by first | exact .inl rfl | exact .inr rfl))) (by decide) (fun s H C cl fp => sts_nil) (fun s H C cl fp => se_cD D_ahead hg hr (sa_cons (se_var (pv 2)) (sa_cons (se_var (pv 6)) (sa_nil))))).se)) (so_var (pv 7)) (nomark _)))).st) (sss_one (ss_ret (se_bl))) (sss_nil)) (sss_cons (ss_set (i := 8) sc__law_is_right.nd rfl (by first | exact .inl rfl | exact .inr rfl) (se_lst (ses_cons (se_if (st_val (se_var (pv 3))) (se_cK0 D_fewest_full hg hr (0, 1, [0]) (by decide) (fun _ _ _ _ _ _ us ws hu hw => match us, hu, ws, hw with | [], _, [_], _ => rfl) (fun us ws hu hw => match us, hu, ws, hw with | [], _, [_], _ => rfl) (sk_cons (se_var (pv 2)) (sk_nil))) (se_cD D_fewest_full hg hr (sa_cons (se_var (pv 2)) (sa_nil)))) (ses_cons (se_cD D_fewest_full hg hr (sa_cons (se_var (pv 2)) (sa_nil))) (ses_nil))))) (sss_cons (ss_if ((sw_or (st_cmp (op_neX hr.units) lk_neX (so_val (se_b1 (call_shown hg hr hs) lk_shown1 (by rfl) B.b_repr (by decide +kernel) (so_var (pv 8)))) (so_val (se_b1 (call_shown hg hr hs) lk_shown1 (by rfl) B.b_repr (by decide +kernel) (so_val (se_lst (ses_cons (se_var (pv 5)) (ses_cons (se_var (pv 5)) (ses_nil))))))) (nomark _)) (sw_or1 (st_cmp (op_neX hr.units) lk_neX (so_val (se_b1 (call_shown hg hr hs) lk_shown1 (by rfl) B.b_repr (by decide +kernel) (so_var (pv 2)))) (so_var (pv 4)) (nomark _)))).st) (sss_one (ss_ret (se_bl))) (sss_nil)) (sss_cons (ss_set (i := 9) sc__law_is_right.nd rfl (by first | exact .inl rfl | exact .inr rfl) (se_cD D_through hg hr (sa_cons (se_cD D_full hg hr (sa_cons (se_var (pv 1)) (sa_nil))) (sa_cons (se_var (pv 2)) (sa_nil))))) (sss_cons (ss_if ((sw_or (st_cmp (op_neX hr.units) lk_neX (so_var (pv 9)) (so_val (se_t1 call_tuple_of lk_tuple (by rfl) B.b_tuple (by decide +kernel) (so_val (se_cD D__law_bay hg hr (sa_cons (se_cD D__law_lesser hg hr (sa_cons (se_var (pv 1)) (sa_nil))) (sa_cons (se_var (pv 2)) (sa_nil))))))) (nomark _)) (sw_or1 (st_cmp (op_neX hr.units) lk_neX (so_val (se_cD D_fewest_full hg hr (sa_cons (se_var (pv 9)) (sa_nil)))) (so_val (se_b2 (call_max2 rfl) lk_two (by rfl) B.b_max (by decide +kernel) (so_val (se_int)) (so_val (se_bin op_sub lk_sub (so_var (pv 5)) (so_val (se_int)))))) (nomark _)))).st) (sss_one (ss_ret (se_bl))) (sss_nil)) (sss_cons (ss_for PassesOwn.never rfl (si_rng1 (by rfl) B.b_range (se_var (pv 1))) (sg_name (i := 10) (pg_name (x := "kind") sc__law_is_right.nd rfl (by first | exact .inl rfl | exact .inr rfl))) (sss_cons (ss_setLc (i := 13) rfl sc__law_is_right.nd rfl rfl (by rfl) (t := gTup K 2 (gCons (gName 11) (gCons (gName 12) (gNil)))) (si_zipM (by rfl) B.b_zip (ses_cons (se_var (pv 7)) (ses_cons (se_var (pv 2)) (ses_nil)))) (blkOk_by (own := [("number", 11), ("own", 12)]) (by rfl)) (fun s H C cl fp => sg_tup rfl (sgs_cons (sg_name (i := 11) (pg_name (x := "number") sc__law_is_right.nd rfl (by first | exact .inl rfl | exact .inr rfl))) (sgs_cons (sg_name (i := 12) (pg_name (x := "own") sc__law_is_right.nd rfl (by first | exact .inl rfl | exact .inr rfl))) (sgs_nil)))) (by decide) (fun s H C cl fp => sts_one (st_cmp (op_eqX hr.units) lk_eqX (so_var (pv 12)) (so_var (pv 10)) (nomark _))) (fun s H C cl fp => se_var (pv 11))) (sss_cons (ss_setLc (i := 14) rfl sc__law_is_right.nd rfl rfl (by rfl) (t := gTup K 2 (gCons (gName 6) (gCons (gName 12) (gNil)))) (si_enum (by rfl) B.b_enumerate (se_var (pv 9))) (blkOk_by (own := [("place", 6), ("own", 12)]) (by rfl)) (fun s H C cl fp => sg_tup rfl (sgs_cons (sg_name (i := 6) (pg_name (x := "place") sc__law_is_right.nd rfl (by first | exact .inl rfl | exact .inr rfl))) (sgs_cons (sg_name (i := 12) (pg_name (x := "own") sc__law_is_right.nd rfl (by first | exact .inl rfl | exact .inr rfl))) (sgs_nil)))) (by decide) (fun s H C cl fp => sts_one (st_cmp (op_eqX hr.units) lk_eqX (so_var (pv 12)) (so_var (pv 10)) (nomark _))) (fun s H C cl fp => se_cD D__law_ahead_of hg hr (sa_cons (se_var (pv 9)) (sa_cons (se_var (pv 6)) (sa_nil))))) (sss_one (ss_if (st_cmp (op_neX hr.units) lk_neX (so_var (pv 14)) (so_val ((sf_lc rfl sc__law_is_right.nd (si_seq (se_var (pv 13))) (blkOk_by (own := [("number", 11)]) (by rfl)) (fun s H C cl fp => sg_name (i := 11) (pg_name (x := "number") sc__law_is_right.nd rfl (by first | exact .inl rfl | exact .inr rfl))) (by decide) (fun s H C cl fp => sts_nil) (fun s H C cl fp => se_b2 (call_max2 rfl) lk_two (by rfl) B.b_max (by decide +kernel) (so_val (se_int)) (so_val (se_bin op_sub lk_sub (so_var (pv 11)) (so_val (se_int)))))).se)) (nomark _)) (sss_one (ss_ret (se_bl))) (sss_nil)))))) (sss_one (ss_ret (se_or (se_cmp (op_eqX hr.units) lk_eqX (so_var (pv 2)) (so_val (se_ctup (scs_nil))) (nomark _)) (se_one (se_cmp (op_leX (hu0 hr)) lk_leXD (so_var (pv 5)) (so_val (se_bin op_sub lk_sub (so_val (se_b1 call_len lk_len (by rfl) B.b_len (by decide +kernel) (so_var (pv 2)))) (so_val (se_int)))) (nomark _)))))))))))))
def w_law (S_full : Sd) (S__law_lesser : Sd) (S__law_draw : Sd) (S__law_is_right : Sd) (S__law_row : Sd) (S__law_pick : Sd) : WS := wSeq (wMk 1 0) (wSeq (wFor (wRng2 (wC (.int 1)) (wC (.int 9))) (wgName 2) (wSeq (wSet 3 (wIf (wTst (wOp2 eqXD (.v (wOp2 modD (.s 2) (.v (wC (.int 2))))) (.v (wC (.int 0))))) (wCallK S_full (0, 1, [0]) [] [.e (wVar 2)]) (wCall S_full [.e (wVar 2)]))) (wIfS (wTst (wOp2 neXD (.v (wOp1 shownD (.s 3))) (.v (wOp1 shownD (.v (wCall S__law_lesser [.e (wVar 2)])))))) (wRet (wC (.bool false))) (wNx)))) (wSeq (wFor (wRng1 (wC (.int 6))) (wgName 4) (wSeq (wSet 2 (wOp2 addD (.v (wC (.int 1))) (.v (wCall S__law_draw [.loom 1, .e (wC (.int 8))])))) (wIfS (wNot (wTst (wCall S__law_is_right [.loom 1, .e (wVar 2), .e (wCall S__law_row [.loom 1, .e (wVar 2)]), .e (wOp2 eqXD (.s 4) (.v (wC (.int 1))))]))) (wRet (wC (.bool false))) (wNx)))) (wSeq (wIfS (wTst (wOp2 gtD (.v (wCall S__law_draw [.loom 1, .e (wC (.int 6))])) (.v (wC (.int 0))))) (wRet (wC (.bool true))) (wNx)) (wSeq (wSet 5 (wCall S__law_pick [.loom 1, .e (wLst [wOp2 addD (.v (wOp2 mulXD (.v (wC (.tuple [.int 1]))) (.v (wC (.int 59))))) (.v (wC (.tuple [.int 0]))), wOp2 mulXD (.v (wC (.tuple [.int 7, .int 6, .int 5, .int 4, .int 3, .int 2, .int 1, .int 0]))) (.v (wC (.int 7))), wOp2 addD (.v (wOp2 mulXD (.v (wC (.tuple [.int 2]))) (.v (wC (.int 30))))) (.v (wOp2 mulXD (.v (wC (.tuple [.int 1]))) (.v (wC (.int 29))))), wOp2 mulXD (.v (wC (.tuple [.int 0, .int 1]))) (.v (wC (.int 30)))])])) (wRet (wCall S__law_is_right [.loom 1, .e (wC (.int 8)), .e (wVar 5), .e (wC (.bool false))]))))))
theorem t_law {fL : Addr} {fdL : FuncData} (MKF : GFn P w K mg base CX0 k fL fdL ["script"] (spMk R K)) (MKM : mg "_law_deck" = some (.ref fL)) (MKK : PySem.W.keepIn K (.ref fL) = true) (MKB : Binds K fdL ["script"] []) {S_full : Sd} (D_full : Def R P w K mg base k "full" s_full ["n"] S_full) {S__law_lesser : Sd} (D__law_lesser : Def R P w K mg base k "_law_lesser" s__law_lesser ["n"] S__law_lesser) {S__law_draw : Sd} (D__law_draw : Def R P w K mg base k "_law_draw" s__law_draw ["deck", "many"] S__law_draw) {S__law_is_right : Sd} (D__law_is_right : Def R P w K mg base k "_law_is_right" s__law_is_right ["deck", "n", "row", "is_named"] S__law_is_right) {S__law_row : Sd} (D__law_row : Def R P w K mg base k "_law_row" s__law_row ["deck", "n"] S__law_row) {S__law_pick : Sd} (D__law_pick : Def R P w K mg base k "_law_pick" s__law_pick ["deck", "items"] S__law_pick) (hg : (A.deeper (envOfC "law" (defScope s_law) s.heap.objs.size fa cdv)).guards = some []) (hr : Room k (A.deeper (envOfC "law" (defScope s_law) s.heap.objs.size fa cdv))) : SSs0 R (cxOf CX0 P w K mg base ["script", "deck", "n", "told", "turn", "row"] "law" (defScope s_law) fa cdv A outer s H E).nox (defBody s_law) (w_law S_full S__law_lesser S__law_draw S__law_is_right S__law_row S__law_pick) :=
  sss0_cons (ss0_mk sc_law.nd (i := 1) rfl (by first | exact .inl rfl | exact .inr rfl) MKF hg hr (by rfl) MKM MKK MKB (pv 0)) (sss_cons (ss_for PassesOwn.never rfl (si_rng2 (by rfl) B.b_range (se_int) (se_int)) (sg_name (i := 2) (pg_name (x := "n") sc_law.nd rfl (by first | exact .inl rfl | exact .inr rfl))) (sss_cons (ss_set (i := 3) sc_law.nd rfl (by first | exact .inl rfl | exact .inr rfl) (se_if (st_cmp (op_eqX hr.units) lk_eqX (so_val (se_bin op_mod lk_mod (so_var (pv 2)) (so_val (se_int)))) (so_val (se_int)) (nomark _)) (se_cK0 D_full hg hr (0, 1, [0]) (by decide) (fun _ _ _ _ _ _ us ws hu hw => match us, hu, ws, hw with | [], _, [_], _ => rfl) (fun us ws hu hw => match us, hu, ws, hw with | [], _, [_], _ => rfl) (sk_cons (se_var (pv 2)) (sk_nil))) (se_cD D_full hg hr (sa_cons (se_var (pv 2)) (sa_nil))))) (sss_one (ss_if (st_cmp (op_neX hr.units) lk_neX (so_val (se_b1 (call_shown hg hr hs) lk_shown1 (by rfl) B.b_repr (by decide +kernel) (so_var (pv 3)))) (so_val (se_b1 (call_shown hg hr hs) lk_shown1 (by rfl) B.b_repr (by decide +kernel) (so_val (se_cD D__law_lesser hg hr (sa_cons (se_var (pv 2)) (sa_nil)))))) (nomark _)) (sss_one (ss_ret (se_bl))) (sss_nil))))) (sss_cons (ss_for PassesOwn.never rfl (si_rng1 (by rfl) B.b_range (se_int)) (sg_name (i := 4) (pg_name (x := "turn") sc_law.nd rfl (by first | exact .inl rfl | exact .inr rfl))) (sss_cons (ss_set (i := 2) sc_law.nd rfl (by first | exact .inl rfl | exact .inr rfl) (se_bin op_addD lk_add (so_val (se_int)) (so_val (se_cD D__law_draw hg hr (sa_loom (pv 1) (sa_cons (se_int) (sa_nil))))))) (sss_one (ss_if (st_not (st_val (se_cD D__law_is_right hg hr (sa_loom (pv 1) (sa_cons (se_var (pv 2)) (sa_cons (se_cD D__law_row hg hr (sa_loom (pv 1) (sa_cons (se_var (pv 2)) (sa_nil)))) (sa_cons (se_cmp (op_eqX hr.units) lk_eqX (so_var (pv 4)) (so_val (se_int)) (nomark _)) (sa_nil)))))))) (sss_one (ss_ret (se_bl))) (sss_nil))))) (sss_cons (ss_if (st_cmp op_gt lk_gt (so_val (se_cD D__law_draw hg hr (sa_loom (pv 1) (sa_cons (se_int) (sa_nil))))) (so_val (se_int)) (nomark _)) (sss_one (ss_ret (se_bl))) (sss_nil)) (sss_cons (ss_set (i := 5) sc_law.nd rfl (by first | exact .inl rfl | exact .inr rfl) (se_cD D__law_pick hg hr (sa_loom (pv 1) (sa_cons (se_lst (ses_cons (se_bin op_addD lk_add (so_val (se_bin op_mulX lk_mulX (so_val (se_ctup (scs_cons (se_int) (scs_nil)))) (so_val (se_int)))) (so_val (se_ctup (scs_cons (se_int) (scs_nil))))) (ses_cons (se_bin op_mulX lk_mulX (so_val (se_ctup (scs_cons (se_int) (scs_cons (se_int) (scs_cons (se_int) (scs_cons (se_int) (scs_cons (se_int) (scs_cons (se_int) (scs_cons (se_int) (scs_cons (se_int) (scs_nil))))))))))) (so_val (se_int))) (ses_cons (se_bin op_addD lk_add (so_val (se_bin op_mulX lk_mulX (so_val (se_ctup (scs_cons (se_int) (scs_nil)))) (so_val (se_int)))) (so_val (se_bin op_mulX lk_mulX (so_val (se_ctup (scs_cons (se_int) (scs_nil)))) (so_val (se_int))))) (ses_cons (se_bin op_mulX lk_mulX (so_val (se_ctup (scs_cons (se_int) (scs_cons (se_int) (scs_nil))))) (so_val (se_int))) (ses_nil)))))) (sa_nil))))) (sss_one (ss_ret (se_cD D__law_is_right hg hr (sa_loom (pv 1) (sa_cons (se_int) (sa_cons (se_var (pv 5)) (sa_cons (se_bl) (sa_nil))))))))))))
end
end K56
namespace K56
open PySem PySem.Spec PyProof.Rows L2 DL
section
variable {P : Program} {w : World} {K : PySem.W.Frag} {mg : Str → Option Value} {base : Heap} {k : Nat}
theorem take_gd {f : Addr} {fd : FuncData} (F : Fun K "_law_draw" "_law_draw" s__law_draw f fd) (B : Bi mg) : GFn P w K mg base CX0 (k + 1) f fd ["deck", "many"] (spD deckR K 2 S_draw) := by
  obtain ⟨oc, od, kV, doc, pm, an, cdv, ct, osl, rfl, lk, hcd⟩ := F.ex
  refine gfn_of lk hcd sc__law_draw (fun vs H Q E h => h.1) fun A outer s H vs Q E hg hr h => ?_
  obtain ⟨la, fp, n, rfl, hn, ⟨fa, far, st, tm, rfl, nla, h1, h2, hl⟩, q⟩ := draw_sp (fun _ _ h => h) h
  have q1 : ∀ (r : Int) (H' : Hp) (far' : List Int) (tm' : Int), drawn n r → H' la = some (deckHO fa st tm') → H' fa = some (.lst (far'.map V.int)) → far'.length ≤ 63 → (∀ b o, H b = some o → b ≠ la → b ≠ fa → H' b = some o) → Q (.int r) H' :=
    fun r H' far' tm' d e1 e2 hl' same => q r H' d ⟨fa, far', st, tm', rfl, nla, e1, e2, hl'⟩ fun b o e hb => same b o e (fun z => hb (by simp [z])) (fun z => hb (by simp [z]))
  have hu := hr.units
  have hu1 : (A.deeper (envOfC "_law_draw" (defScope s__law_draw) s.heap.objs.size f cdv)).units + 1 < cLine := by omega
  refine ⟨_, PSs.nox (pss_cons (ps_if (pt_cmpR op_lt (pv 1) pe_int (nomark _)) (pss_one (ps_ret pe_int)) pss_nil)
    (pss_cons (ps_if (pt_cmpR (op_neD hu) (pe_dget hu1 (pv 0) pe_str (fun _ _ => by with_unfolding_all rfl)) (pe_lst pa_nil) (nomark _))
      (pss_cons (ps_set (i := 2) sc__law_draw.nd rfl (.inl rfl) (pe_bm0 PySem.F.plainAttrs_list PySem.F.slot_list_pop PySem.F.type_list_pop mt_pop (pe_dget hu1 (pv 0) pe_str (fun _ _ => by with_unfolding_all rfl))))
        (pss_cons (ps_if (pt_cmpR op_ge (pv 2) (pv 1) (nomark _)) (pss_one (ps_expr (pe_bm PySem.F.plainAttrs_list PySem.F.slot_list_append PySem.F.type_list_append mt_append (pe_dget hu1 (pv 0) pe_str (fun _ _ => by with_unfolding_all rfl)) (pa_cons (pe_op op_fdiv (pv 2) (pv 1)) pa_nil)))) pss_nil)
          (pss_one (ps_ret (pe_op op_mod (pe_callTy call_int1 (by rfl) B.b_int (by decide +kernel) (pa_cons (pv 2) pa_nil)) (pv 1))))))
      pss_nil)
    (pss_cons (ps_dput hu1 (pv 0) pe_str (pe_op op_add (pe_dget hu1 (pv 0) pe_str (fun _ _ => by with_unfolding_all rfl)) pe_int) (by rfl))
    (pss_cons (ps_set (i := 3) sc__law_draw.nd rfl (.inl rfl) (pe_op op_mod (pe_callTy call_int1 (by rfl) B.b_int (by decide +kernel) (pa_cons (pe_op op_add (pe_dget hu1 (pv 0) pe_str (fun _ _ => by with_unfolding_all rfl)) (pe_op op_mul pe_int (pe_dget hu1 (pv 0) pe_str (fun _ _ => by with_unfolding_all rfl)))) pa_nil)) pe_int))
    (pss_cons (ps_set (i := 3) sc__law_draw.nd rfl (.inl rfl) (pe_op op_mod (pe_callTy call_int1 (by rfl) B.b_int (by decide +kernel) (pa_cons (pe_op op_add (pe_op op_add (pe_op op_mul (pv 3) (pv 3)) (pe_op op_mul pe_int (pe_dget hu1 (pv 0) pe_str (fun _ _ => by with_unfolding_all rfl)))) pe_int) pa_nil)) pe_int))
    (pss_cons (ps_set (i := 3) sc__law_draw.nd rfl (.inl rfl) (pe_op op_mod (pe_callTy call_int1 (by rfl) B.b_int (by decide +kernel) (pa_cons (pe_op op_add (pe_op op_mul (pv 3) (pv 3)) (pe_op op_mul (pe_dget hu1 (pv 0) pe_str (fun _ _ => by with_unfolding_all rfl)) pe_int)) pa_nil)) pe_int))
    (pss_one (ps_ret (pe_op op_mod (pe_callTy call_int1 (by rfl) B.b_int (by decide +kernel) (pa_cons (pe_op op_fdiv (pv 3) pe_int) pa_nil)) (pv 1)))))))))), ?_⟩
  -- many < 2
  refine ⟨_, rfl, _, _, rfl, rfl, _, rfl, ?_⟩
  refine sel (fun c1 => ?_) fun c1 => ?_
  · exact q1 0 H far tm (.inl ⟨of_decide_eq_true c1, rfl⟩) h1 h2 hl fun _ _ e _ _ => e
  have c1 : 2 ≤ n := by
    have := of_decide_eq_false c1
    omega
  -- loom['far'] != []
  refine ⟨.ref la, rfl, la, .ref fa, rfl, deck_great h1, Nat.zero_le _, fun p np => ?_⟩
  have npl : la ≠ p := ne_of_none h1 np
  have npf : fa ≠ p := ne_of_none h2 np
  have e1 : upd H p (.lst []) la = some (deckHO fa st tm) := by rw [upd_ne npl]; exact h1
  have e2 : upd H p (.lst []) fa = some (.lst (far.map V.int)) := by rw [upd_ne npf]; exact h2
  refine ⟨_, _, dp_ints e2, dp_ints (ns := []) upd_same, shaped_ints far, shaped_ints [], _, rfl, ?_⟩
  have oth : ∀ b o, H b = some o → upd H p (.lst []) b = some o := fun b o e => by
    rw [upd_ne (ne_of_none e np)]
    exact e
  generalize upd H p (.lst []) = H1 at e1 e2 oth
  clear h1 h2 np npl npf
  refine sel (fun c2 => ?_) fun c2 => ?_
  · -- cell = loom['far'].pop()
    obtain ⟨fr, c, rfl⟩ : ∃ fr c, far = fr ++ [c] := by
      rcases List.eq_nil_or_concat far with z | ⟨l, a, z⟩
      · subst z
        exact absurd c2 (by simp [PyData.eqv, PyData.eqvAll])
      · exact ⟨l, a, by simpa using z⟩
    have lf : fr.length ≤ 62 := by simpa using hl
    refine ⟨.ref la, rfl, la, .ref fa, rfl, deck_great e1, .inl ⟨rfl, _, .inl (.inl e2)⟩, fa, _, .int c, rfl, rfl, e2, by simp, ?_⟩
    have e1' : upd H1 fa (.lst ((fr ++ [c]).map V.int).dropLast) la = some (deckHO fa st tm) := by rw [upd_ne nla]; exact e1
    have e2' : upd H1 fa (.lst ((fr ++ [c]).map V.int).dropLast) fa = some (.lst (fr.map V.int)) := by rw [upd_same]; simp
    have oth' : ∀ b o, H b = some o → b ≠ fa → upd H1 fa (.lst ((fr ++ [c]).map V.int).dropLast) b = some o := fun b o e n => by rw [upd_ne n]; exact oth b o e
    generalize upd H1 fa (.lst ((fr ++ [c]).map V.int).dropLast) = H2 at e1' e2' oth'
    -- if cell >= many
    refine ⟨.int c, rfl, .int n, rfl, _, _, rfl, rfl, _, rfl, sel (fun c3 => ?_) fun c3 => ?_⟩
    · have c3 : n ≤ c := of_decide_eq_true c3
      refine ⟨.ref la, rfl, la, .ref fa, rfl, deck_great e1', .inl ⟨rfl, _, .inl (.inl e2')⟩, .int c, rfl, .int n, rfl, _, _, rfl, rfl, ⟨by omega, by omega⟩, fa, _, _, rfl, rfl, e2', ?_, ?_⟩
      · rw [List.length_map]
        exact Nat.lt_of_le_of_lt lf (by decide)
      · refine ⟨.int c, rfl, .inl ⟨c, rfl, .int n, rfl, _, _, rfl, rfl, by omega, ?_⟩⟩
        refine q1 _ _ (fr ++ [c / n]) tm (drawn_mod c1) ?_ ?_ ?_ ?_
        · rw [upd_ne nla]
          exact e1'
        · rw [upd_same]
          simp
        · simp
          omega
        · intro b o e _ n2
          rw [upd_ne n2]
          exact oth' b o e n2
    · refine ⟨.int c, rfl, .inl ⟨c, rfl, .int n, rfl, _, _, rfl, rfl, by omega, ?_⟩⟩
      exact q1 _ _ fr tm (drawn_mod c1) e1' e2' (by omega) fun b o e _ n2 => oth' b o e n2
  · -- loom['times'] = loom['times'] + 1
    refine ⟨.ref la, rfl, la, _, rfl, deck_turns e1, _, _, rfl, rfl, .ref la, rfl, la, _, rfl, deck_put e1, ?_⟩
    have e1' : upd H1 la (deckHO fa st (tm + 1)) la = some (deckHO fa st (tm + 1)) := upd_same
    have e2' : upd H1 la (deckHO fa st (tm + 1)) fa = some (.lst (far.map V.int)) := by rw [upd_ne nla.symm]; exact e2
    have oth' : ∀ b o, H b = some o → b ≠ la → upd H1 la (deckHO fa st (tm + 1)) b = some o := fun b o e n => by rw [upd_ne n]; exact oth b o e
    generalize upd H1 la (deckHO fa st (tm + 1)) = H2 at e1' e2' oth'
    have cm : ∀ {a b m : Int}, 0 < m → m < 2 ^ 64 → CMul (a % m) b := fun {a b m} h1 h2 => by
      have p1 := Int.emod_nonneg a (show m ≠ 0 by omega)
      have p2 := Int.emod_lt_of_pos a h1
      exact .inl ⟨by omega, by omega⟩
    -- one = int(loom['stirred'] + c * loom['times']) % m
    refine ⟨.ref la, rfl, la, _, rfl, deck_mixed e1', .ref la, rfl, la, _, rfl, deck_turns e1', _, _, rfl, rfl, .inl ⟨by decide, by decide⟩, _, _, rfl, rfl, .inl ⟨_, rfl, _, _, rfl, rfl, (show (0 : Int) < _ by decide), ?_⟩⟩
    refine ⟨_, rfl, _, rfl, _, _, rfl, rfl, cm (by decide) (by decide), .ref la, rfl, la, _, rfl, deck_turns e1', _, _, rfl, rfl, .inl ⟨by decide, by decide⟩, _, _, rfl, rfl, _, _, rfl, rfl, .inl ⟨_, rfl, _, _, rfl, rfl, (show (0 : Int) < _ by decide), ?_⟩⟩
    refine ⟨_, rfl, _, rfl, _, _, rfl, rfl, cm (by decide) (by decide), .ref la, rfl, la, _, rfl, deck_mixed e1', _, _, rfl, rfl, .inr ⟨by decide, by decide⟩, _, _, rfl, rfl, .inl ⟨_, rfl, _, _, rfl, rfl, (show (0 : Int) < _ by decide), ?_⟩⟩
    refine ⟨_, rfl, _, _, rfl, rfl, ⟨by decide, by decide⟩, .inl ⟨_, rfl, .int n, rfl, _, _, rfl, rfl, by omega, ?_⟩⟩
    exact q1 _ _ far (tm + 1) (drawn_mod c1) e1' e2' hl fun b o e n1 _ => oth' b o e n1
end
end K56
namespace K56
open PySem PySem.Spec PyProof.Rows L2 DL
theorem cutN {ns : List Int} {n : Int} (hn : 0 ≤ n) (hl : ns.length ≤ n.toNat) : cutV (ns.map V.int) none (some n) = ns.map V.int := by
  unfold cutV
  rw [HT.sIx_none, List.drop_zero]
  have : HT.sIx (ns.map V.int).length (ns.map V.int).length (some n) = (ns.map V.int).length := by
    show (if n < 0 then _ else min n.toNat (ns.map V.int).length) = _
    rw [if_neg (by omega), List.length_map]
    omega
  rw [this]
  simp [← List.map_take]
section
variable {P : Program} {w : World} {K : PySem.W.Frag} {mg : Str → Option Value} {base : Heap} {k : Nat}
/-- what stands at a turn of the maker -/
structure UAt (H0 H : Hp) (la fa sl : Addr) (ns : List Int) (i : Nat) : Prop where
  sub : Sub H0 H
  nl : H0 la = none
  nf : H0 fa = none
  ne : la ≠ fa
  sa : sl ≠ la
  sf : sl ≠ fa
  s : H sl = some (.lst (ns.map V.int))
  f : ∃ far : List Int, H fa = some (.lst (far.map V.int)) ∧ far.length ≤ i
  l : ∃ st : Int, H la = some (deckHO fa st 0)
theorem UAt.st {H0 H : Hp} {la fa sl : Addr} {ns : List Int} {i : Nat} (U : UAt H0 H la fa sl ns i) {st st' : Int} (l : H la = some (deckHO fa st 0)) : UAt H0 (upd H la (deckHO fa st' 0)) la fa sl ns i := by
  obtain ⟨far, f1, f2⟩ := U.f
  exact ⟨fun b o e => by rw [upd_ne (ne_of_none e U.nl)]; exact U.sub b o e, U.nl, U.nf, U.ne, U.sa, U.sf, by rw [upd_ne U.sa]; exact U.s, ⟨far, by rw [upd_ne U.ne.symm]; exact f1, f2⟩, ⟨st', upd_same⟩⟩
theorem deck_gd {f : Addr} {fd : FuncData} (F : Fun K "_law_deck" "_law_deck" s__law_deck f fd) (B : Bi mg) : GFn P w K mg base CX0 (k + 1) f fd ["script"] (spMk deckR K) := by
  obtain ⟨oc, od, kV, doc, pm, an, cdv, ct, osl, rfl, lk, hcd⟩ := F.ex
  refine gfn_of lk hcd sc__law_deck (fun vs H Q E h => ?_) fun A outer s H vs Q E hg hr h => ?_
  · obtain ⟨a, ns, rfl, _⟩ := h
    rfl
  obtain ⟨a, ns, rfl, hS, hl, q⟩ := h
  have hu1 : (A.deeper (envOfC "_law_deck" (defScope s__law_deck) s.heap.objs.size f cdv)).units + 1 < cLine := by
    have := hr.units
    omega
  refine ⟨_, PSs.nox (pss_cons (ps_set (i := 1) sc__law_deck.nd rfl (.inl rfl) (pe_disp (pps_cons pe_str (pe_lst pa_nil) (pps_cons pe_str (pe_op op_add pe_int (pe_callB call_len (by rfl) B.b_len (by decide +kernel) (pa_cons (pe_slice sl_list (pv 0) po_none (po_some pe_int)) pa_nil) (by decide) (by decide))) (pps_cons pe_str pe_int pps_nil))) (by rfl) (by rfl) (by simp) (by show 3 ≤ 15; decide)))
    (pss_cons (ps_for PassesOwn.never rfl (pi_list (pe_slice sl_list (pv 0) po_none (po_some pe_int))) (pg_name (i := 2) sc__law_deck.nd rfl (.inl rfl))
      (pss_cons (ps_set (i := 3) sc__law_deck.nd rfl (.inl rfl) (pe_op op_add (pe_op op_mul pe_int (pe_callB call_abs (by rfl) B.b_abs (by decide +kernel) (pa_cons (pv 2) pa_nil) (by decide) (by decide))) (pe_callTy call_int1 (by rfl) B.b_int (by decide +kernel) (pa_cons (pe_cmpR op_lt (pv 2) pe_int (nomark _)) pa_nil))))
      (pss_cons (ps_if (pt_cmpR op_ge (pv 3) (pe_op op_pow pe_int pe_int) (nomark _))
          (pss_one (ps_expr (pe_bm PySem.F.plainAttrs_list PySem.F.slot_list_append PySem.F.type_list_append mt_append (pe_dget hu1 (pv 1) pe_str (fun _ _ => by with_unfolding_all rfl)) (pa_cons (pv 3) pa_nil)))) pss_nil)
      (pss_one (ps_dput hu1 (pv 1) pe_str (pe_op op_mod (pe_callTy call_int1 (by rfl) B.b_int (by decide +kernel) (pa_cons (pe_op op_add (pe_op op_add (pe_op op_mul (pe_dget hu1 (pv 1) pe_str (fun _ _ => by with_unfolding_all rfl)) pe_int) (pv 3)) pe_int) pa_nil)) pe_int) (by rfl))))))
    (pss_one (ps_ret (pv 1))))), ?_⟩
  -- the dict
  intro la nla
  refine ⟨Nat.zero_le _, fun fa nfa => ?_⟩
  have fal : fa ≠ la := fun z => by
    rw [z, upd_same] at nfa
    cases nfa
  have nfa0 : H fa = none := by rw [upd_ne fal] at nfa; exact nfa
  refine ⟨_, rfl, _, rfl, a, ns.map V.int, rfl, ?_, fun sl nsl => ?_⟩
  · exact Same.seq (fun b o e => by rw [upd_ne (ne_of_none e nfa0), upd_ne (ne_of_none e nla)]; exact e) hS
  rw [cutN (n := 63) (by decide) hl]
  have sfa : sl ≠ fa := fun z => by
    rw [z, upd_same] at nsl
    cases nsl
  have sla : sl ≠ la := fun z => by
    rw [z, upd_ne fal.symm, upd_same] at nsl
    cases nsl
  have nsl0 : H sl = none := by
    rw [upd_ne sfa, upd_ne sla] at nsl
    exact nsl
  refine ⟨_, ns.length, rfl, .inl ⟨_, .of upd_same, by rw [List.length_map]⟩, _, _, rfl, rfl, ?_, [(.inr "great", .ref fa), (.inr "mixed", .int (1283 + (ns.length : Nat))), (.inr "turns", .int 0)], rfl, (show 3 ≤ 15 by decide), ?_⟩
  · show upd (upd (upd H la (.dK [])) fa (.lst [])) sl (.lst (ns.map V.int)) la = _
    rw [upd_ne sla.symm, upd_ne fal.symm, upd_same]
  show tSeq _ _ _ [_, _, _, _] (upd (upd (upd (upd H la (.dK [])) fa (.lst [])) sl (.lst (ns.map V.int))) la (deckHO fa _ 0))
  have h1 : upd (upd (upd (upd H la (.dK [])) fa (.lst [])) sl (.lst (ns.map V.int))) la (deckHO fa (1283 + (ns.length : Nat)) 0) la = some (deckHO fa (1283 + (ns.length : Nat)) 0) := upd_same
  have h2 : upd (upd (upd (upd H la (.dK [])) fa (.lst [])) sl (.lst (ns.map V.int))) la (deckHO fa (1283 + (ns.length : Nat)) 0) fa = some (.lst []) := by
    rw [upd_ne fal, upd_ne sfa.symm, upd_same]
  have hs : Sub H (upd (upd (upd (upd H la (.dK [])) fa (.lst [])) sl (.lst (ns.map V.int))) la (deckHO fa (1283 + (ns.length : Nat)) 0)) := fun b o e => by
    rw [upd_ne (ne_of_none e nla), upd_ne (ne_of_none e nsl0), upd_ne (ne_of_none e nfa0), upd_ne (ne_of_none e nla)]
    exact e
  generalize upd (upd (upd (upd H la (.dK [])) fa (.lst [])) sl (.lst (ns.map V.int))) la (deckHO fa (1283 + (ns.length : Nat)) 0) = H1 at h1 h2 hs ⊢
  clear nsl nsl0 sfa sla sl
  -- the walk
  refine ⟨_, rfl, _, rfl, a, ns.map V.int, rfl, Same.seq hs hS, fun sl nsl => ?_⟩
  rw [cutN (n := 63) (by decide) hl]
  have sla : sl ≠ la := fun z => by
    rw [z, h1] at nsl
    cases nsl
  have sfa : sl ≠ fa := fun z => by
    rw [z, h2] at nsl
    cases nsl
  refine ⟨sl, rfl, ⟨_, .of upd_same⟩, ?_⟩
  refine for_list (xs := ns.map V.int) (fun i σ H' => (∃ c o, σ = [some (.ref a), some (.ref la), c, o]) ∧ UAt H H' la fa sl ns i) ⟨⟨none, none, rfl⟩, ?start⟩ (fun i σ H' _ ⟨_, p⟩ => .of p.s) ?turn ?done
  case start =>
    refine ⟨fun b o e => ?_, nla, nfa0, fal.symm, sla, sfa, upd_same, ⟨[], ?_, Nat.le_refl _⟩, ⟨1283 + (ns.length : Nat), ?_⟩⟩
    · rw [upd_ne (ne_of_none (hs b o e) nsl)]
      exact hs b o e
    · rw [upd_ne sfa.symm]
      exact h2
    · rw [upd_ne sla.symm]
      exact h1
  case turn =>
    rintro i x σ H' hx ⟨⟨c0, o0, rfl⟩, U⟩
    obtain ⟨far, f1, f2⟩ := U.f
    obtain ⟨st, l1⟩ := U.l
    rw [List.getElem?_map] at hx
    cases hn : ns[i]? with
    | none => rw [hn] at hx; cases hx
    | some c =>
      rw [hn] at hx
      cases hx
      have hi : i < ns.length := (List.getElem?_eq_some_iff.mp hn).1
      refine ⟨.int c, rfl, c, rfl, _, _, rfl, rfl, .inl ⟨by decide, by decide⟩, .int c, rfl, _, _, rfl, rfl, .inr ⟨_, rfl, _, _, rfl, rfl, ?_⟩⟩
      refine ⟨_, rfl, _, _, rfl, rfl, ⟨by decide, by decide, by decide⟩, _, _, rfl, rfl, _, rfl, sel (fun c1 => ?_) fun c1 => ?_⟩
      · refine ⟨.ref la, rfl, la, .ref fa, rfl, deck_great l1, .inl ⟨rfl, _, .inl (.inl f1)⟩, _, rfl, fa, _, _, rfl, rfl, f1, ?_, ?_⟩
        · rw [List.length_map]
          exact Nat.lt_of_le_of_lt (show far.length ≤ 1000 by omega) (by decide)
        have U2 : UAt H (upd H' fa (.lst (far.map V.int ++ [V.int (2 * (if c < 0 then -c else c) + if decide (c < 0) = true then 1 else 0)]))) la fa sl ns (i + 1) := ⟨fun b o e => by rw [upd_ne (ne_of_none e U.nf)]; exact U.sub b o e, U.nl, U.nf, U.ne, U.sa, U.sf, by rw [upd_ne U.sf]; exact U.s, ⟨far ++ [2 * (if c < 0 then -c else c) + if decide (c < 0) = true then 1 else 0], by rw [upd_same]; simp, by simp; omega⟩, ⟨st, by rw [upd_ne U.ne]; exact l1⟩⟩
        obtain ⟨st2, l2⟩ := U2.l
        refine ⟨.ref la, rfl, la, .int st2, rfl, deck_mixed l2, _, _, rfl, rfl, .inr ⟨by decide, by decide⟩, _, rfl, _, _, rfl, rfl, _, _, rfl, rfl, .inl ⟨_, rfl, _, _, rfl, rfl, (show (0 : Int) < _ by decide), .ref la, rfl, la, _, rfl, deck_mix l2, ⟨_, _, rfl⟩, ?_⟩⟩
        exact U2.st l2
      · have U2 : UAt H H' la fa sl ns (i + 1) := ⟨U.sub, U.nl, U.nf, U.ne, U.sa, U.sf, U.s, ⟨far, f1, by omega⟩, ⟨st, l1⟩⟩
        obtain ⟨st2, l2⟩ := U2.l
        refine ⟨.ref la, rfl, la, .int st2, rfl, deck_mixed l2, _, _, rfl, rfl, .inr ⟨by decide, by decide⟩, _, rfl, _, _, rfl, rfl, _, _, rfl, rfl, .inl ⟨_, rfl, _, _, rfl, rfl, (show (0 : Int) < _ by decide), .ref la, rfl, la, _, rfl, deck_mix l2, ⟨_, _, rfl⟩, ?_⟩⟩
        exact U2.st l2
  case done =>
    rintro σ H' ⟨⟨c0, o0, rfl⟩, U⟩
    obtain ⟨far, f1, f2⟩ := U.f
    obtain ⟨st, l1⟩ := U.l
    refine ⟨_, rfl, q la [la, fa] H' U.sub ⟨fa, far, st, 0, rfl, U.ne, l1, f1, ?_⟩ fun b hb => ?_⟩
    · rw [List.length_map] at f2
      omega
    · rcases List.mem_cons.mp hb with z | z
      · rw [z]
        exact U.nl
      · rw [List.mem_singleton.mp z]
        exact U.nf
end
end K56
namespace K56
open PySem PySem.Spec PyProof.Rows L2 DL BM
theorem ixN_at {n i : Nat} (h : i < n) : L2.ixN n (i : Int) = some i := by
  unfold L2.ixN
  simp [show ¬ ((i : Int) < 0) by omega]
  omega
/-! ### one thing comes -/
/-! ### rows run -/
end K56
namespace K56
open PySem PySem.Spec PyProof.Rows L2 DL BM
def S__law_pick : Sd := fun as q => ∃ ds : List PyData, as = [.loom, .d (.list ds)] ∧ 0 < ds.length ∧ ds.length ≤ 1000 ∧ ∀ d ∈ ds, q d
theorem mono__law_pick : MonoD S__law_pick := fun as q q' h ⟨ds, e, a, b, k⟩ => ⟨ds, e, a, b, fun d hd => h _ (k d hd)⟩
theorem data__law_pick (as : List Sl) (q : PyData → Prop) (hl : as.length = 2) (h : S__law_pick as q) : w__law_pick S_draw (enD q) (entry ["deck", "items"] as) := by
  obtain ⟨ds, rfl, h0, h1, h⟩ := h
  rw [show entry ["deck", "items"] [.loom, .d (.list ds)] = [.loom, .d (.list ds)] from rfl]
  unfold w__law_pick
  simp [S_draw]
  refine ⟨by omega, fun r hd => ?_⟩
  obtain ⟨d, e, hm⟩ := pick_at hd h0
  exact ⟨d, e, h d hm⟩
theorem drawn_lt {n r : Int} (hn : 1 ≤ n) (h : drawn n r) : 0 ≤ r ∧ r < n := by
  rcases h with ⟨a, b⟩ | ⟨a, b, c⟩ <;> omega
theorem LayA {n : Nat} {ds : List PyData} (h : ∀ d ∈ ds, Lay n d) : Lay (n + 1) (.list ds) ∧ Lay (n + 1) (.tuple ds) := by
  have c : PyData.canLayAll0 ds = true := by
    induction ds with
    | nil => rfl
    | cons d ds ih => simp [PyData.canLayAll0, (h d List.mem_cons_self).c, ih fun e he => h e (List.mem_cons_of_mem _ he)]
  have dp : PyData.depthAll ds ≤ n := by
    clear c
    induction ds with
    | nil => exact Nat.zero_le _
    | cons d ds ih =>
      have := (h d List.mem_cons_self).d
      have := ih fun e he => h e (List.mem_cons_of_mem _ he)
      simp only [PyData.depthAll]
      omega
  exact ⟨⟨by simpa [PyData.canLay0] using c, by simp only [PyData.depth]; omega⟩, ⟨by simpa [PyData.canLay0] using c, by simp only [PyData.depth]; omega⟩⟩
theorem erase_perm {α : Type} : ∀ {l : List α} {i : Nat} (h : i < l.length), (l[i] :: l.eraseIdx i).Perm l
  | x :: xs, 0, _ => by simp
  | x :: xs, i + 1, h => by
    have hi : i < xs.length := by simpa using h
    have ih := erase_perm (l := xs) (i := i) hi
    simp only [List.getElem_cons_succ, List.eraseIdx_cons_succ]
    exact (List.Perm.swap x (xs[i]'hi) _).trans (ih.cons x)
theorem cut_from {α : Type} (f : α → PyData) (l : List α) (i : Nat) : DL.cutD (l.map f) (some (i : Int)) none = (l.drop i).map f := by
  unfold DL.cutD
  rw [HT.sIx_none, HT.sIx_nat]
  simp only [List.map_drop, List.length_map]
  rw [List.take_of_length_le (by simp)]
  by_cases h : i ≤ l.length
  · rw [Nat.min_eq_left h]
  · rw [Nat.min_eq_right (by omega), List.drop_eq_nil_of_le (by simp), List.drop_eq_nil_of_le (by rw [List.length_map]; omega)]
theorem cut_to {α : Type} (f : α → PyData) (l : List α) (i : Nat) : DL.cutD (l.map f) none (some (i : Int)) = (l.take i).map f := by
  unfold DL.cutD
  rw [HT.sIx_none, HT.sIx_nat]
  simp only [List.length_map, List.drop_zero, Nat.sub_zero]
  by_cases h : i ≤ l.length
  · rw [Nat.min_eq_left h, List.map_take]
  · rw [Nat.min_eq_right (by omega), List.take_of_length_le (by simp), List.take_of_length_le (by omega)]
theorem ints_of {P : Int → Prop} : ∀ {zs : List PyData}, (∀ z ∈ zs, ∃ k : Int, z = .int k ∧ P k) → ∃ r : List Int, zs = dis r ∧ (∀ k ∈ r, P k) ∧ r.length = zs.length
  | [], _ => ⟨[], rfl, fun k hk => absurd hk (by simp), rfl⟩
  | z :: zs, h => by
    obtain ⟨k, rfl, hk⟩ := h z List.mem_cons_self
    obtain ⟨r, rfl, h2, h3⟩ := ints_of (zs := zs) fun y hy => h y (List.mem_cons_of_mem _ hy)
    refine ⟨k :: r, rfl, fun j hj => ?_, by simp⟩
    rcases List.mem_cons.mp hj with rfl | hj
    · exact hk
    · exact h2 j hj
theorem perm_mapG {α : Type} {f : α → PyData} : ∀ {a b : List PyData} {o : List α}, b.Perm a → a = o.map f → ∃ o' : List α, b = o'.map f ∧ o'.Perm o := by
  intro a b o p
  induction p generalizing o with
  | nil =>
    intro e
    have : o = [] := by simpa using e.symm
    exact ⟨[], rfl, by rw [this]⟩
  | @cons x l1 l2 p ih =>
    intro e
    cases o with
    | nil => cases e
    | cons y ys =>
      rw [List.map_cons] at e
      injection e with e1 e2
      obtain ⟨o', h1, h2⟩ := ih e2
      exact ⟨y :: o', by rw [List.map_cons, h1, e1], h2.cons y⟩
  | @swap x y l =>
    intro e
    cases o with
    | nil => cases e
    | cons y1 ys =>
      cases ys with
      | nil => cases e
      | cons y2 ys =>
        rw [List.map_cons, List.map_cons] at e
        injection e with e1 e2
        injection e2 with e2 e3
        exact ⟨y2 :: y1 :: ys, by rw [List.map_cons, List.map_cons, e1, e2, e3], List.Perm.swap y1 y2 ys⟩
  | @trans l1 l2 l3 p q ih1 ih2 =>
    intro e
    obtain ⟨o2, h1, h2⟩ := ih2 e
    obtain ⟨o1, h3, h4⟩ := ih1 h1
    exact ⟨o1, h3, h4.trans h2⟩
end K56
namespace K56
open PySem PySem.Spec PyProof.Rows L2 DL BM
theorem rng_nat (n : Nat) : rngD 0 n = (List.range n).map fun z : Nat => PyData.int (z : Int) := by simp [rngD]
theorem kinds_mem {n : Nat} {k : Int} : k ∈ kindsI n ↔ 0 ≤ k ∧ k < (n : Int) := by
  unfold kindsI
  rw [List.mem_map]
  constructor
  · rintro ⟨j, hj, rfl⟩
    have := List.mem_range.mp hj
    omega
  · intro h
    exact ⟨k.toNat, List.mem_range.mpr (by omega), by omega⟩
/-- pairs on the way: each once, all along one rank -/
structure OkH (n : Nat) (rk : Int → Int) (b : Bk) : Prop where
  k : ∀ p ∈ b, (0 ≤ p.1 ∧ p.1 < n) ∧ (0 ≤ p.2 ∧ p.2 < n)
  nd : b.Nodup
  r : ∀ p ∈ b, rk p.1 < rk p.2
theorem pairs_len {n : Nat} {b : Bk} (k : ∀ p ∈ b, (0 ≤ p.1 ∧ p.1 < (n : Int)) ∧ (0 ≤ p.2 ∧ p.2 < (n : Int))) (nd : b.Nodup) : b.length ≤ n * n :=
  Nat.le_trans (nodup_subG b (cano n fun _ _ => true) nd fun p hp => mem_cano.mpr ⟨kinds_mem.mpr (k p hp).1, kinds_mem.mpr (k p hp).2, rfl⟩) cano_length
/-- a book: in order, along some rank -/
structure OkD (n : Nat) (b : Bk) : Prop where
  k : ∀ p ∈ b, (0 ≤ p.1 ∧ p.1 < n) ∧ (0 ≤ p.2 ∧ p.2 < n)
  a : b.Pairwise asP
  r : ∃ rk : Int → Int, ∀ p ∈ b, rk p.1 < rk p.2
theorem asP_ne {p q : Int × Int} (h : asP p q) : p ≠ q := by
  rintro rfl
  unfold asP at h
  omega
theorem OkD.len {n : Nat} {b : Bk} (h : OkD n b) (n8 : n ≤ 8) : b.length ≤ 64 := Nat.le_trans (pairs_len h.k (h.a.imp asP_ne)) (Nat.le_trans (Nat.mul_le_mul n8 n8) (by decide))
theorem OkH.len {n : Nat} {rk : Int → Int} {b : Bk} (h : OkH n rk b) (n8 : n ≤ 8) : b.length ≤ 64 := Nat.le_trans (pairs_len h.k h.nd) (Nat.le_trans (Nat.mul_le_mul n8 n8) (by decide))
theorem OkH.done {n : Nat} {rk : Int → Int} {b c : Bk} (h : OkH n rk b) (p : c.Perm b) (s : c.Pairwise leP) : OkD n c :=
  ⟨fun q hq => h.k q (p.mem_iff.mp hq), by
    have nd : c.Nodup := p.nodup_iff.mpr h.nd
    refine (s.and nd).imp fun {x y} ⟨a, b⟩ => ?_
    obtain ⟨x1, x2⟩ := x
    obtain ⟨y1, y2⟩ := y
    have ne : ¬ (x1 = y1 ∧ x2 = y2) := fun z => b (Prod.ext z.1 z.2)
    unfold leP at a
    unfold asP
    simp only at *
    omega, rk, fun q hq => h.r q (p.mem_iff.mp hq)⟩
end K56
namespace K56
open PySem PySem.Spec PyProof.Rows L2 DL BM
theorem OkD.cano {n : Nat} {p : Int → Int → Bool} (rk : Int → Int) (h : ∀ x y, p x y = true → rk x < rk y) : OkD n (BM.cano n p) :=
  ⟨fun q hq => by
    obtain ⟨a, b, _⟩ := mem_cano.mp (show (q.1, q.2) ∈ BM.cano n p from hq)
    exact ⟨kinds_mem.mp a, kinds_mem.mp b⟩, cano_asc, rk, fun q hq => by
    obtain ⟨_, _, c⟩ := mem_cano.mp (show (q.1, q.2) ∈ BM.cano n p from hq)
    exact h _ _ c⟩
theorem OkD.nil {n : Nat} : OkD n [] := ⟨by simp, by simp, id, by simp⟩
theorem OkD.sub {n : Nat} {b c : Bk} (h : OkD n b) (s : List.Sublist c b) : OkD n c := ⟨fun p hp => h.k p (s.subset hp), h.a.sublist s, h.r.imp fun rk k p hp => k p (s.subset hp)⟩
/-- all lesser ones pass -/
def lesM (n : Nat) : Bk := cano n fun x h => decide (x < h)
theorem les_ok (n : Nat) : OkD n (lesM n) := .cano id fun x y h => by simpa using h
theorem les_mem {n : Nat} {x h : Int} : (x, h) ∈ lesM n ↔ 0 ≤ x ∧ x < h ∧ h < n := by
  unfold lesM
  rw [mem_cano, kinds_mem, kinds_mem]
  simp
  omega
theorem kinds_succ (i : Nat) : kindsI (i + 1) = kindsI i ++ [(i : Int)] := by
  unfold kindsI
  rw [List.range_succ, List.map_append]
  rfl
/-- kind by kind, to the i-th -/
def canoTo (n i : Nat) (p : Int → Int → Bool) : Bk := (kindsI i).flatMap fun x => ((kindsI n).filter (p x)).map fun h => (x, h)
theorem canoTo_succ (n i : Nat) (p : Int → Int → Bool) : canoTo n (i + 1) p = canoTo n i p ++ ((kindsI n).filter (p i)).map fun h => ((i : Int), h) := by
  unfold canoTo
  rw [kinds_succ, List.flatMap_append]
  simp
theorem canoTo_len {n i : Nat} (hi : i ≤ 8) (hn : n ≤ 8) (p : Int → Int → Bool) : (canoTo n i p).length ≤ 64 := by
  have kl : ∀ i, (kindsI i).length = i := fun i => by simp [kindsI]
  have : ∀ l : List Int, (l.flatMap fun x => ((kindsI n).filter (p x)).map fun h => (x, h)).length ≤ l.length * n := fun l => by
    induction l with
    | nil => simp
    | cons a l ih =>
      rw [List.flatMap_cons, List.length_append, List.length_map, List.length_cons, Nat.succ_mul]
      have := List.length_filter_le (p a) (kindsI n)
      rw [kl] at this
      omega
  have z := this (kindsI i)
  rw [kl] at z
  unfold canoTo
  exact Nat.le_trans z (Nat.le_trans (Nat.mul_le_mul hi hn) (by decide))
def S__law_lesser : Sd := fun as q => ∃ n : Nat, as = [.d (.int (n : Nat))] ∧ n ≤ 8 ∧ q (dbk (lesM n))
theorem mono__law_lesser : MonoD S__law_lesser := fun as q q' h ⟨n, e, a, k⟩ => ⟨n, e, a, h _ k⟩
theorem rng_from {n i : Nat} (hi : i < n) : rngD ((i : Int) + 1) ((n : Int) - ((i : Int) + 1)).toNat = (((kindsI n).filter fun h => decide ((i : Int) < h))).map PyData.int := by
  have e : ((kindsI n).filter fun h => decide ((i : Int) < h)) = (List.range (n - (i + 1))).map fun k : Nat => (i : Int) + 1 + k := by
    refine asc_same ((kinds_asc n).filter _) (List.pairwise_map.mpr (List.pairwise_lt_range.imp fun h => by omega)) fun k => ?_
    rw [List.mem_filter, kinds_mem, List.mem_map]
    constructor
    · rintro ⟨⟨a, b⟩, c⟩
      have c : (i : Int) < k := by simpa using c
      exact ⟨(k - (i + 1)).toNat, List.mem_range.mpr (by omega), by omega⟩
    · rintro ⟨j, hj, rfl⟩
      have := List.mem_range.mp hj
      refine ⟨⟨by omega, by omega⟩, by simp; omega⟩
  rw [e]
  unfold rngD
  rw [List.map_map, show ((n : Int) - ((i : Int) + 1)).toNat = n - (i + 1) by omega]
  rfl
theorem data__law_lesser (as : List Sl) (q : PyData → Prop) (hl : as.length = 1) (h : S__law_lesser as q) : w__law_lesser (enD q) (entry ["n", "had", "x", "h"] as) := by
  obtain ⟨n, rfl, n8, h⟩ := h
  rw [show entry ["n", "had", "x", "h"] [.d (.int (n : Nat))] = [.d (.int (n : Nat)), .un, .un, .un] from rfl]
  unfold w__law_lesser
  refine seq_inv (fun ρ => ρ = [.d (.int (n : Nat)), .d (.list []), .un, .un]) (fun N hN => ?_) ?_
  · simp
    exact hN _ rfl
  rintro _ rfl
  refine seq_inv (fun ρ => ∃ s2 s3, ρ = [.d (.int (n : Nat)), .d (.list ((lesM n).map dpr)), s2, s3]) (fun N hN => ?_) ?_
  · simp only [wFor, wRng1, wVar]
    simp
    refine ⟨⟨by omega, by omega⟩, ?_⟩
    refine wLoop_rng (fun i ρ => ∃ s2 s3, ρ = [.d (.int (n : Nat)), .d (.list ((canoTo n i fun x h => decide (x < h)).map dpr)), s2, s3]) ?_ (fun ρ ⟨s2, s3, e⟩ => hN _ ⟨s2, s3, e⟩) _ ⟨.un, .un, rfl⟩
    rintro i ρ N1 hi ⟨s2, s3, rfl⟩ hN1
    have cl := canoTo_len (n := n) (i := i) (by omega) n8 fun x h => decide (x < h)
    have cl2 := canoTo_len (n := n) (i := i + 1) (by omega) n8 fun x h => decide (x < h)
    rw [canoTo_succ, List.length_append, List.length_map] at cl2
    simp only [wgName, Int.zero_add]
    simp
    refine ⟨⟨by omega, by omega⟩, ⟨by omega, by omega⟩, ?_⟩
    rw [rng_from hi]
    refine wLcL_mp (fun ρ => ∃ s3, ρ = [.d (.int (n : Nat)), .d (.list ((canoTo n i fun x h => decide (x < h)).map dpr)), .d (.int (i : Nat)), s3]) PyData.int (fun h => dpr ((i : Int), h)) ((kindsI n).filter fun h => decide ((i : Int) < h)) _ ?_ (le_big (by omega)) ⟨_, rfl⟩ ?_
    · rintro h hh ρ ⟨s3, rfl⟩ k hk
      have := hk _ ⟨.d (.int h), rfl⟩
      simp
      exact this
    · rintro ρ' ⟨s3', rfl⟩
      have go := fun s3 => hN1 _ ⟨.d (.int (i : Nat)), s3, rfl⟩
      rw [canoTo_succ] at go
      simp [backS, Function.comp_def] at go ⊢
      exact ⟨le_big (by omega), go _⟩
  rintro _ ⟨s2, s3, rfl⟩
  simp
  exact h
end K56
namespace K56
open PySem PySem.Spec PyProof.Rows L2 DL BM
theorem rising_uniq : ∀ {a b : List Int}, a.Perm b → a.Pairwise (· ≤ ·) → b.Pairwise (· ≤ ·) → a = b := by
  intro a b p ha hb
  exact p.eq_of_pairwise (fun x y _ _ h1 h2 => Int.le_antisymm h1 h2) ha hb
theorem sorted_up {a a' : List Int} (p : a'.Perm a) (s : a'.Pairwise (· ≤ ·)) : decide (a' = a) = upB a := by
  rw [Bool.eq_iff_iff, upB_iff, decide_eq_true_eq]
  exact ⟨fun e => e ▸ s, fun h => rising_uniq p s h⟩
theorem eqX_ints (a b : List Int) (q : PyData → Prop) : eqXD (.list (dis a)) (.list (dis b)) q = q (.bool (decide (a = b))) := by
  show (SeqAt.shaped _ = true ∧ SeqAt.shaped _ = true ∧ q _) = _
  have e : PyData.eqv (.list (dis a)) (.list (dis b)) = decide (a = b) := by
    rw [PyData.eqv]
    exact eqvAll_map eqv_i2 a b
  rw [shaped_ints a, shaped_ints b, e]
  simp
/-! ### what stands, and what came out last -/
/-! ### one thing more -/
abbrev exts (n : Nat) (ps : List (Ky × List Int)) : List (List Int) := (ps.map (·.2)).flatMap (extN n)
end K56
namespace K56
open PySem PySem.Spec PyProof.Rows L2 DL BM
/-! ### one bay, a line, all rows -/
def S__law_bay : Sd := fun as q => ∃ (b : Bk) (ts : List Int), as = [.d (dbk b), .d (.tuple (dis ts))] ∧ ts.length ≤ 1000 ∧ q (.list (dis (thM b ts)))
theorem mono__law_bay : MonoD S__law_bay := fun as q q' h ⟨b, ts, e, l, k⟩ => ⟨b, ts, e, l, h _ k⟩
theorem data__law_bay (as : List Sl) (q : PyData → Prop) (hl : as.length = 2) (h : S__law_bay as q) : w__law_bay (enD q) (entry ["book", "things", "held", "out", "thing"] as) := by
  obtain ⟨b, ts, rfl, tl, h⟩ := h
  rw [show entry ["book", "things", "held", "out", "thing"] [.d (dbk b), .d (.tuple (dis ts))] = [.d (dbk b), .d (.tuple (dis ts)), .un, .un, .un] from rfl]
  unfold w__law_bay
  refine seq_inv (fun ρ => ρ = [.d (dbk b), .d (.tuple (dis ts)), .d .none, .own (.list []), .un]) (fun N hN => ?_) ?_
  · simp
    exact hN _ rfl
  rintro _ rfl
  have sh : SeqAt.shaped (.tuple (b.map dpr)) = true := shaped_bk b
  refine seq_inv (fun ρ => ∃ s4, ρ = [.d (dbk b), .d (.tuple (dis ts)), .d (dop (bay b none ts).1), .own (.list (dis (bay b none ts).2)), s4]) (fun N hN => ?_) ?_
  · simp only [wFor, wI, wVar]
    simp
    refine wLoop_list (f := PyData.int) (fun pre post ρ => pre ++ post = ts ∧ ∃ s4, ρ = [.d (dbk b), .d (.tuple (dis ts)), .d (dop (bay b none pre).1), .own (.list (dis (bay b none pre).2)), s4]) ?_ ts ?_ _ ⟨rfl, .un, rfl⟩
    · rintro pre x post ρ N1 ⟨e, s4, rfl⟩ hN1
      have ol : (bay b none pre).2.length ≤ 1000 := by
        have h1 := bay_length b pre none
        have := congrArg List.length e
        simp at this h1
        omega
      have go := hN1 [.d (dbk b), .d (.tuple (dis ts)), .d (dop (bay b none (pre ++ [x])).1), .own (.list (dis (bay b none (pre ++ [x])).2)), .d (.int x)] ⟨by simpa using e, _, rfl⟩
      rw [bay_append] at go
      clear hN1
      generalize bay b none pre = st at go ol ⊢
      obtain ⟨hd, out⟩ := st
      simp only at ol
      have lt : out.length < sizeLine := lt_big (by omega)
      cases hd with
      | none =>
        simp [bay] at go ⊢
        exact go
      | some g =>
        simp [bay, dbk, sh] at go ⊢
        by_cases c : (x, g) ∈ b
        · simp [c] at go
          exact .inr ⟨c, lt, go⟩
        · simp [c] at go
          exact .inl ⟨fun a b' z e1 e2 => c (e1 ▸ e2 ▸ z), lt, go⟩
    · rintro pre ρ ⟨e, s4, rfl⟩
      rw [List.append_nil] at e
      subst e
      exact hN _ ⟨s4, rfl⟩
  rintro _ ⟨s4, rfl⟩
  have bl := bay_length b ts none
  unfold thM at h
  cases e : (bay b none ts).1 with
  | none =>
    rw [e] at h
    simp at h ⊢
    exact h
  | some g =>
    rw [e] at h bl
    simp at h bl ⊢
    exact ⟨le_big (by omega), h⟩
end K56
namespace K56
open PySem PySem.Spec PyProof.Rows L2 DL BM
theorem neX_ints (a b : List Int) (q : PyData → Prop) : neXD (.list (dis a)) (.list (dis b)) q = q (.bool (!decide (a = b))) := by
  show (SeqAt.shaped _ = true ∧ SeqAt.shaped _ = true ∧ q _) = _
  have e : PyData.eqv (.list (dis a)) (.list (dis b)) = decide (a = b) := by
    rw [PyData.eqv]
    exact eqvAll_map eqv_i2 a b
  rw [shaped_ints a, shaped_ints b, e]
  simp
/-! ### the law -/
theorem shown_eq {d : PyData} (h : d.showable = true ∧ d.depth ≤ 60 ∧ d.shown.length ≤ sizeLine) (q : PyData → Prop) : shownD d q = q (.str d.shown) := propext ⟨fun z => z.2.2.2, fun z => ⟨h.1, h.2.1, h.2.2, z⟩⟩
theorem sz_bkD {n : Nat} {b : Bk} (n8 : n ≤ 8) (h : OkD n b) : Sz 2 1091 (dbk b) := (sz_map (k := 64) (fun p hp => sz_pr ⟨⟨(h.k p hp).1.1, by have := (h.k p hp).1.2; omega⟩, ⟨(h.k p hp).2.1, by have := (h.k p hp).2.2; omega⟩⟩) (h.len n8)).tup (by decide)
theorem sz_lnD {n : Nat} {l : List Bk} (n8 : n ≤ 8) (h : ∀ b ∈ l, OkD n b) (ll : l.length ≤ 8) : Sz 3 10000 (dln l) := ((sz_map (k := 8) (fun b hb => sz_bkD n8 (h b hb)) ll).tup (by decide))
end K56
namespace K56
open PySem PySem.Spec PyProof.Rows L2 DL BM
def S_full : Sd := fun as q => ∃ n : Nat, as = [.d (.int (n : Nat))] ∧ n ≤ 8 ∧ q (dbk (lesM n))
theorem mono_full : MonoD S_full := fun as q q' h ⟨n, e, a, k⟩ => ⟨n, e, a, h _ k⟩
theorem data_full (as : List Sl) (q : PyData → Prop) (hl : as.length = 1) (h : S_full as q) : w_full (enD q) (entry ["n", "x", "h"] as) := by
  obtain ⟨n, rfl, n8, h⟩ := h
  rw [show entry ["n", "x", "h"] [.d (.int (n : Nat))] = [.d (.int (n : Nat)), .un, .un] from rfl]
  unfold w_full
  have kl : (kindsI n).length = n := by simp [kindsI]
  have fl : ∀ x : Int, ((kindsI n).filter fun h => decide (x < h)).length ≤ 8 := fun x => by
    have := List.length_filter_le (fun h => decide (x < h)) (kindsI n)
    omega
  simp
  refine ⟨⟨by omega, by omega⟩, ?_⟩
  rw [show rngD 0 n = (kindsI n).map PyData.int by rw [rng_nat]; unfold kindsI; rw [List.map_map]; rfl]
  refine wLc2L_fl (fun ρ => ∃ s1 s2, ρ = [.d (.int (n : Nat)), s1, s2]) PyData.int (fun x => ((kindsI n).filter fun h => decide (x < h)).map fun h => dpr (x, h)) 8 (fun x => by rw [List.length_map]; exact fl x) _ _ _ ?_ (by rw [kl]; exact le_big (by simp; omega)) ⟨_, _, rfl⟩ ?_
  · rintro x hx ρ ⟨s1, s2, rfl⟩ acc k ha hk
    obtain ⟨x0, x1⟩ := kinds_mem.mp hx
    obtain ⟨i, rfl⟩ : ∃ i : Nat, x = i := ⟨x.toNat, by omega⟩
    simp
    refine ⟨⟨by omega, by omega⟩, ⟨by omega, by omega⟩, ?_⟩
    rw [rng_from (n := n) (i := i) (by omega)]
    refine wInL_fl (fun ρ => ∃ s2, ρ = [.d (.int (n : Nat)), .d (.int (i : Nat)), s2]) PyData.int (fun _ => true) (fun h => dpr ((i : Int), h)) _ _ _ ?_ (by have := fl i; omega) ⟨_, rfl⟩ (fun ρ' ⟨s3, e⟩ => ?_)
    · rintro h2 hh ρ ⟨s3, rfl⟩ k1 k0 h1 h0
      have h1 := h1 rfl [.d (.int (n : Nat)), .d (.int (i : Nat)), .d (.int h2)] ⟨_, rfl⟩
      simpa [dpr] using h1
    · have := hk ρ' ⟨_, s3, e⟩
      simpa using this
  · rintro ρ' ⟨s1, s2, rfl⟩
    have e : (kindsI n).flatMap (fun x => ((kindsI n).filter fun h => decide (x < h)).map fun h => dpr (x, h)) = (lesM n).map dpr := by
      show _ = List.map dpr ((kindsI n).flatMap fun x => ((kindsI n).filter fun h => decide (x < h)).map fun h => (x, h))
      rw [List.map_flatMap]
      simp [Function.comp_def]
    simp [backS, e]
    exact h
def bookN (b : Bk) : List (PyData × PyData) := putAll [] (b.map fun p => (dpr p, PyData.bool true))
theorem bookN_in (b : Bk) (t : Int) (h : Option Int) : (lookN (bookN b) (.tuple [.int t, dop h])).isSome = (match h with | none => false | some g => decide ((t, g) ∈ b)) := look_book b t h
def S_through : Sd := fun as q => ∃ (b : Bk) (r : List Int), as = [.d (dbk b), .d (drw r)] ∧ b.length ≤ 1000 ∧ r.length ≤ 1000 ∧ q (drw (thM b r))
theorem mono_through : MonoD S_through := fun as q q' h ⟨b, x, e, y, z, k⟩ => ⟨b, x, e, y, z, h _ k⟩
theorem data_through (as : List Sl) (q : PyData → Prop) (hl : as.length = 2) (h : S_through as q) : w_through (enD q) (entry ["book", "row", "pair", "passing", "came_out", "held", "thing"] as) := by
  obtain ⟨b, r, rfl, hb, hr, h⟩ := h
  rw [show entry ["book", "row", "pair", "passing", "came_out", "held", "thing"] [.d (dbk b), .d (drw r)] = [.d (dbk b), .d (drw r), .un, .un, .un, .un, .un] from rfl]
  unfold w_through
  refine seq_inv (fun ρ => ∃ s2, ρ = [.d (dbk b), .d (drw r), s2, .own (kdd (bookN b)), .un, .un, .un]) (fun N hN => ?_) ?_
  · simp [dbk]
    refine wDcL_mp (fun ρ => ∃ s2, ρ = [.d (.tuple (b.map dpr)), .d (drw r), s2, .un, .un, .un, .un]) dpr dpr (fun _ => .bool true) b [] _ ?_ (fun p _ => by cases p; rfl) (by simpa using le_big (by omega)) ⟨_, rfl⟩ ?_
    · rintro p hp ρ ⟨s2, rfl⟩ k hk
      simp
      exact hk _ ⟨_, rfl⟩
    · rintro ρ' ⟨s2, rfl⟩
      exact hN _ ⟨_, rfl⟩
  rintro _ ⟨s2, rfl⟩
  refine seq_inv (fun ρ => ρ = [.d (dbk b), .d (drw r), s2, .own (kdd (bookN b)), .own (.list []), .un, .un]) (fun N hN => ?_) ?_
  · simp
    exact hN _ rfl
  rintro _ rfl
  refine seq_inv (fun ρ => ρ = [.d (dbk b), .d (drw r), s2, .own (kdd (bookN b)), .own (.list []), .d .none, .un]) (fun N hN => ?_) ?_
  · simp
    exact hN _ rfl
  rintro _ rfl
  refine seq_inv (fun ρ => ∃ (hd : Option Int) (out : List PyData) (p : Sl), out.length ≤ 1000 ∧ ρ = [.d (dbk b), .d (drw r), s2, .own (kdd (bookN b)), .own (.list out), .d (dop hd), p] ∧ (out ++ [dop hd]).drop 1 = dis (thM b r)) (fun N hN => ?_) ?_
  · simp [drw]
    refine wLoop_inv (fun rest ρ => ∃ (hd : Option Int) (out : List PyData) (rs : List Int) (p : Sl), rest = dis rs ∧ out.length + rs.length ≤ 1000 ∧ ρ = [.d (dbk b), .d (.tuple (dis r)), s2, .own (kdd (bookN b)), .own (.list out), .d (dop hd), p] ∧
        (match hd with | none => out = [] ∧ rs = r | some h => ∃ os : List Int, out = .none :: dis os ∧ os ++ (bay b (some h) rs).2 ++ (bay b (some h) rs).1.toList = thM b r)) ?_ ?_ _ _ ⟨none, [], r, _, rfl, by simpa using hr, rfl, rfl, rfl⟩
    · rintro x xs ρ N' ⟨hd, out, rs, p, e1, e5, rfl, e3⟩ hN'
      cases rs with
      | nil => simp at e1
      | cons t rs =>
        simp at e1 e5
        obtain ⟨rfl, rfl⟩ := e1
        have key := bookN_in b t hd
        cases hd with
        | none =>
          obtain ⟨rfl, e3⟩ := e3
          have go := hN' _ ⟨some t, [.none], rs, .d (.int t), rfl, by simp at e5 ⊢; omega, rfl, [], rfl, by rw [← e3]; simp [thM, bay]⟩
          simp [dop] at key go ⊢
          refine ⟨_, rfl, rfl, ?_⟩
          simp [key]
          exact ⟨lt_big (by omega), go⟩
        | some h =>
          obtain ⟨os, rfl, e3⟩ := e3
          by_cases c : (t, h) ∈ b
          · have go := hN' _ ⟨some h, .none :: dis (os ++ [t]), rs, .d (.int t), rfl, by simp at e5 ⊢; omega, rfl, os ++ [t], rfl, by simpa [bay, c] using e3⟩
            simp [dop, c] at key go ⊢
            refine ⟨_, rfl, rfl, ?_⟩
            simp [key]
            exact ⟨lt_big (by simp at e5; omega), go⟩
          · have go := hN' _ ⟨some t, .none :: dis (os ++ [h]), rs, .d (.int t), rfl, by simp at e5 ⊢; omega, rfl, os ++ [h], rfl, by simpa [bay, c] using e3⟩
            simp [dop, c] at key go ⊢
            refine ⟨_, rfl, rfl, ?_⟩
            simp [key]
            exact ⟨lt_big (by simp at e5; omega), go⟩
    · rintro ρ ⟨hd, out, rs, p, e1, e5, rfl, e3⟩
      cases rs with
      | cons t ts => simp at e1
      | nil =>
        refine hN _ ⟨hd, out, p, by simpa using e5, by simp [drw], ?_⟩
        cases hd with
        | none =>
          obtain ⟨rfl, rfl⟩ := e3
          rfl
        | some h =>
          obtain ⟨os, rfl, e3⟩ := e3
          rw [← e3]
          simp [bay, dop]
  rintro _ ⟨hd, out, p, hol, rfl, e⟩
  refine seq_inv (fun ρ => ρ = [.d (dbk b), .d (drw r), s2, .own (kdd (bookN b)), .own (.list (out ++ [dop hd])), .d (dop hd), p]) (fun N hN => ?_) ?_
  · simp
    exact ⟨le_big (by omega), hN _ rfl⟩
  rintro _ rfl
  have cu : slD (.list (out ++ [dop hd])) (some (1 : Int)) none = fun q => q (.list (dis (thM b r))) := by
    funext q
    show q (PyData.list (DL.cutD (out ++ [dop hd]) (some ((1 : Nat) : Int)) none)) = _
    have z := cut_from id (out ++ [dop hd]) 1
    simp only [List.map_id] at z
    rw [← e, z]
  simp [-slD]
  rw [cu]
  simpa [drw] using h
/-! ### how many are ahead -/
def S_ahead : Sd := fun as q => ∃ (r : List Int) (p : Nat), as = [.d (drw r), .d (.int (p : Nat))] ∧ p < r.length ∧ r.length ≤ 1000 ∧ q (.int (ahd r p : Nat))
theorem mono_ahead : MonoD S_ahead := fun as q q' h ⟨r, p, e, a, b, k⟩ => ⟨r, p, e, a, b, h _ k⟩
theorem data_ahead (as : List Sl) (q : PyData → Prop) (hl : as.length = 2) (h : S_ahead as q) : w_ahead (enD q) (entry ["row", "place", "kind"] as) := by
  obtain ⟨r, p, rfl, hp, rl, h⟩ := h
  rw [show entry ["row", "place", "kind"] [.d (drw r), .d (.int (p : Nat))] = [.d (drw r), .d (.int (p : Nat)), .un] from rfl]
  unfold w_ahead
  have c1 := cut_to PyData.int r p
  have c2 : L2.atI (dis r) (p : Int) = some (.int (r.getD p 0)) := by
    refine L2.atI_nat ?_
    simp [dis, List.getElem?_eq_getElem hp]
  have hq : q (.int (((r.take p).filter fun x => decide (r.getD p 0 < x)).length : Nat)) := h
  clear h
  generalize r.getD p 0 = y at c2 hq
  simp [-List.map_take, drw, c1]
  refine wLcL_fl (fun ρ => ∃ s2, ρ = [.d (.tuple (dis r)), .d (.int (p : Nat)), s2]) PyData.int (fun x => decide (y < x)) PyData.int (r.take p) _ ?_ (le_big (by simp; omega)) ⟨_, rfl⟩ ?_
  · rintro c hc ρ ⟨s2, rfl⟩ k1 k0 h1 h0
    have g1 := fun e => h1 e _ ⟨.d (.int c), rfl⟩
    have g0 := fun e => h0 e _ ⟨.d (.int c), rfl⟩
    simp [c2] at g1 g0 ⊢
    by_cases z : y < c
    · simp [z] at g1 ⊢
      exact .inr g1
    · simp [z] at g0 ⊢
      exact ⟨by omega, g0 (by omega)⟩
  · rintro ρ' ⟨s2, rfl⟩
    simp [backS]
    exact hq
def S__law_ahead_of : Sd := S_ahead
theorem mono__law_ahead_of : MonoD S__law_ahead_of := mono_ahead
theorem data__law_ahead_of (as : List Sl) (q : PyData → Prop) (hl : as.length = 2) (h : S__law_ahead_of as q) : w__law_ahead_of (enD q) (entry ["row", "place", "kind"] as) := data_ahead as q hl h
/-- the numbers of greater ones ahead, place by place -/
def nms (r : List Int) : List Int := (ahF c0 r).map fun a : Nat => (a : Int)
theorem nms_rng (r : List Int) : (List.range r.length).map (fun p => PyData.int (ahd r p : Nat)) = dis (nms r) := by
  unfold nms
  rw [ah_places, List.map_map]
  simp [dis, Function.comp_def]
theorem nms_len (r : List Int) : (nms r).length = r.length := by
  unfold nms
  rw [List.length_map, ah_len]
theorem nms_max {r : List Int} {m : Int} (h : m ∈ nms r) (t : ∀ y ∈ nms r, y ≤ m) : m = (mxA r : Nat) := by
  unfold nms at h t
  obtain ⟨a, ha, rfl⟩ := List.mem_map.mp h
  have h1 := (mxL_le (ahF c0 r) a).mpr fun b hb => by
    have := t _ (List.mem_map.mpr ⟨b, hb, rfl⟩)
    omega
  have h2 := (mxL_le (ahF c0 r) (mxL (ahF c0 r))).mp (Nat.le_refl _) a ha
  unfold mxA
  omega
theorem nms_nil {r : List Int} (h : nms r = []) : mxA r = 0 := by
  have := nms_len r
  rw [h] at this
  have : r = [] := List.length_eq_zero_iff.mp this.symm
  rw [this]
  rfl
def S_fewest_full : Sd := fun as q => ∃ r : List Int, as = [.d (drw r)] ∧ r.length ≤ 1000 ∧ q (.int (mxA r : Nat))
theorem mono_fewest_full : MonoD S_fewest_full := fun as q q' h ⟨r, e, a, k⟩ => ⟨r, e, a, h _ k⟩
theorem data_fewest_full (as : List Sl) (q : PyData → Prop) (hl : as.length = 1) (h : S_fewest_full as q) : w_fewest_full S_ahead (enD q) (entry ["row", "place"] as) := by
  obtain ⟨r, rfl, rl, h⟩ := h
  rw [show entry ["row", "place"] [.d (drw r)] = [.d (drw r), .un] from rfl]
  unfold w_fewest_full
  simp [drw]
  refine ⟨⟨by omega, by omega⟩, ?_⟩
  rw [rng_nat]
  refine wLcL_mp (fun ρ => ∃ s1, ρ = [.d (.tuple (dis r)), s1]) (fun z : Nat => PyData.int (z : Int)) (fun p => PyData.int (ahd r p : Nat)) (List.range r.length) _ ?_ (by rw [List.length_range]; exact le_big (by omega)) ⟨_, rfl⟩ ?_
  · rintro p hp ρ ⟨s1, rfl⟩ kk hkk
    simp
    exact ⟨r, p, rfl, by simpa using hp, rl, hkk _ ⟨_, rfl⟩⟩
  · rintro ρ' ⟨s1, rfl⟩
    rw [nms_rng]
    refine ⟨nms r, rfl, fun e => ?_, fun m h1 h2 => ?_⟩
    · have := nms_nil e
      rw [this] at h
      exact h
    · rw [nms_max h1 h2]
      exact h
end K56
namespace K56
open PySem PySem.Spec PyProof.Rows L2 DL BM
/-! ### the law's rows, and by bays -/
theorem les_same (n : Nat) : BM.lesM n = lesM n := rfl
def okR (n : Nat) (r : List Int) : Prop := ∀ x ∈ r, 0 ≤ x ∧ x < (n : Int)
theorem okR.th {n : Nat} {r : List Int} (h : okR n r) : okR n (thM (lesM n) r) := fun x hx => h x ((thM_perm (lesM n) r).mem_iff.mp hx)
def S__law_row : Sd := fun as q => ∃ n : Nat, as = [.loom, .d (.int (n : Nat))] ∧ 1 ≤ n ∧ n ≤ 8 ∧ ∀ r : List Int, okR n r → r.length ≤ 60 → q (drw r)
theorem mono__law_row : MonoD S__law_row := fun as q q' h ⟨n, e, a, b, k⟩ => ⟨n, e, a, b, fun r o l => h _ (k r o l)⟩
theorem data__law_row (as : List Sl) (q : PyData → Prop) (hl : as.length = 2) (h : S__law_row as q) : w__law_row S_draw S__law_pick (enD q) (entry ["deck", "n", "way", "many", "spot", "row"] as) := by
  obtain ⟨n, rfl, n1, n8, h⟩ := h
  rw [show entry ["deck", "n", "way", "many", "spot", "row"] [.loom, .d (.int (n : Nat))] = [.loom, .d (.int (n : Nat)), .un, .un, .un, .un] from rfl]
  unfold w__law_row
  refine seq_inv (fun ρ => ∃ (w : Int) (m : Nat), m ≤ 20 ∧ ρ = [.loom, .d (.int (n : Nat)), .d (.int w), .d (.int (m : Nat)), .un, .un]) (fun N hN => ?_) ?_
  · have go := fun (w : Int) (m : Nat) (hm : m ≤ 20) => hN _ ⟨w, m, hm, rfl⟩
    simp [S_draw, S__law_pick]
    exact fun r hr => ⟨⟨_, _, ⟨rfl, rfl⟩, go r 0 (by omega)⟩, ⟨_, _, ⟨rfl, rfl⟩, go r 1 (by omega)⟩, ⟨_, _, ⟨rfl, rfl⟩, go r 2 (by omega)⟩, ⟨_, _, ⟨rfl, rfl⟩, go r 5 (by omega)⟩, ⟨_, _, ⟨rfl, rfl⟩, go r 9 (by omega)⟩, ⟨_, _, ⟨rfl, rfl⟩, go r 20 (by omega)⟩⟩
  rintro _ ⟨w, m, m20, rfl⟩
  refine seq_inv (fun ρ => ∃ (r : List Int) (s4 : Sl), okR n r ∧ r.length ≤ 20 ∧ ρ = [.loom, .d (.int (n : Nat)), .d (.int w), .d (.int (m : Nat)), s4, .own (.list (dis r))]) (fun N hN => ?_) ?_
  · simp
    refine ⟨⟨by omega, by omega⟩, ?_⟩
    rw [rng_nat]
    refine wLcL_all (fun ρ => ∃ s4, ρ = [.loom, .d (.int (n : Nat)), .d (.int w), .d (.int (m : Nat)), s4, .un]) (fun z : Nat => PyData.int (z : Int)) (fun z => ∃ k : Int, z = .int k ∧ (0 ≤ k ∧ k < (n : Int))) (List.range m) _ ?_ (by rw [List.length_range]; exact le_big (by omega)) ⟨_, rfl⟩ ?_
    · rintro p hp ρ ⟨s4, rfl⟩ kk hkk
      simp [S_draw]
      exact ⟨by omega, fun x hx => hkk _ _ ⟨x, rfl, drawn_lt (n := (n : Int)) (by omega) hx⟩ ⟨_, rfl⟩⟩
    · rintro zs ρ' hz hP ⟨s4', rfl⟩
      obtain ⟨o, rfl, h2, h3⟩ := ints_of hP
      have := fun s4 => hN _ ⟨o, s4, h2, by rw [h3, hz, List.length_range]; omega, rfl⟩
      simp [backS] at this ⊢
      exact this _
  rintro _ ⟨r, s4, ok, rl, rfl⟩
  have srt : ∀ ys : List Int, ys.Perm r → q (drw ys) := fun ys p => h ys (fun x hx => ok x (p.mem_iff.mp hx)) (by rw [p.length_eq]; omega)
  by_cases w0 : w = 0
  · simp [w0, -sortXD]
    refine .inl ⟨r, .inl rfl, fun ys p _ => ?_⟩
    simpa [drw] using srt ys p
  by_cases w1 : w = 1
  · simp [w1, -sortXD]
    refine .inl ⟨r, .inl rfl, fun ys p _ => ?_⟩
    have := srt ys.reverse ((List.reverse_perm ys).trans p)
    simpa [drw] using this
  by_cases w2 : w = 2
  · have := h (List.replicate m ((n : Int) - 1) ++ [0]) (fun x hx => by
      rcases List.mem_append.mp hx with z | z
      · rw [List.eq_of_mem_replicate z]
        omega
      · rw [List.mem_singleton.mp z]
        omega) (by simp; omega)
    simp [w2]
    rw [rep_one]
    simp [drw] at this ⊢
    exact ⟨⟨by omega, by omega⟩, by have := le_big (n := m) (by omega); omega, by have := le_big (n := m + 1) (by omega); omega, this⟩
  simp [w0, w1, w2]
  exact srt r (List.Perm.refl _)
def S__law_by_bays : Sd := fun as q => ∃ (n : Nat) (r : List Int), as = [.d (.int (n : Nat)), .d (drw r)] ∧ n ≤ 8 ∧ okR n r ∧ r.length ≤ 1000 ∧ q (.int (mxA r : Nat))
theorem mono__law_by_bays : MonoD S__law_by_bays := fun as q q' h ⟨n, r, e, a, b, c, k⟩ => ⟨n, r, e, a, b, c, h _ k⟩
theorem sort_ne (o : List Int) (q : PyData → Prop) (h : q (.bool (!upB o))) : sortXD (.tuple (dis o)) fun z => neXD (.list (dis o)) z q := by
  refine .inl ⟨o, .inr rfl, fun ys p s => ?_⟩
  show neXD (.list (dis o)) (.list (dis ys)) q
  rw [neX_ints, show decide (o = ys) = decide (ys = o) from decide_eq_decide.mpr ⟨Eq.symm, Eq.symm⟩, sorted_up p s]
  exact h
theorem data__law_by_bays (as : List Sl) (q : PyData → Prop) (hl : as.length = 2) (h : S__law_by_bays as q) : w__law_by_bays S__law_lesser S__law_bay (enD q) (entry ["n", "row", "amount", "book"] as) := by
  obtain ⟨n, r, rfl, n8, ok, rl, h⟩ := h
  rw [show entry ["n", "row", "amount", "book"] [.d (.int (n : Nat)), .d (drw r)] = [.d (.int (n : Nat)), .d (drw r), .un, .un] from rfl]
  unfold w__law_by_bays
  refine seq_inv (fun ρ => ρ = [.d (.int (n : Nat)), .d (drw r), .d (.int 0), .d (dbk (lesM n))]) (fun N hN => ?_) ?_
  · simp
    exact ⟨n, rfl, n8, _, _, ⟨rfl, rfl⟩, hN _ rfl⟩
  rintro _ rfl
  refine seq_inv (fun ρ => ∃ s1, ρ = [.d (.int (n : Nat)), s1, .d (.int (mxA r : Nat)), .d (dbk (lesM n))]) (fun N hN => ?_) ?_
  · refine wWh_inv (fun k ρ => ∃ (o : List Int) (i : Nat), okR n o ∧ o.length ≤ 1000 ∧ mxA o = k ∧ i + k = mxA r ∧ ρ = [.d (.int (n : Nat)), .d (drw o), .d (.int (i : Nat)), .d (dbk (lesM n))]) ?_ ⟨r, 0, ok, rl, rfl, by omega, rfl⟩
    rintro k ρ N1 ⟨o, i, oo, ol, ek, ei, rfl⟩ hN1
    simp [-sortXD, -neXD, drw]
    refine sort_ne _ _ ?_
    cases e : upB o with
    | true =>
      have k0 : k = 0 := by rw [← ek]; exact mx_zero.mpr (upB_iff.mp e)
      simp
      have := hN _ ⟨.d (drw o), rfl⟩
      rw [show i = mxA r by omega]
      exact this
    | false =>
      have k0 : k ≠ 0 := fun z => by
        have := upB_iff.mpr (mx_zero.mp (ek.trans z))
        rw [e] at this
        cases this
      simp
      refine ⟨lesM n, o, rfl, ol, ?_⟩
      have mt := mx_th (n := n) oo
      rw [les_same] at mt
      have := hN1 (k - 1) _ (by omega) ⟨thM (lesM n) o, i + 1, oo.th, by rw [(thM_perm (lesM n) o).length_eq]; exact ol, by omega, by omega, rfl⟩
      simpa [drw] using this
  rintro _ ⟨s1, rfl⟩
  simp
  exact h
end K56
namespace K56
open PySem PySem.Spec PyProof.Rows L2 DL BM
theorem neX_rw (a b : List Int) (q : PyData → Prop) : neXD (drw a) (drw b) q = q (.bool (!decide (a = b))) := by
  show (SeqAt.shaped _ = true ∧ SeqAt.shaped _ = true ∧ q _) = _
  have e : PyData.eqv (drw a) (drw b) = decide (a = b) := by
    unfold drw
    rw [PyData.eqv]
    exact eqvAll_map eqv_i2 a b
  rw [(Lay.rw a).shaped (by decide), (Lay.rw b).shaped (by decide), e]
  simp
theorem neX_int (a b : Int) (q : PyData → Prop) : neXD (.int a) (.int b) q = q (.bool (!decide (a = b))) := by
  show (SeqAt.shaped (.int a) = true ∧ SeqAt.shaped (.int b) = true ∧ q (.bool (!PyData.eqv (.int a) (.int b)))) = _
  rw [eqv_i2, (Lay.int a).shaped (by decide), (Lay.int b).shaped (by decide)]
  simp
theorem zip_ints (a b : List Int) : zipD (dis a) (dis b) = (a.zip b).map dpr := by
  unfold zipD dis
  rw [List.zip_map, List.map_map]
  rfl
theorem enum_ints : ∀ (o : List Int) (i : Nat), enumD (i : Int) (dis o) = (o.zipIdx i).map fun p : Int × Nat => PyData.tuple [.int (p.2 : Nat), .int p.1]
  | [], i => rfl
  | x :: o, i => by
    show PyData.tuple [.int (i : Int), .int x] :: enumD ((i : Int) + 1) (dis o) = _
    have := enum_ints o (i + 1)
    rw [show ((i : Int) + 1) = ((i + 1 : Nat) : Int) by omega, this]
    rfl
theorem first_of (k : Int) (r : List Int) : (((nms r).zip r).filter fun p => decide (p.2 = k)).map (fun p => PyData.int p.1) = dis ((fkF k c0 r).map fun a : Nat => (a : Int)) := by
  rw [fk_zip]
  unfold nms
  rw [List.zip_map_left, List.filter_map]
  simp [dis, Function.comp_def, List.map_map]
theorem later_of (k : Int) (o : List Int) : (o.zipIdx.filter fun p => decide (p.1 = k)).map (fun p => PyData.int (ahd o p.2 : Nat)) = dis ((fkF k c0 o).map fun a : Nat => (a : Int)) := by
  rw [fk_places]
  simp [dis, Function.comp_def, List.map_map]
theorem fk_len (k : Int) (r : List Int) : (fkF k c0 r).length ≤ r.length := by
  rw [fk_zip, List.length_map]
  have := List.length_filter_le (fun p : Nat × Int => decide (p.2 = k)) ((ahF c0 r).zip r)
  rw [List.length_zip, ah_len] at this
  omega
theorem zero_max {r : List Int} {m : Int} (h : m ∈ 0 :: nms r) (t : ∀ y ∈ 0 :: nms r, y ≤ m) : m = (mxA r : Nat) := by
  rcases List.mem_cons.mp h with rfl | h
  · have := (mxL_le (ahF c0 r) 0).mpr fun b hb => by
      have := t b (List.mem_cons_of_mem _ (List.mem_map.mpr ⟨b, hb, rfl⟩))
      omega
    unfold mxA
    omega
  · exact nms_max h fun y hy => t y (List.mem_cons_of_mem _ hy)
/-- what is told twice -/
def twoD (m : Nat) : PyData := .list [.int (m : Nat), .int (m : Nat)]
theorem two_ok {m : Nat} (h : m < 100) : (twoD m).showable = true ∧ (twoD m).depth ≤ 60 ∧ (twoD m).shown.length ≤ sizeLine := by
  have a : Sz 0 3 (.int (m : Int)) := sz_int (by omega) (by omega)
  exact (Sz.of_list.mpr (SzA.cons a (SzA.cons a SzA.nil))).ok (m := 1) (n := 3 + 2 + (3 + 2 + 0) + 2) (by decide) (by decide)
def S__law_is_right : Sd := fun as q => ∃ (n : Nat) (r : List Int) (b : Bool), as = [.loom, .d (.int (n : Nat)), .d (drw r), .d (.bool b)] ∧ 1 ≤ n ∧ n ≤ 8 ∧ okR n r ∧ r.length ≤ 60 ∧ q (.bool true)
theorem mono__law_is_right : MonoD S__law_is_right := fun as q q' h ⟨n, r, b, e, x1, x2, x3, x4, k⟩ => ⟨n, r, b, e, x1, x2, x3, x4, h _ k⟩
theorem data__law_is_right (as : List Sl) (q : PyData → Prop) (hl : as.length = 4) (h : S__law_is_right as q) : w__law_is_right S__law_by_bays S__law_ahead_of S_ahead S_fewest_full S_through S_full S__law_bay S__law_lesser (enD q) (entry ["deck", "n", "row", "is_named", "known", "due", "place", "numbers", "told", "behind", "kind", "number", "own", "first", "later"] as) := by
  obtain ⟨n, r, b, rfl, n1, n8, ok, rl, h⟩ := h
  rw [show entry ["deck", "n", "row", "is_named", "known", "due", "place", "numbers", "told", "behind", "kind", "number", "own", "first", "later"] [.loom, .d (.int (n : Nat)), .d (drw r), .d (.bool b)] = [.loom, .d (.int (n : Nat)), .d (drw r), .d (.bool b), .un, .un, .un, .un, .un, .un, .un, .un, .un, .un, .un] from rfl]
  have s1 := fun q => shown_eq ((sz_rw (m := 60) (r := r) ⟨fun k hk => ⟨(ok k hk).1, by have := (ok k hk).2; omega⟩, rl⟩).ok (by decide) (by decide)) q
  have m6 : mxA r < 100 := by
    by_cases e : r = []
    · subst e
      decide
    · have := mx_len e
      omega
  have s2 := fun q => shown_eq (two_ok m6) q
  obtain ⟨m, em⟩ : ∃ m, m = mxA r := ⟨_, rfl⟩
  rw [← em] at m6 s2
  have fe : ∀ q : PyData → Prop, q (.int (m : Nat)) → S_fewest_full [.d (drw r)] q := fun q hq => ⟨r, rfl, by omega, by rw [← em]; exact hq⟩
  unfold w__law_is_right
  refine seq_inv (fun ρ => ρ = [.loom, .d (.int (n : Nat)), .d (drw r), .d (.bool b), .d (.str (drw r).shown), .d (.int (m : Nat)), .un, .un, .un, .un, .un, .un, .un, .un, .un]) (fun N hN => ?_) ?_
  · simp [-shownD, s1]
    refine ⟨n, r, rfl, n8, ok, by omega, ?_⟩
    rw [← em]
    exact ⟨_, _, ⟨rfl, rfl⟩, hN _ rfl⟩
  rintro _ rfl
  refine seq_inv (fun ρ => ∃ s6, ρ = [.loom, .d (.int (n : Nat)), .d (drw r), .d (.bool b), .d (.str (drw r).shown), .d (.int (m : Nat)), s6, .own (.list (dis (nms r))), .un, .un, .un, .un, .un, .un, .un]) (fun N hN => ?_) ?_
  · simp [drw]
    refine ⟨⟨by omega, by omega⟩, ?_⟩
    rw [rng_nat]
    refine wLcL_mp (fun ρ => ∃ s6, ρ = [.loom, .d (.int (n : Nat)), .d (.tuple (dis r)), .d (.bool b), .d (.str (drw r).shown), .d (.int (m : Nat)), s6, .un, .un, .un, .un, .un, .un, .un, .un]) (fun z : Nat => PyData.int (z : Int)) (fun p => PyData.int (ahd r p : Nat)) (List.range r.length) _ ?_ (by rw [List.length_range]; exact le_big (by omega)) ⟨_, rfl⟩ ?_
    · rintro p hp ρ ⟨s6, rfl⟩ kk hkk
      simp
      exact ⟨r, p, rfl, by simpa using hp, by omega, hkk _ ⟨_, rfl⟩⟩
    · rintro ρ' ⟨s6, rfl⟩
      rw [nms_rng]
      have := fun s6 => hN _ ⟨s6, rfl⟩
      simp [backS, drw] at this ⊢
      exact this _
  rintro _ ⟨s6, rfl⟩
  refine seq_inv (fun ρ => ∃ s6, ρ = [.loom, .d (.int (n : Nat)), .d (drw r), .d (.bool b), .d (.str (drw r).shown), .d (.int (m : Nat)), s6, .own (.list (dis (nms r))), .un, .un, .un, .un, .un, .un, .un]) (fun N hN => ?_) ?_
  · have nl := nms_len r
    simp [drw, -neXD]
    refine ⟨by rw [nl]; exact le_big (by omega), 0 :: nms r, rfl, by simp, fun m' h1 h2 => ?_⟩
    rw [zero_max h1 h2, ← em, neX_int]
    refine .inl ⟨by simp, ⟨by omega, by omega⟩, ?_⟩
    rw [rng_nat]
    refine wLcL_mp (fun ρ => ∃ s6, ρ = [.loom, .d (.int (n : Nat)), .d (.tuple (dis r)), .d (.bool b), .d (.str (drw r).shown), .d (.int (m : Nat)), s6, .own (.list (dis (nms r))), .un, .un, .un, .un, .un, .un, .un]) (fun z : Nat => PyData.int (z : Int)) (fun p => PyData.int (ahd r p : Nat)) (List.range r.length) _ ?_ (by rw [List.length_range]; exact le_big (by omega)) ⟨_, rfl⟩ ?_
    · rintro p hp ρ ⟨s6, rfl⟩ kk hkk
      simp
      exact ⟨r, p, rfl, by simpa using hp, by omega, hkk _ ⟨_, rfl⟩⟩
    · rintro ρ' ⟨s6, rfl⟩
      rw [nms_rng]
      have := fun s6 => hN _ ⟨s6, rfl⟩
      simp [backS, drw, -neXD] at this ⊢
      show neXD (.list (dis (nms r))) (.list (dis (nms r))) _
      rw [neX_ints]
      exact .inl ⟨by simp, this _⟩
  rintro _ ⟨s6', rfl⟩
  refine seq_inv (fun ρ => ρ = [.loom, .d (.int (n : Nat)), .d (drw r), .d (.bool b), .d (.str (drw r).shown), .d (.int (m : Nat)), s6', .own (.list (dis (nms r))), .d (twoD m), .un, .un, .un, .un, .un, .un]) (fun N hN => ?_) ?_
  · cases b with
    | true =>
      simp
      exact fe _ (fe _ (hN _ rfl))
    | false =>
      simp
      exact fe _ (fe _ (hN _ rfl))
  rintro _ rfl
  refine seq_inv (fun ρ => ρ = [.loom, .d (.int (n : Nat)), .d (drw r), .d (.bool b), .d (.str (drw r).shown), .d (.int (m : Nat)), s6', .own (.list (dis (nms r))), .d (twoD m), .un, .un, .un, .un, .un, .un]) (fun N hN => ?_) ?_
  · simp [-shownD, s1, s2]
    show shownD (twoD m) _
    rw [s2]
    simp
    exact hN _ rfl
  rintro _ rfl
  refine seq_inv (fun ρ => ρ = [.loom, .d (.int (n : Nat)), .d (drw r), .d (.bool b), .d (.str (drw r).shown), .d (.int (m : Nat)), s6', .own (.list (dis (nms r))), .d (twoD m), .d (drw (thM (lesM n) r)), .un, .un, .un, .un, .un]) (fun N hN => ?_) ?_
  · simp
    refine ⟨n, rfl, n8, lesM n, r, rfl, ?_, by omega, hN _ rfl⟩
    exact Nat.le_trans ((les_ok n).len n8) (by decide)
  rintro _ rfl
  have bok := ok.th
  have bl : (thM (lesM n) r).length ≤ 60 := by rw [(thM_perm (lesM n) r).length_eq]; exact rl
  have bm : mxA (thM (lesM n) r) = m - 1 := by rw [em]; exact mx_th (n := n) ok
  have bf : ∀ k, fkF k c0 (thM (lesM n) r) = (fkF k c0 r).map (· - 1) := fun k => fk_th (n := n) k ok
  refine seq_inv (fun ρ => ρ = [.loom, .d (.int (n : Nat)), .d (drw r), .d (.bool b), .d (.str (drw r).shown), .d (.int (m : Nat)), s6', .own (.list (dis (nms r))), .d (twoD m), .d (drw (thM (lesM n) r)), .un, .un, .un, .un, .un]) (fun N hN => ?_) ?_
  · have := hN _ rfl
    simp [-neXD]
    refine ⟨n, rfl, n8, lesM n, r, rfl, by omega, ?_⟩
    show neXD (drw (thM (lesM n) r)) (drw (thM (lesM n) r)) _
    rw [neX_rw]
    refine .inl ⟨by simp, _, rfl, by omega, ?_⟩
    rw [bm]
    show neXD (.int ((m - 1 : Nat) : Int)) _ _
    rw [neX_int]
    refine .inl ⟨?_, this⟩
    have : ((m - 1 : Nat) : Int) = if 1 < (m : Int) then (m : Int) - 1 else 0 := by split <;> omega
    rw [this]
    simp
  rintro _ rfl
  generalize thM (lesM n) r = o at bok bl bm bf ⊢
  obtain ⟨L, eL⟩ : ∃ L, L = PyData.list (dis (nms r)) := ⟨_, rfl⟩
  rw [← eL]
  refine seq_inv (fun ρ => ∃ s6 s7 s10 s11 s12 s13 s14, ρ = [.loom, .d (.int (n : Nat)), .d (drw r), .d (.bool b), .d (.str (drw r).shown), .d (.int (m : Nat)), s6, s7, .d (twoD m), .d (drw o), s10, s11, s12, s13, s14]) (fun N hN => ?_) ?_
  · simp only [wFor, wRng1, wVar]
    simp
    refine ⟨⟨by omega, by omega⟩, ?_⟩
    refine wLoop_rng (fun k ρ => ∃ s6 s7 s10 s11 s12 s13 s14, (s7 = .own L ∨ s7 = .d L) ∧ ρ = [.loom, .d (.int (n : Nat)), .d (drw r), .d (.bool b), .d (.str (drw r).shown), .d (.int (m : Nat)), s6, s7, .d (twoD m), .d (drw o), s10, s11, s12, s13, s14]) ?_ (fun ρ ⟨s6, s7, s10, s11, s12, s13, s14, _, e⟩ => hN _ ⟨s6, s7, s10, s11, s12, s13, s14, e⟩) _ ⟨_, _, _, _, _, _, _, .inl rfl, rfl⟩
    rintro k ρ N' kn ⟨s6, s7, s10, s11, s12, s13, s14, e7, rfl⟩ hN'
    clear hN
    simp only [wgName, Int.zero_add]
    have fl1 := fk_len k r
    have fl2 := fk_len k o
    have nl := nms_len r
    refine seq_inv (fun ρ => ∃ s11 s12, ρ = [.loom, .d (.int (n : Nat)), .d (drw r), .d (.bool b), .d (.str (drw r).shown), .d (.int (m : Nat)), s6, .d L, .d (twoD m), .d (drw o), .d (.int (k : Nat)), s11, s12, .own (.list (dis ((fkF k c0 r).map fun a : Nat => (a : Int)))), s14]) (fun N hN => ?_) ?_
    · have comp : wLcL (wgTup 2 (wgCons (wgName 11) (wgCons (wgName 12) wgNil))) (wTst (wOp2 eqXD (Od.s 12) (Od.s 10))) (wVar 11) [11, 12] [.loom, .d (.int (n : Nat)), .d (drw r), .d (.bool b), .d (.str (drw r).shown), .d (.int (m : Nat)), s6, .d L, .d (twoD m), .d (drw o), .d (.int (k : Nat)), s11, s12, s13, s14] (zipD (dis (nms r)) (dis r)) [] [.loom, .d (.int (n : Nat)), .d (drw r), .d (.bool b), .d (.str (drw r).shown), .d (.int (m : Nat)), s6, .d L, .d (twoD m), .d (drw o), .d (.int (k : Nat)), s11, s12, s13, s14] fun ds ρ' => N (ρ'.set 13 (.own (.list ds))) := by
        rw [zip_ints]
        refine wLcL_fl (fun ρ => ∃ s11 s12, ρ = [.loom, .d (.int (n : Nat)), .d (drw r), .d (.bool b), .d (.str (drw r).shown), .d (.int (m : Nat)), s6, .d L, .d (twoD m), .d (drw o), .d (.int (k : Nat)), s11, s12, s13, s14]) dpr (fun p => decide (p.2 = (k : Int))) (fun p => .int p.1) ((nms r).zip r) _ ?_ (le_big (by rw [List.length_zip]; omega)) ⟨_, _, rfl⟩ ?_
        · rintro p hp ρ ⟨s11, s12, rfl⟩ k1 k0 h1 h0
          have g1 := fun e => h1 e _ ⟨.d (.int p.1), .d (.int p.2), rfl⟩
          have g0 := fun e => h0 e _ ⟨.d (.int p.1), .d (.int p.2), rfl⟩
          clear h1 h0
          simp [dpr, and_assoc]
          by_cases c : p.2 = (k : Int)
          · simp [c] at g1 ⊢
            exact g1
          · simp [c] at g0 ⊢
            exact g0
        · rintro ρ' ⟨s11, s12, rfl⟩
          rw [first_of]
          have := fun s11 s12 => hN _ ⟨s11, s12, rfl⟩
          simp [backS] at this ⊢
          exact this _ _
      rcases e7 with rfl | rfl
      · simp [-wgTup, eL, drw] at comp ⊢
        exact ⟨_, _, ⟨rfl, rfl⟩, comp⟩
      · simp [-wgTup, eL, drw] at comp ⊢
        exact ⟨_, _, ⟨rfl, rfl⟩, comp⟩
    rintro _ ⟨s11, s12, rfl⟩
    refine seq_inv (fun ρ => ∃ s6 s12, ρ = [.loom, .d (.int (n : Nat)), .d (drw r), .d (.bool b), .d (.str (drw r).shown), .d (.int (m : Nat)), s6, .d L, .d (twoD m), .d (drw o), .d (.int (k : Nat)), s11, s12, .own (.list (dis ((fkF k c0 r).map fun a : Nat => (a : Int)))), .own (.list (dis ((fkF k c0 o).map fun a : Nat => (a : Int))))]) (fun N hN => ?_) ?_
    · have comp : wLcL (wgTup 2 (wgCons (wgName 6) (wgCons (wgName 12) wgNil))) (wTst (wOp2 eqXD (Od.s 12) (Od.s 10))) (wCall S__law_ahead_of [.e (wVar 9), .e (wVar 6)]) [6, 12] [.loom, .d (.int (n : Nat)), .d (drw r), .d (.bool b), .d (.str (drw r).shown), .d (.int (m : Nat)), s6, .d L, .d (twoD m), .d (drw o), .d (.int (k : Nat)), s11, s12, .own (.list (dis ((fkF k c0 r).map fun a : Nat => (a : Int)))), s14] (enumD 0 (dis o)) [] [.loom, .d (.int (n : Nat)), .d (drw r), .d (.bool b), .d (.str (drw r).shown), .d (.int (m : Nat)), s6, .d L, .d (twoD m), .d (drw o), .d (.int (k : Nat)), s11, s12, .own (.list (dis ((fkF k c0 r).map fun a : Nat => (a : Int)))), s14] fun ds ρ' => N (ρ'.set 14 (.own (.list ds))) := by
        rw [show enumD 0 (dis o) = _ from enum_ints o 0]
        refine wLcL_fl (fun ρ => ∃ s6 s12, ρ = [.loom, .d (.int (n : Nat)), .d (drw r), .d (.bool b), .d (.str (drw r).shown), .d (.int (m : Nat)), s6, .d L, .d (twoD m), .d (drw o), .d (.int (k : Nat)), s11, s12, .own (.list (dis ((fkF k c0 r).map fun a : Nat => (a : Int)))), s14]) (fun p : Int × Nat => PyData.tuple [.int (p.2 : Nat), .int p.1]) (fun p => decide (p.1 = (k : Int))) (fun p => .int (ahd o p.2 : Nat)) (o.zipIdx) _ ?_ (le_big (by rw [List.length_zipIdx]; omega)) ⟨_, _, rfl⟩ ?_
        · rintro p hp ρ ⟨s6, s12, rfl⟩ k1 k0 h1 h0
          have g1 := fun e => h1 e _ ⟨.d (.int p.2), .d (.int p.1), rfl⟩
          have g0 := fun e => h0 e _ ⟨.d (.int p.2), .d (.int p.1), rfl⟩
          have lp : p.2 < o.length := (List.mem_zipIdx' (x := p.1) (i := p.2) hp).1
          clear h1 h0
          simp [and_assoc]
          by_cases c : p.1 = (k : Int)
          · simp [c] at g1 ⊢
            exact ⟨o, p.2, rfl, lp, by omega, g1⟩
          · simp [c] at g0 ⊢
            exact g0
        · rintro ρ' ⟨s6, s12, rfl⟩
          rw [later_of]
          have := fun s6 s12 => hN _ ⟨s6, s12, rfl⟩
          simp [backS] at this ⊢
          exact this _ _
      simp [-wgTup, drw, -List.map_map] at comp ⊢
      exact comp
    rintro _ ⟨s6, s12, rfl⟩
    simp [-neXD, -List.map_map]
    refine wLcL_mp (fun ρ => ∃ s11, ρ = [.loom, .d (.int (n : Nat)), .d (drw r), .d (.bool b), .d (.str (drw r).shown), .d (.int (m : Nat)), s6, .d L, .d (twoD m), .d (drw o), .d (.int (k : Nat)), s11, s12, .d (.list (dis ((fkF k c0 r).map fun a : Nat => (a : Int)))), .own (.list (dis ((fkF k c0 o).map fun a : Nat => (a : Int))))]) PyData.int (fun x => PyData.int (if 0 < x - 1 then x - 1 else 0)) ((fkF k c0 r).map fun a : Nat => (a : Int)) _ ?_ (by rw [List.length_map]; exact le_big (by omega)) ⟨_, rfl⟩ ?_
    · rintro p hp ρ ⟨s11, rfl⟩ kk hkk
      have := hkk _ ⟨.d (.int p), rfl⟩
      simp at this ⊢
      exact this
    · rintro ρ' ⟨s11, rfl⟩
      have eq : (((fkF k c0 r).map fun a : Nat => (a : Int)).map fun x => PyData.int (if 0 < x - 1 then x - 1 else 0)) = dis ((fkF k c0 o).map fun a : Nat => (a : Int)) := by
        rw [bf k]
        simp only [dis, List.map_map]
        refine List.map_congr_left fun a _ => ?_
        simp only [Function.comp_def]
        congr 1
        split <;> omega
      rw [eq]
      simp [backS, -neXD, -List.map_map]
      rw [neX_ints]
      exact .inl ⟨by simp, hN' _ ⟨_, _, _, _, _, _, _, .inr rfl, rfl⟩⟩
  rintro _ ⟨s6, s7, s10, s11, s12, s13, s14, rfl⟩
  have nl := nms_len r
  simp [drw]
  have e : ∀ xs : List Int, SeqAt.shaped (.tuple (dis xs)) = true := fun xs => (Lay.rw xs).shaped (by decide)
  refine ⟨e r, e [], ?_⟩
  rw [show (PyData.tuple (dis r)).eqv (.tuple []) = decide (r = []) from eqv_rw r []]
  by_cases c : r = []
  · exact .inr ⟨by simp [c], h⟩
  · refine .inl ⟨by simp [c], .inl ?_⟩
    have := mx_len c
    rw [decide_eq_true (by omega)]
    exact h
end K56
namespace K56
open PySem PySem.Spec PyProof.Rows L2 DL BM
theorem data_law (ns : List Int) (hl : ns.length ≤ 63) : w_law S_full S__law_lesser S_draw S__law_is_right S__law_row S__law_pick (enD (· = .bool true)) (entry ["script", "deck", "n", "told", "turn", "row"] [.scr ns]) := by
  rw [show entry ["script", "deck", "n", "told", "turn", "row"] [.scr ns] = [.scr ns, .un, .un, .un, .un, .un] from rfl]
  unfold w_law
  refine seq_inv (fun ρ => ρ = [.scr ns, .loom, .un, .un, .un, .un]) (fun N hN => ?_) ?_
  · simp only [wMk]
    exact ⟨⟨ns, rfl, hl⟩, rfl, hN _ rfl⟩
  rintro _ rfl
  refine seq_inv (fun ρ => ∃ s2 s3 s4 s5, ρ = [.scr ns, .loom, s2, s3, s4, s5]) (fun N hN => ?_) ?_
  · simp only [wFor, wRng2, wC]
    refine ⟨1, 9, rfl, rfl, ⟨by decide, by decide⟩, ⟨by decide, by decide⟩, ?_⟩
    refine wLoop_rng (n := 8) (fun k ρ => ∃ s2 s3 s4 s5, ρ = [.scr ns, .loom, s2, s3, s4, s5]) ?_ (fun ρ h => hN _ h) _ ⟨_, _, _, _, rfl⟩
    rintro i ρ N' i8 ⟨s2, s3, s4, s5, rfl⟩ hN'
    clear hN
    simp only [wgName]
    rw [show (1 : Int) + (i : Nat) = ((i + 1 : Nat) : Int) by omega]
    generalize en : i + 1 = n
    have s1 := fun q => shown_eq ((sz_bkD (n := n) (by omega) (les_ok n)).ok (by decide) (by decide)) q
    refine seq_inv (fun ρ => ρ = [.scr ns, .loom, .d (.int (n : Nat)), .d (dbk (lesM n)), s4, s5]) (fun N hN => ?_) ?_
    · have := hN _ rfl
      by_cases c : (n : Int) % 2 = 0
      · simp
        exact .inr ⟨c, n, rfl, by omega, this⟩
      · simp
        exact .inl ⟨c, n, rfl, by omega, this⟩
    rintro _ rfl
    simp [-shownD, s1]
    refine ⟨n, rfl, by omega, ?_⟩
    show shownD (dbk (lesM n)) _
    rw [s1]
    simp
    exact hN' _ ⟨_, _, _, _, rfl⟩
  rintro _ ⟨s2, s3, s4, s5, rfl⟩
  refine seq_inv (fun ρ => ∃ s2 s3 s4 s5, ρ = [.scr ns, .loom, s2, s3, s4, s5]) (fun N hN => ?_) ?_
  · simp only [wFor, wRng1, wC]
    refine ⟨6, rfl, ⟨by decide, by decide⟩, ?_⟩
    refine wLoop_rng (fun k ρ => ∃ s2 s3 s4 s5, ρ = [.scr ns, .loom, s2, s3, s4, s5]) ?_ (fun ρ h => hN _ h) _ ⟨_, _, _, _, rfl⟩
    rintro turn ρ N' t6 ⟨s2, s3, s4, s5, rfl⟩ hN'
    clear hN
    simp only [wgName, Int.zero_add]
    refine seq_inv (fun ρ => ∃ n : Nat, 1 ≤ n ∧ n ≤ 8 ∧ ρ = [.scr ns, .loom, .d (.int (n : Nat)), s3, .d (.int (turn : Nat)), s5]) (fun N hN => ?_) ?_
    · simp [S_draw]
      intro r hr
      have hr := drawn_lt (by decide) hr
      obtain ⟨m, rfl⟩ : ∃ m : Nat, r = m := ⟨r.toNat, by omega⟩
      have := hN _ ⟨1 + m, by omega, by omega, rfl⟩
      simpa using this
    rintro _ ⟨n, n1, n8, rfl⟩
    simp
    exact ⟨n, rfl, n1, n8, fun r ok rl => ⟨n, r, _, rfl, n1, n8, ok, rl, rfl, hN' _ ⟨_, _, _, _, rfl⟩⟩⟩
  rintro _ ⟨s2, s3, s4, s5, rfl⟩
  refine seq_inv (fun ρ => ρ = [.scr ns, .loom, s2, s3, s4, s5]) (fun N hN => ?_) ?_
  · simp [S_draw]
    intro r hr
    have hr := drawn_lt (by decide) hr
    by_cases c : 0 < r
    · exact .inr c
    · exact .inl ⟨by omega, hN _ rfl⟩
  rintro _ rfl
  refine seq_inv (fun ρ => ∃ r : List Int, okR 8 r ∧ r.length ≤ 60 ∧ ρ = [.scr ns, .loom, s2, s3, s4, .d (drw r)]) (fun N hN => ?_) ?_
  · have go := fun (r : List Int) (h1 : ∀ x ∈ r, 0 ≤ x ∧ x < (8 : Int)) (h2 : r.length ≤ 60) => hN _ ⟨r, h1, h2, rfl⟩
    simp
    refine ⟨⟨by decide, by decide⟩, by decide, ⟨by decide, by decide⟩, ⟨by decide, by decide⟩, ⟨by decide, by decide⟩, by decide, ⟨by decide, by decide⟩, _, rfl, by simp, by simp, fun d hd => ?_⟩
    simp only [List.mem_cons, List.not_mem_nil, or_false] at hd
    rcases hd with rfl | rfl | rfl | rfl
    · exact go (List.replicate 59 1 ++ [0]) (by decide) (by decide)
    · exact go (List.replicate 7 [7, 6, 5, 4, 3, 2, 1, 0]).flatten (by decide) (by decide)
    · exact go (List.replicate 30 2 ++ List.replicate 29 1) (by decide) (by decide)
    · exact go (List.replicate 30 [0, 1]).flatten (by decide) (by decide)
  rintro _ ⟨r, ok, rl, rfl⟩
  simp
  exact ⟨8, r, false, rfl, by decide, by decide, ok, rl, rfl⟩
end K56
namespace K56
open PySem PySem.Spec PyProof.Rows L2 DL
section
variable {P : Program} {w : World} {K : PySem.W.Frag} {mg : Str → Option Value} {base : Heap} {k : Nat}
theorem here_mk {h : Heap} {x : Str} {st : Stmt} {f : Addr} {oc : Value} {od an : Option Addr} {osl : Array (Option Value)} {kV doc pm cdv ct : Value} (X : K.In h) (G : h.Ns mainGlobals mg) (a : PySem.W.nsIn K mainGlobals x = some (some (.ref f)))
    (l : K.lookup f = some ⟨oc, od, .func (PySem.W.fnOf x x (defArgs st) (defBody st) (defScope st) .none kV doc pm an cdv ct), osl⟩) (c : PySem.W.codeIn K cdv x = true) (kp : PySem.W.keepIn K (.ref f) = true) : Here K mg x st := ⟨f, _, fun_mk l c kp, PySem.W.mg_of X G a⟩
/-- a def, by its body's reading -/
theorem D_mk {R : Res} [Plain R] {x : Str} {st : Stmt} {N ps : List Str} {S : Sd} {W : WS} (h : Here K mg x st) (Sc : FnScope N ps (defScope st)) (mS : MonoD S)
    (t : ∀ (f : Addr) (cdv : Value) (A : Around) (outer : List PySem.Env) (s : Shared) (H : Hp) (E : XK), (A.deeper (envOfC x (defScope st) s.heap.objs.size f cdv)).guards = some [] → Room k (A.deeper (envOfC x (defScope st) s.heap.objs.size f cdv)) → SSs R (cxOf CX0 P w K mg base N x (defScope st) f cdv A outer s H E).nox (defBody st) W)
    (hd : ∀ as q, as.length = ps.length → S as q → W (enD q) (entry N as)) (hb : ∀ (kV doc pm : Value) (an : Option Addr) (cdv ct : Value) (us : List Value), us.length = ps.length → bindArgs (PySem.W.fnOf x x (defArgs st) (defBody st) (defScope st) .none kV doc pm an cdv ct) ⟨us, []⟩ = pure (ps.zip us)) :
    Def R P w K mg base (k + 1) x st ps S := by
  obtain ⟨f, fd, F, gm⟩ := h
  exact ⟨mS, f, fd, F, gd_of F Sc (fun cdv A outer s H E hg hr => ⟨W, t f cdv A outer s H E hg hr, hd⟩), gm, F.binds hb⟩
/-- the draw, by hand -/
theorem D_take {st : Stmt} (e : st = s__law_draw) (h : Here K mg "_law_draw" st) (B : Bi mg) : Def deckR P w K mg base (k + 1) "_law_draw" s__law_draw ["deck", "many"] S_draw := by
  subst e
  obtain ⟨f, fd, F, gm⟩ := h
  exact ⟨mono_draw, f, fd, F, take_gd F B, gm, F.binds fun _ _ _ _ _ _ us hl => match us, hl with | [_, _], _ => rfl⟩
/-- where all defs stand -/
structure All (K : PySem.W.Frag) (mg : Str → Option Value) : Prop where
  h_ahead : Here K mg "ahead" s_ahead
  h_through : Here K mg "through" s_through
  h_full : Here K mg "full" s_full
  h_fewest_full : Here K mg "fewest_full" s_fewest_full
  h__law_deck : Here K mg "_law_deck" s__law_deck
  h__law_draw : Here K mg "_law_draw" s__law_draw
  h__law_pick : Here K mg "_law_pick" s__law_pick
  h__law_bay : Here K mg "_law_bay" s__law_bay
  h__law_lesser : Here K mg "_law_lesser" s__law_lesser
  h__law_row : Here K mg "_law_row" s__law_row
  h__law_ahead_of : Here K mg "_law_ahead_of" s__law_ahead_of
  h__law_by_bays : Here K mg "_law_by_bays" s__law_by_bays
  h__law_is_right : Here K mg "_law_is_right" s__law_is_right
variable (B : Bi mg) (hs : SysIn base) (T : All K mg)
include B hs T
theorem P__law_draw : Def deckR P w K mg base 1 "_law_draw" s__law_draw ["deck", "many"] S_draw := D_take rfl T.h__law_draw B
theorem P_ahead : Def deckR P w K mg base 1 "ahead" s_ahead ["row", "place"] S_ahead :=
  D_mk T.h_ahead sc_ahead mono_ahead (fun f cdv A outer s H E hg hr => t_ahead B hs  hg hr) data_ahead fun _ _ _ _ _ _ us hl => match us, hl with | [_, _], _ => rfl
theorem P_through : Def deckR P w K mg base 1 "through" s_through ["book", "row"] S_through :=
  D_mk T.h_through sc_through mono_through (fun f cdv A outer s H E hg hr => t_through B hs  hg hr) data_through fun _ _ _ _ _ _ us hl => match us, hl with | [_, _], _ => rfl
theorem P_full : Def deckR P w K mg base 1 "full" s_full ["n"] S_full :=
  D_mk T.h_full sc_full mono_full (fun f cdv A outer s H E hg hr => t_full B hs  hg hr) data_full fun _ _ _ _ _ _ us hl => match us, hl with | [_], _ => rfl
theorem P_fewest_full : Def deckR P w K mg base 2 "fewest_full" s_fewest_full ["row"] S_fewest_full :=
  D_mk T.h_fewest_full sc_fewest_full mono_fewest_full (fun f cdv A outer s H E hg hr => t_fewest_full B hs ((P_ahead B hs T).up (by decide)) hg hr) data_fewest_full fun _ _ _ _ _ _ us hl => match us, hl with | [_], _ => rfl
theorem P__law_pick : Def deckR P w K mg base 2 "_law_pick" s__law_pick ["deck", "items"] S__law_pick :=
  D_mk T.h__law_pick sc__law_pick mono__law_pick (fun f cdv A outer s H E hg hr => t__law_pick B hs ((P__law_draw B hs T).up (by decide)) hg hr) data__law_pick fun _ _ _ _ _ _ us hl => match us, hl with | [_, _], _ => rfl
theorem P__law_bay : Def deckR P w K mg base 1 "_law_bay" s__law_bay ["book", "things"] S__law_bay :=
  D_mk T.h__law_bay sc__law_bay mono__law_bay (fun f cdv A outer s H E hg hr => t__law_bay B hs  hg hr) data__law_bay fun _ _ _ _ _ _ us hl => match us, hl with | [_, _], _ => rfl
theorem P__law_lesser : Def deckR P w K mg base 1 "_law_lesser" s__law_lesser ["n"] S__law_lesser :=
  D_mk T.h__law_lesser sc__law_lesser mono__law_lesser (fun f cdv A outer s H E hg hr => t__law_lesser B hs  hg hr) data__law_lesser fun _ _ _ _ _ _ us hl => match us, hl with | [_], _ => rfl
theorem P__law_row : Def deckR P w K mg base 3 "_law_row" s__law_row ["deck", "n"] S__law_row :=
  D_mk T.h__law_row sc__law_row mono__law_row (fun f cdv A outer s H E hg hr => t__law_row B hs ((P__law_draw B hs T).up (by decide)) ((P__law_pick B hs T).up (by decide)) hg hr) data__law_row fun _ _ _ _ _ _ us hl => match us, hl with | [_, _], _ => rfl
theorem P__law_ahead_of : Def deckR P w K mg base 1 "_law_ahead_of" s__law_ahead_of ["row", "place"] S__law_ahead_of :=
  D_mk T.h__law_ahead_of sc__law_ahead_of mono__law_ahead_of (fun f cdv A outer s H E hg hr => t__law_ahead_of B hs  hg hr) data__law_ahead_of fun _ _ _ _ _ _ us hl => match us, hl with | [_, _], _ => rfl
theorem P__law_by_bays : Def deckR P w K mg base 2 "_law_by_bays" s__law_by_bays ["n", "row"] S__law_by_bays :=
  D_mk T.h__law_by_bays sc__law_by_bays mono__law_by_bays (fun f cdv A outer s H E hg hr => t__law_by_bays B hs ((P__law_lesser B hs T).up (by decide)) ((P__law_bay B hs T).up (by decide)) hg hr) data__law_by_bays fun _ _ _ _ _ _ us hl => match us, hl with | [_, _], _ => rfl
theorem P__law_is_right : Def deckR P w K mg base 3 "_law_is_right" s__law_is_right ["deck", "n", "row", "is_named"] S__law_is_right :=
  D_mk T.h__law_is_right sc__law_is_right mono__law_is_right (fun f cdv A outer s H E hg hr => t__law_is_right B hs ((P__law_by_bays B hs T).up (by decide)) ((P__law_ahead_of B hs T).up (by decide)) ((P_ahead B hs T).up (by decide)) ((P_fewest_full B hs T).up (by decide)) ((P_through B hs T).up (by decide)) ((P_full B hs T).up (by decide)) ((P__law_bay B hs T).up (by decide)) ((P__law_lesser B hs T).up (by decide)) hg hr) data__law_is_right fun _ _ _ _ _ _ us hl => match us, hl with | [_, _, _, _], _ => rfl
theorem PL {f : Addr} {fd : FuncData} (F : Fun K "law" "law" s_law f fd) : GFn P w K mg base CX0 4 f fd ["script"] (spLaw K) := by
  obtain ⟨fL, fdL, FL, gL⟩ := T.h__law_deck
  exact law_gd F sc_law fun cdv A outer s H E hg hr => ⟨_, t_law B hs (deck_gd FL B) gL FL.kp (FL.binds fun _ _ _ _ _ _ us hl => match us, hl with | [_], _ => rfl)
    ((P_full B hs T).up (by decide)) ((P__law_lesser B hs T).up (by decide)) ((P__law_draw B hs T).up (by decide)) ((P__law_is_right B hs T).up (by decide)) ((P__law_row B hs T).up (by decide)) ((P__law_pick B hs T).up (by decide)) hg hr, data_law⟩
end
end K56
namespace K56
open PySem PySem.Spec PyProof.Rows L2 DL
theorem all_mk {l : PySem.W.OpenLaw} {w : World} {K : PySem.W.Frag} {h : Heap} {mg : Str → Option Value} {fa f1 f2 f3 f4 f5 f6 f7 f8 f9 f10 f11 f12 f13 f14 : Addr} (X : K.In h) (G : h.Ns mainGlobals mg) (hfa : mg "law" = some (.ref fa))
    {od1 an1 od2 an2 od3 an3 od4 an4 od5 an5 od6 an6 od7 an7 od8 an8 od9 an9 od10 an10 od11 an11 od12 an12 od13 an13 od14 an14 : Option Addr} {sl1 sl2 sl3 sl4 sl5 sl6 sl7 sl8 sl9 sl10 sl11 sl12 sl13 sl14 : Array (Option Value)} {oc1 kV1 dc1 pm1 cd1 ct1 oc2 kV2 dc2 pm2 cd2 ct2 oc3 kV3 dc3 pm3 cd3 ct3 oc4 kV4 dc4 pm4 cd4 ct4 oc5 kV5 dc5 pm5 cd5 ct5 oc6 kV6 dc6 pm6 cd6 ct6 oc7 kV7 dc7 pm7 cd7 ct7 oc8 kV8 dc8 pm8 cd8 ct8 oc9 kV9 dc9 pm9 cd9 ct9 oc10 kV10 dc10 pm10 cd10 ct10 oc11 kV11 dc11 pm11 cd11 ct11 oc12 kV12 dc12 pm12 cd12 ct12 oc13 kV13 dc13 pm13 cd13 ct13 oc14 kV14 dc14 pm14 cd14 ct14 : Value} 
    (a1 : PySem.W.nsIn K mainGlobals "ahead" = some (some (.ref f1))) (l1 : K.lookup f1 = some ⟨oc1, od1, .func (PySem.W.fnOf "ahead" "ahead" (defArgs s_ahead) (defBody s_ahead) (defScope s_ahead) .none kV1 dc1 pm1 an1 cd1 ct1), sl1⟩) (c1 : PySem.W.codeIn K cd1 "ahead" = true) (k1 : PySem.W.keepIn K (.ref f1) = true)
    (a2 : PySem.W.nsIn K mainGlobals "through" = some (some (.ref f2))) (l2 : K.lookup f2 = some ⟨oc2, od2, .func (PySem.W.fnOf "through" "through" (defArgs s_through) (defBody s_through) (defScope s_through) .none kV2 dc2 pm2 an2 cd2 ct2), sl2⟩) (c2 : PySem.W.codeIn K cd2 "through" = true) (k2 : PySem.W.keepIn K (.ref f2) = true)
    (a3 : PySem.W.nsIn K mainGlobals "full" = some (some (.ref f3))) (l3 : K.lookup f3 = some ⟨oc3, od3, .func (PySem.W.fnOf "full" "full" (defArgs s_full) (defBody s_full) (defScope s_full) .none kV3 dc3 pm3 an3 cd3 ct3), sl3⟩) (c3 : PySem.W.codeIn K cd3 "full" = true) (k3 : PySem.W.keepIn K (.ref f3) = true)
    (a4 : PySem.W.nsIn K mainGlobals "fewest_full" = some (some (.ref f4))) (l4 : K.lookup f4 = some ⟨oc4, od4, .func (PySem.W.fnOf "fewest_full" "fewest_full" (defArgs s_fewest_full) (defBody s_fewest_full) (defScope s_fewest_full) .none kV4 dc4 pm4 an4 cd4 ct4), sl4⟩) (c4 : PySem.W.codeIn K cd4 "fewest_full" = true) (k4 : PySem.W.keepIn K (.ref f4) = true)
    (a5 : PySem.W.nsIn K mainGlobals "_law_deck" = some (some (.ref f5))) (l5 : K.lookup f5 = some ⟨oc5, od5, .func (PySem.W.fnOf "_law_deck" "_law_deck" (defArgs s__law_deck) (defBody s__law_deck) (defScope s__law_deck) .none kV5 dc5 pm5 an5 cd5 ct5), sl5⟩) (c5 : PySem.W.codeIn K cd5 "_law_deck" = true) (k5 : PySem.W.keepIn K (.ref f5) = true)
    (a6 : PySem.W.nsIn K mainGlobals "_law_draw" = some (some (.ref f6))) (l6 : K.lookup f6 = some ⟨oc6, od6, .func (PySem.W.fnOf "_law_draw" "_law_draw" (defArgs s__law_draw) (defBody s__law_draw) (defScope s__law_draw) .none kV6 dc6 pm6 an6 cd6 ct6), sl6⟩) (c6 : PySem.W.codeIn K cd6 "_law_draw" = true) (k6 : PySem.W.keepIn K (.ref f6) = true)
    (a7 : PySem.W.nsIn K mainGlobals "_law_pick" = some (some (.ref f7))) (l7 : K.lookup f7 = some ⟨oc7, od7, .func (PySem.W.fnOf "_law_pick" "_law_pick" (defArgs s__law_pick) (defBody s__law_pick) (defScope s__law_pick) .none kV7 dc7 pm7 an7 cd7 ct7), sl7⟩) (c7 : PySem.W.codeIn K cd7 "_law_pick" = true) (k7 : PySem.W.keepIn K (.ref f7) = true)
    (a8 : PySem.W.nsIn K mainGlobals "_law_bay" = some (some (.ref f8))) (l8 : K.lookup f8 = some ⟨oc8, od8, .func (PySem.W.fnOf "_law_bay" "_law_bay" (defArgs s__law_bay) (defBody s__law_bay) (defScope s__law_bay) .none kV8 dc8 pm8 an8 cd8 ct8), sl8⟩) (c8 : PySem.W.codeIn K cd8 "_law_bay" = true) (k8 : PySem.W.keepIn K (.ref f8) = true)
    (a9 : PySem.W.nsIn K mainGlobals "_law_lesser" = some (some (.ref f9))) (l9 : K.lookup f9 = some ⟨oc9, od9, .func (PySem.W.fnOf "_law_lesser" "_law_lesser" (defArgs s__law_lesser) (defBody s__law_lesser) (defScope s__law_lesser) .none kV9 dc9 pm9 an9 cd9 ct9), sl9⟩) (c9 : PySem.W.codeIn K cd9 "_law_lesser" = true) (k9 : PySem.W.keepIn K (.ref f9) = true)
    (a10 : PySem.W.nsIn K mainGlobals "_law_row" = some (some (.ref f10))) (l10 : K.lookup f10 = some ⟨oc10, od10, .func (PySem.W.fnOf "_law_row" "_law_row" (defArgs s__law_row) (defBody s__law_row) (defScope s__law_row) .none kV10 dc10 pm10 an10 cd10 ct10), sl10⟩) (c10 : PySem.W.codeIn K cd10 "_law_row" = true) (k10 : PySem.W.keepIn K (.ref f10) = true)
    (a11 : PySem.W.nsIn K mainGlobals "_law_ahead_of" = some (some (.ref f11))) (l11 : K.lookup f11 = some ⟨oc11, od11, .func (PySem.W.fnOf "_law_ahead_of" "_law_ahead_of" (defArgs s__law_ahead_of) (defBody s__law_ahead_of) (defScope s__law_ahead_of) .none kV11 dc11 pm11 an11 cd11 ct11), sl11⟩) (c11 : PySem.W.codeIn K cd11 "_law_ahead_of" = true) (k11 : PySem.W.keepIn K (.ref f11) = true)
    (a12 : PySem.W.nsIn K mainGlobals "_law_by_bays" = some (some (.ref f12))) (l12 : K.lookup f12 = some ⟨oc12, od12, .func (PySem.W.fnOf "_law_by_bays" "_law_by_bays" (defArgs s__law_by_bays) (defBody s__law_by_bays) (defScope s__law_by_bays) .none kV12 dc12 pm12 an12 cd12 ct12), sl12⟩) (c12 : PySem.W.codeIn K cd12 "_law_by_bays" = true) (k12 : PySem.W.keepIn K (.ref f12) = true)
    (a13 : PySem.W.nsIn K mainGlobals "_law_is_right" = some (some (.ref f13))) (l13 : K.lookup f13 = some ⟨oc13, od13, .func (PySem.W.fnOf "_law_is_right" "_law_is_right" (defArgs s__law_is_right) (defBody s__law_is_right) (defScope s__law_is_right) .none kV13 dc13 pm13 an13 cd13 ct13), sl13⟩) (c13 : PySem.W.codeIn K cd13 "_law_is_right" = true) (k13 : PySem.W.keepIn K (.ref f13) = true)
    (a14 : PySem.W.nsIn K mainGlobals "law" = some (some (.ref f14))) (l14 : K.lookup f14 = some ⟨oc14, od14, .func (PySem.W.fnOf "law" "law" (defArgs s_law) (defBody s_law) (defScope s_law) .none kV14 dc14 pm14 an14 cd14 ct14), sl14⟩) (c14 : PySem.W.codeIn K cd14 "law" = true) (k14 : PySem.W.keepIn K (.ref f14) = true)
    (z_abs : PySem.W.nsIn K mainGlobals "abs" = some none)
    (z_enumerate : PySem.W.nsIn K mainGlobals "enumerate" = some none)
    (z_int : PySem.W.nsIn K mainGlobals "int" = some none)
    (z_isinstance : PySem.W.nsIn K mainGlobals "isinstance" = some none)
    (z_len : PySem.W.nsIn K mainGlobals "len" = some none)
    (z_list : PySem.W.nsIn K mainGlobals "list" = some none)
    (z_max : PySem.W.nsIn K mainGlobals "max" = some none)
    (z_min : PySem.W.nsIn K mainGlobals "min" = some none)
    (z_range : PySem.W.nsIn K mainGlobals "range" = some none)
    (z_repr : PySem.W.nsIn K mainGlobals "repr" = some none)
    (z_sorted : PySem.W.nsIn K mainGlobals "sorted" = some none)
    (z_tuple : PySem.W.nsIn K mainGlobals "tuple" = some none)
    (z_zip : PySem.W.nsIn K mainGlobals "zip" = some none)
    : ∃ fd : FuncData, (∀ (s : Shared) (v : Value), BindsTo s fd ⟨[v], []⟩ [("script", v)]) ∧ ∀ base : Heap, K.In base → base.Ns mainGlobals mg → SysIn base → GFn l.prog w K mg base CX0 4 fa fd ["script"] (spLaw K) := by
  have e := hfa.symm.trans (PySem.W.mg_of X G a14)
  cases e
  have F := fun_mk (st := s_law) l14 c14 k14
  have B : Bi mg := ⟨PySem.W.mg_none_of X G z_abs, PySem.W.mg_none_of X G z_enumerate, PySem.W.mg_none_of X G z_int, PySem.W.mg_none_of X G z_isinstance, PySem.W.mg_none_of X G z_len, PySem.W.mg_none_of X G z_list, PySem.W.mg_none_of X G z_max, PySem.W.mg_none_of X G z_min, PySem.W.mg_none_of X G z_range, PySem.W.mg_none_of X G z_repr, PySem.W.mg_none_of X G z_sorted, PySem.W.mg_none_of X G z_tuple, PySem.W.mg_none_of X G z_zip⟩
  have T : All K mg := ⟨here_mk X G a1 l1 c1 k1, here_mk X G a2 l2 c2 k2, here_mk X G a3 l3 c3 k3, here_mk X G a4 l4 c4 k4, here_mk X G a5 l5 c5 k5, here_mk X G a6 l6 c6 k6, here_mk X G a7 l7 c7 k7, here_mk X G a8 l8 c8 k8, here_mk X G a9 l9 c9 k9, here_mk X G a10 l10 c10 k10, here_mk X G a11 l11 c11 k11, here_mk X G a12 l12 c12 k12, here_mk X G a13 l13 c13 k13⟩
  exact ⟨_, fun s v => .of_eq rfl, fun base _ _ hs => PL B hs T F⟩
end K56
open PySem PySem.W PyProof.Rows
set_option maxHeartbeats 0 in
theorem PySem.Challenge.cw_baylines_k56_whole_full_books_and_fewest_holds : PySem.Challenge.rw_baylines_k56_whole_full_books_and_fewest.Holds := by
  w_on; o_law; k_head; (case hw => w_witness2)
  k_fill
  refine DL.law_end (l := PySem.Challenge.rw_baylines_k56_whole_full_books_and_fewest) (k := 4) (x := "script") rfl (by decide +kernel) rfl ⟨rfl, by decide, by decide⟩ (fun w h Y => PySem.W.kIn_of Y) ?F
  case F =>
    intro w mg fa h KX G hmg
    refine' K56.all_mk KX G hmg ?a1 ?l1 ?c1 ?k1 ?a2 ?l2 ?c2 ?k2 ?a3 ?l3 ?c3 ?k3 ?a4 ?l4 ?c4 ?k4 ?a5 ?l5 ?c5 ?k5 ?a6 ?l6 ?c6 ?k6 ?a7 ?l7 ?c7 ?k7 ?a8 ?l8 ?c8 ?k8 ?a9 ?l9 ?c9 ?k9 ?a10 ?l10 ?c10 ?k10 ?a11 ?l11 ?c11 ?k11 ?a12 ?l12 ?c12 ?k12 ?a13 ?l13 ?c13 ?k13 ?a14 ?l14 ?c14 ?k14 ?z_abs ?z_enumerate ?z_int ?z_isinstance ?z_len ?z_list ?z_max ?z_min ?z_range ?z_repr ?z_sorted ?z_tuple ?z_zip
    (case a1 => k_is); (case l1 => k_is); (case c1 => k_is); (case k1 => k_is); (case a2 => k_is); (case l2 => k_is); (case c2 => k_is); (case k2 => k_is); (case a3 => k_is); (case l3 => k_is); (case c3 => k_is); (case k3 => k_is); (case a4 => k_is); (case l4 => k_is); (case c4 => k_is); (case k4 => k_is); (case a5 => k_is); (case l5 => k_is); (case c5 => k_is); (case k5 => k_is); (case a6 => k_is); (case l6 => k_is); (case c6 => k_is); (case k6 => k_is); (case a7 => k_is); (case l7 => k_is); (case c7 => k_is); (case k7 => k_is); (case a8 => k_is); (case l8 => k_is); (case c8 => k_is); (case k8 => k_is); (case a9 => k_is); (case l9 => k_is); (case c9 => k_is); (case k9 => k_is); (case a10 => k_is); (case l10 => k_is); (case c10 => k_is); (case k10 => k_is); (case a11 => k_is); (case l11 => k_is); (case c11 => k_is); (case k11 => k_is); (case a12 => k_is); (case l12 => k_is); (case c12 => k_is); (case k12 => k_is); (case a13 => k_is); (case l13 => k_is); (case c13 => k_is); (case k13 => k_is); (case a14 => k_is); (case l14 => k_is); (case c14 => k_is); (case k14 => k_is); (case z_abs => k_is); (case z_enumerate => k_is); (case z_int => k_is); (case z_isinstance => k_is); (case z_len => k_is); (case z_list => k_is); (case z_max => k_is); (case z_min => k_is); (case z_range => k_is); (case z_repr => k_is); (case z_sorted => k_is); (case z_tuple => k_is); (case z_zip => k_is)
